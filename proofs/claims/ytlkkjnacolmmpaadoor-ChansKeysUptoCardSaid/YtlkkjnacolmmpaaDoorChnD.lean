
/- The walk of a new channel. -/
import Derived.Test.YtlkkjnacolmmpaaDoorChnC
namespace Go.Proofs.YtlkkjnacolmmpaaDoor
set_option maxRecDepth 100000
open Go Go.RowKit
set_option linter.unusedVariables false

theorem chnext_any (a : ByteArray) (w : World) (ha : a.size ≤ 100000000) : Calls Tryd.prog 107 #[.string a] w fun e w' => e = .returned (.string (nextP ++ a)) ∧ w = w' := by
  have s1 : nextP.size = 9 := rfl
  have h1 := fun W => txt_add nextP a (by rw [s1]; omega) W
  unfold nextP at *
  go_enter Tryd.func107, Tryd.ntmps107
  go_wp2
  go_ret
  exact ⟨rfl, rfl⟩
theorem chrecv_any (a : ByteArray) (w : World) (ha : a.size ≤ 100000000) : Calls Tryd.prog 120 #[.string a] w fun e w' => e = .returned (.string (recvP ++ a)) ∧ w = w' := by
  have s1 : recvP.size = 9 := rfl
  have h1 := fun W => txt_add recvP a (by rw [s1]; omega) W
  unfold recvP at *
  go_enter Tryd.func120, Tryd.ntmps120
  go_wp2
  go_ret
  exact ⟨rfl, rfl⟩
theorem chacked_any (a : ByteArray) (w : World) (ha : a.size ≤ 100000000) : Calls Tryd.prog 121 #[.string a] w fun e w' => e = .returned (.string (ackedP ++ a)) ∧ w = w' := by
  have s1 : ackedP.size = 10 := rfl
  have h1 := fun W => txt_add ackedP a (by rw [s1]; omega) W
  unfold ackedP at *
  go_enter Tryd.func121, Tryd.ntmps121
  go_wp2
  go_ret
  exact ⟨rfl, rfl⟩

/-- the numbers that a channel begins with -/
def oneR (ks : List ByteArray) (R : List Pr) : List Pr := ks.foldl (fun R s => setL s (be 1 8) R) R
theorem oneR_next (ks : List ByteArray) (R : List Pr) (j : Nat) (h : j < ks.length) : oneR (ks.take (j + 1)) R = setL ks[j] (be 1 8) (oneR (ks.take j) R) := by
  unfold oneR
  rw [← List.take_append_getElem h, List.foldl_append]
  rfl
theorem numN_small (R : List Pr) (kind : ByteArray) (h : numN R kind < 10) : (newID R kind).size = kind.size + 2 := by
  unfold newID
  rw [ByteArray.size_append, ByteArray.size_append, dash_size, decB_size _ h]
set_option maxHeartbeats 8000000 in
theorem chmade_any {W w : World} {y : Lyr} {l : List Lyr} {R : List Pr} {k : Nat} (h : At W y l R k w) (hn : y.n + k + 5 ≤ maxLen) (hs : numN R sChan < 10) (c : ChV) (h_st : c.st < 18446744073709551616) (h_po : c.po.size ≤ maxLen) (h_cp : c.cp.size ≤ maxLen) (h_cn : c.cn.size ≤ maxLen) (h_cc : c.cc.size ≤ maxLen) (h_ve : c.ve.size ≤ maxLen) :
    Calls Tryd.prog 102 #[.pointer (some ⟨y.b, 0, none⟩), c.val] w fun e w' => e = .returned (.string (newID R sChan)) ∧ At W y l (madeCh R c) (k + 5) w' ∧ Kept w w' := by
  have hbox := heap_alloc_new w (.cells #[.int .u64 (c.st : Int), .bool c.od, .string c.po, .string c.cp, .string c.cn, .string c.cc, .string c.ve] 46)
  have ha0 : Below w.heap.size w (w.alloc (.cells #[.int .u64 (c.st : Int), .bool c.od, .string c.po, .string c.cp, .string c.cn, .string c.cc, .string c.ve] 46)) := (Below.refl _ _).alloc (Nat.le_refl _) _
  have A0 := h.up ha0
  generalize hW0 : w.alloc (.cells #[.int .u64 (c.st : Int), .bool c.od, .string c.po, .string c.cp, .string c.cn, .string c.cc, .string c.ve] 46) = W0 at *
  have HN := Lib.hid (newid_any A0 (by omega) sChan (by decide +kernel) hs)
  have zid := numN_small R sChan hs
  have z4 : sChan.size = 4 := rfl
  have hid : (newID R sChan).size ≤ 100 := by omega
  have HP : Hid (∀ Z, At W y l (newR R sChan) (k + 1) Z → Calls Tryd.prog 104 #[.pointer (some ⟨y.b, 0, none⟩), .string (newID R sChan), c.val] Z fun e w' => e = .returned (.tuple #[]) ∧ At W y l (setL (kChn (newID R sChan)) (chB c) (newR R sChan)) (k + 1 + 1) w' ∧ Kept Z w') :=
    Lib.hid fun Z hz => chput_any hz (by omega) _ (by omega) c h_st h_po h_cp h_cn h_cc h_ve
  have hmade : madeCh R c = oneR [nextP ++ newID R sChan, recvP ++ newID R sChan, ackedP ++ newID R sChan] (setL (kChn (newID R sChan)) (chB c) (newR R sChan)) := rfl
  rw [hmade]
  generalize setL (kChn (newID R sChan)) (chB c) (newR R sChan) = R2 at *
  generalize newR R sChan = R1 at *
  generalize newID R sChan = id at *
  have HK1 := Lib.hid (fun Z : World => chnext_any id Z (by omega))
  have HK2 := Lib.hid (fun Z : World => chrecv_any id Z (by omega))
  have HK3 := Lib.hid (fun Z : World => chacked_any id Z (by omega))
  have y1 : (nextP ++ id).size ≤ maxLen := by rw [ByteArray.size_append, show nextP.size = 9 from rfl]; unfold maxLen; omega
  have y2 : (recvP ++ id).size ≤ maxLen := by rw [ByteArray.size_append, show recvP.size = 9 from rfl]; unfold maxLen; omega
  have y3 : (ackedP ++ id).size ≤ maxLen := by rw [ByteArray.size_append, show ackedP.size = 10 from rfl]; unfold maxLen; omega
  generalize nextP ++ id = k1 at *
  generalize recvP ++ id = k2 at *
  generalize ackedP ++ id = k3 at *
  have HNW : Hid (∀ Z : World, Calls Tryd.prog 58 #[.slice none 0 0, .int .u64 1] Z fun e w' => ∃ v', e = .returned v' ∧ Own w' Z.heap.size v' (be 1 8) ∧ Below Z.heap.size Z w') := Lib.hid fun Z => by
    have := N_any (.slice none 0 0) [] 1 Z (Rd.nil _ _) (by decide) (by simp)
    rwa [List.nil_append] at this
  have HSZ := Lib.hid hn
  have HY := Lib.hid (And.intro y1 (And.intro y2 y3))
  have hkW : Kept w W0 := Kept.of_belowX ha0
  obtain ⟨st, od, po, cp, cn, cc, ve⟩ := c
  unfold ChV.val at *
  dsimp only at *
  have HBX := Lib.hid hbox
  clear hmade hid zid z4 hs h A0 hn y1 y2 y3 ha0 h_st h_po h_cp h_cn h_cc h_ve hbox
  unfold sChan at HN
  go_enter Tryd.func102, Tryd.ntmps102
  go_wp2_with fail
  try rw [hW0]
  clear hW0
  refine HN.out.mono ?_
  rintro e w1 ⟨rfl, A1, hk1⟩
  have HP1 := Lib.hid (HP.out _ A1)
  have b0 := hk1.cell (blk_cell HBX.out 0)
  have b1 := hk1.cell (blk_cell HBX.out 1)
  have b2 := hk1.cell (blk_cell HBX.out 2)
  have b3 := hk1.cell (blk_cell HBX.out 3)
  have b4 := hk1.cell (blk_cell HBX.out 4)
  have b5 := hk1.cell (blk_cell HBX.out 5)
  have b6 := hk1.cell (blk_cell HBX.out 6)
  have hkk := hkW.transX hk1
  clear HN HP A1 hkW hk1
  go_wp2_with fail
  refine HP1.out.mono ?_
  rintro e w2 ⟨rfl, A2, hk2⟩
  have hkk2 := hkk.transX hk2
  clear HP1 b0 b1 b2 b3 b4 b5 b6 hkk hk2 HBX
  go_wp2_with fail
  refine (HK1.out _).mono ?_
  rintro e w3 ⟨rfl, rfl⟩
  go_wp2_with fail
  refine (HK2.out _).mono ?_
  rintro e w3 ⟨rfl, rfl⟩
  go_wp2_with fail
  refine (HK3.out _).mono ?_
  rintro e w3 ⟨rfl, rfl⟩
  clear HK1 HK2 HK3
  have hrow := heap_alloc_new w2 (.cells #[.string k1, .string k2, .string k3] 9)
  have hb3 : Below w2.heap.size w2 (w2.alloc (.cells #[.string k1, .string k2, .string k3] 9)) := (Below.refl _ _).alloc (Nat.le_refl _) _
  have A3 := A2.up hb3
  have hkk3 := hkk2.transX (Kept.of_belowX hb3)
  clear A2 hkk2 hb3
  go_wp2_with fail
  generalize w2.alloc (.cells #[.string k1, .string k2, .string k3] 9) = w3 at *
  generalize w2.heap.size = gs at *
  have HR : Hid (∀ Z, Kept w3 Z → ∀ j (hj : j < 3), Z.cell? ⟨gs, j, none⟩ = some (.string ([k1, k2, k3][j])) ∧ ([k1, k2, k3][j]).size ≤ maxLen) := Lib.hid fun Z hz j hj => by
    obtain ⟨y1, y2, y3⟩ := HY.out
    match j, hj with
    | 0, _ => exact ⟨hz.cell (blk_cell hrow 0), y1⟩
    | 1, _ => exact ⟨hz.cell (blk_cell hrow 1), y2⟩
    | 2, _ => exact ⟨hz.cell (blk_cell hrow 2), y3⟩
  clear hrow HY
  have HA3 := Lib.hid (And.intro A3 hkk3)
  clear A3 hkk3
  go_loopw [7, 22] (fun _ i Z => ∃ j : Nat, j ≤ 3 ∧ i = .int .i64 (j : Int) ∧ Hid (At W y l (oneR ([k1, k2, k3].take j) R2) (k + 1 + 1 + j) Z ∧ Kept w3 Z))
    (fun _ i _ => 3 - (intOf i).toNat)
  case atStart => exact ⟨0, by omega, rfl, Lib.hid ⟨HA3.out.1, Kept.refl _⟩⟩
  case round =>
    obtain ⟨j, hj, rfl, HX⟩ := hrel
    by_cases hlt : j < 3
    · obtain ⟨c1, hsz⟩ := HR.out _ HX.out.2 j hlt
      have hst := oneR_next [k1, k2, k3] R2 j hlt
      have i1 : (0 : Int) ≤ (j : Int) := by omega
      have i2 : (j : Int) < 3 := by omega
      have HS := Lib.hid (fun (Z : World) (hz : Below wr.heap.size wr Z) (v : Value) (B : Nat) (ho : Own Z B v (be 1 8)) => (HX.out.1.up hz).set (by have := HSZ.out; omega) ([k1, k2, k3][j]) hsz v _ ho.rd)
      generalize [k1, k2, k3][j] = key at *
      have HST := Lib.hid hst
      clear hst hsz
      go_wp2_with fail
      refine (HNW.out _).mono ?_
      rintro e w4 ⟨v4, rfl, ho4, hb4⟩
      have HS4 : Hid (Calls Tryd.prog 40 #[.pointer (some ⟨y.b, 0, none⟩), .string key, v4] w4 fun e w' => (∃ c, e = .returned (.int .i64 c)) ∧ At W y l (setL key (be 1 8) (oneR ([k1, k2, k3].take j) R2)) (k + 1 + 1 + j + 1) w' ∧ Kept w4 w') :=
        Lib.hid ((HS.out _ hb4 v4 _ ho4).mono fun e w' ⟨h1, h2, h3⟩ => ⟨⟨_, h1⟩, h2, h3⟩)
      obtain ⟨A4, c4, rfl⟩ := ho4.form
      generalize (be 1 8).length = n4 at *
      clear HS ho4
      go_wp2_with fail
      refine HS4.out.mono ?_
      rintro e w5 ⟨⟨c5, rfl⟩, A5, hk5⟩
      have hkr := (HX.out.2.transX (Kept.of_belowX hb4)).transX hk5
      go_wp2_with fail
      refine ⟨⟨j + 1, by omega, ?_, Lib.hid ⟨?_, hkr⟩⟩, ?_⟩
      · simp
      · rw [HST.out]; exact A5
      · simp [intOf]; omega
    · have i2 : ¬ (j : Int) < 3 := by omega
      obtain rfl : j = 3 := by omega
      have hk5 := HX.out.2
      have A5 : At W y l (oneR [k1, k2, k3] R2) (k + 5) wr := HX.out.1
      have hkf := HA3.out.2.transX hk5
      clear HX HR HNW
      go_wp2_with fail
      go_ret
      exact ⟨rfl, A5, hkf⟩
end Go.Proofs.YtlkkjnacolmmpaaDoor
