
/- The walks of package wire: a copy with room; a number's bytes behind others. The walks of package wire: a number put. The walks of package wire: a text put. The walks of package wire: bytes put. -/
import Derived.Test.YtpcoonnfaoakhaaInfo1
import Derived.Test.YtpcoonnfaoakhaaBase0
namespace Go.Proofs.Ytpcoonnfaoakhaa
set_option maxRecDepth 100000
open Go.RowKit

set_option maxHeartbeats 400000 in
theorem grown_any (v : Value) (l : List UInt8) (more : Int) (w : World) (hr : Rd w w.heap.size v l) (h0 : 0 ≤ more) (hm : l.length + more ≤ 140737488355328) :
    Calls Try.prog 30 #[v, .int .i64 more] w fun e w' => ∃ v', e = .returned v' ∧ Own w' w.heap.size v' l ∧ Below w.heap.size w w' := by
  obtain ⟨i0, hi, hz, hsz, hby⟩ := info_parts Try.infoByte
  obtain ⟨m, rfl⟩ := Int.eq_ofNat_of_zero_le h0
  have hr0 := hr
  obtain ⟨A, c, rfl, hc, hcm, hp⟩ := hr
  have hmk : ∀ W : World, (Instr.makeSlice 24 (.int .i64 (l.length : Int)) (.int .i64 ((l.length : Int) + (m : Int)))).run Try.prog W = .ok (.slice (some ⟨W.heap.size, 0, none⟩) l.length (l.length + m)) (W.alloc (.cells (List.replicate (l.length + m) (Value.int .u8 0)).toArray 5)) := by
    intro W
    rw [run_make W 24 5 i0 (.int .u8 0) Try.underlying24 hi hz .i64 .i64 l.length (l.length + m) (by omega) (by omega) (by rw [hby]; omega) (by omega)]
    have e1 : ((l.length : Int) + (m : Int)).toNat = l.length + m := by omega
    rw [e1, hsz, Nat.mul_one]
    congr 3
    apply Array.ext'
    rw [show (Value.int IntKind.u8 0).cells = #[Value.int .u8 0] from rfl, toList_madeCells_one]
  have hmb : (m : Int) ≤ 140737488355328 := by omega
  have hlb : (l.length : Int) ≤ 140737488355328 := by omega
  go_enter Try.func30, Try.ntmps30
  go_wp2_with (refine wpList_copy_rd rfl (.tmp 13) (.tmp 14) _ rfl Try.underlying24 Try.sizeByte rfl rfl ((hr0.more (Nat.le_refl _)).keep (fun p hp' => World.cell?_alloc_lt w _ p hp')) rfl (heap_alloc_new w _) (by omega) (by simp) (by simp only [maxLen]; omega) (Nat.le_refl _) ?_; intro w1 hown1 hb1 hs1)
  go_ret
  exact ⟨_, rfl, hown1, ((Below.refl _ _).alloc (Nat.le_refl _) _).trans hb1⟩

set_option maxHeartbeats 400000 in
theorem appendHigh_any (v : Value) (l : List UInt8) (n size : Nat) (B : Nat) (w : World) (hown : Own w B v l) (hn : n < 18446744073709551616) (hs : size ≤ 8) (hl : l.length ≤ 140737488355320) (hB : B ≤ w.heap.size) :
    Calls Try.prog 29 #[v, .int .u64 (n : Int), .int .i64 (size : Int)] w fun e w' => ∃ v', e = .returned v' ∧ Own w' B v' (l ++ be n size) ∧ Below B w w' := by
  obtain ⟨i0, hi, hz, hsz, hby⟩ := info_parts Try.infoByte
  go_enter Try.func29, Try.ntmps29
  go_wp2
  go_loopw [0, 7] (fun b i wr => ∃ (r : Nat) (dn : List UInt8), r ≤ size ∧ dn.length + r = size ∧ i = .int .i64 ((r : Int) - 1) ∧ dn ++ be n r = be n size ∧ Own wr B b (l ++ dn) ∧ Below B w wr)
    (fun _ i _ => (intOf i + 1).toNat)
  case atStart => exact ⟨size, [], Nat.le_refl _, by simp, rfl, rfl, by simpa using hown, Below.refl _ _⟩
  case round =>
    obtain ⟨r, dn, hr, hdn, rfl, hbe, ho, hbw⟩ := hrel
    have HD := Lib.hid hdn
    have HB := Lib.hid hbe
    clear hdn hbe
    by_cases h0 : r = 0
    · subst h0
      go_wp2
      go_ret
      refine ⟨_, rfl, ?_, hbw⟩
      have := HB.out
      simp only [be, List.append_nil] at this
      rw [← this]
      exact ho
    · obtain ⟨q, rfl⟩ : ∃ q, r = q + 1 := ⟨r - 1, by omega⟩
      have hdl : dn.length ≤ 7 := by have := HD.out; omega
      go_wp2_with (at_builtin; refine wpList_append_rd rfl (.tmp 14) (.tmp 20) _ rfl i0 Try.underlying24 hi hz hsz hby rfl (ho.alloc _) rfl (rd_lit wr _ [UInt8.ofNat (n / 2 ^ (8 * q))] 1 rfl (by simp [bcells, bval]) (by simp [maxLen])) (by simp; omega) (by have := hbw.size; simp; omega) ?_; intro v1 w1 ho1 hg1 _)
      have hb1 : Below B w w1 := Own.below_grown (hbw.alloc (by have := hbw.size; omega) _) (ho.alloc _) (Nat.le_refl _) (by have := hbw.size; simp; omega) hg1
      clear hg1 ho hbw
      go_roundw
      case rel => exact ⟨q, dn ++ [UInt8.ofNat (n / 2 ^ (8 * q))], by omega, by have := HD.out; simp; omega, by go_num, by have := HB.out; simp only [be] at this; rw [← this]; simp, by rw [← List.append_assoc]; exact ho1, hb1⟩
      case measure => first | (simp [intOf]; done) | (simp [intOf]; omega)
end Go.Proofs.Ytpcoonnfaoakhaa
namespace Go.Proofs.Ytpcoonnfaoakhaa
set_option maxRecDepth 100000
open Go.RowKit

set_option maxHeartbeats 400000 in
theorem N_any (v : Value) (l : List UInt8) (n : Nat) (w : World) (hr : Rd w w.heap.size v l) (hn : n < 18446744073709551616) (hl : l.length ≤ 140737488355320) :
    Calls Try.prog 9 #[v, .int .u64 (n : Int)] w fun e w' => ∃ v', e = .returned v' ∧ Own w' w.heap.size v' (l ++ be n 8) ∧ Below w.heap.size w w' := by
  go_enter Try.func9, Try.ntmps9
  go_wp2_with fail
  refine (grown_any v l 8 w hr (by omega) (by omega)).mono ?_
  rintro e w1 ⟨v1, rfl, ho1, hb1⟩
  go_wp2_with fail
  refine (appendHigh_any v1 l n 8 w.heap.size w1 ho1 hn (by omega) (by omega) hb1.size).mono ?_
  rintro e w2 ⟨v2, rfl, ho2, hb2⟩
  go_wp2_with fail
  go_ret
  exact ⟨_, rfl, ho2, hb1.trans hb2⟩


theorem N_int (v : Value) (l : List UInt8) (n : Int) (w : World) (hr : Rd w w.heap.size v l) (h0 : 0 ≤ n) (hn : n < 18446744073709551616) (hl : l.length ≤ 140737488355320) :
    Calls Try.prog 9 #[v, .int .u64 n] w fun e w' => ∃ v', e = .returned v' ∧ Own w' w.heap.size v' (l ++ be n.toNat 8) ∧ Below w.heap.size w w' := by
  obtain ⟨n, rfl⟩ := Int.eq_ofNat_of_zero_le h0
  exact N_any v l n w hr (by omega) hl
end Go.Proofs.Ytpcoonnfaoakhaa
namespace Go.Proofs.Ytpcoonnfaoakhaa
set_option maxRecDepth 100000
open Go.RowKit

set_option maxHeartbeats 400000 in
theorem T_any (v : Value) (s : ByteArray) (l : List UInt8) (w : World) (hr : Rd w w.heap.size v l) (hsm : s.size ≤ maxLen) (hl : l.length ≤ 140737488355328 - 65539) :
    Calls Try.prog 11 #[v, .string s] w fun e w' => ∃ v', e = .returned v' ∧ Own w' w.heap.size v' (l ++ be ((strBytes s).take 65535).length 4 ++ (strBytes s).take 65535) ∧ Below w.heap.size w w' := by
  obtain ⟨i0, hi, hz, hsz, hby⟩ := info_parts Try.infoByte
  unfold maxLen at hsm
  have hln := strBytes_length s
  by_cases h0 : s.size ≤ 65535
  · have ht : (strBytes s).take 65535 = strBytes s := List.take_of_length_le (by omega)
    rw [ht, hln]
    clear hln ht
    go_enter Try.func11, Try.ntmps11
    go_wp2_with fail
    refine (grown_any v l _ w hr (by omega) (by omega)).mono ?_
    rintro e w1 ⟨v1, rfl, ho1, hb1⟩
    go_wp2_with fail
    refine (appendHigh_any v1 l s.size 4 w.heap.size w1 ho1 (by omega) (by omega) (by omega) hb1.size).mono ?_
    rintro e w2 ⟨v2, rfl, ho2, hb2⟩
    have hb12 := hb1.trans hb2
    go_wp2_with (at_builtin; refine wpList_append_str rfl (.tmp 20) (.tmp 21) _ _ rfl i0 Try.underlying24 Try.isString hi hz hsz hby rfl ho2 rfl (by simp [be_length]; omega) hb12.size ?_; intro v3 w3 ho3 hg3)
    go_ret
    exact ⟨_, rfl, ho3, Own.below_grown hb12 ho2 (Nat.le_refl _) hb12.size hg3⟩
  · have htl : ((strBytes s).take 65535).length = 65535 := by simp; omega
    have hxl : (s.extract 0 65535).size = 65535 := by rw [← strBytes_length, strBytes_extract]; exact htl
    have h1 : ¬ (s.size : Int) ≤ 65535 := by omega
    have hbnd : (65535 : Int) ≤ (s.size : Int) := by omega
    rw [← strBytes_extract] at htl ⊢
    have HX := Lib.hid hxl
    have HT := Lib.hid htl
    clear hxl htl
    go_enter Try.func11, Try.ntmps11
    go_wp2_with fail
    have hmin : min 65535 s.size = 65535 := by omega
    rw [hmin]
    refine (grown_any v l _ w hr (by omega) (by omega)).mono ?_
    rintro e w1 ⟨v1, rfl, ho1, hb1⟩
    clear hmin
    go_wp2_with fail
    have hmin : min 65535 s.size = 65535 := by omega
    rw [hmin]
    clear hmin
    refine (appendHigh_any v1 l 65535 4 w.heap.size w1 ho1 (by omega) (by omega) (by omega) hb1.size).mono ?_
    rintro e w2 ⟨v2, rfl, ho2, hb2⟩
    have hb12 := hb1.trans hb2
    go_wp2_with (at_builtin; refine wpList_append_str rfl (.tmp 20) (.tmp 21) _ _ rfl i0 Try.underlying24 Try.isString hi hz hsz hby rfl ho2 rfl (by have := HX.out; simp [be_length]; omega) hb12.size ?_; intro v3 w3 ho3 hg3)
    go_ret
    exact ⟨_, rfl, by rw [HT.out]; exact ho3, Own.below_grown hb12 ho2 (Nat.le_refl _) hb12.size hg3⟩


end Go.Proofs.Ytpcoonnfaoakhaa
namespace Go.Proofs.Ytpcoonnfaoakhaa
set_option maxRecDepth 100000
open Go.RowKit

set_option maxHeartbeats 400000 in
theorem B_any (v x : Value) (l m : List UInt8) (w : World) (hr : Rd w w.heap.size v l) (hx : Rd w w.heap.size x m) (hl : l.length ≤ 140737488355328 - 65539) :
    Calls Try.prog 10 #[v, x] w fun e w' => ∃ v', e = .returned v' ∧ Own w' w.heap.size v' (l ++ be (m.take 65535).length 4 ++ m.take 65535) ∧ Below w.heap.size w w' := by
  obtain ⟨i0, hi, hz, hsz, hby⟩ := info_parts Try.infoByte
  have hml := hx.len
  unfold maxLen at hml
  by_cases h0 : m.length ≤ 65535
  · have ht : m.take 65535 = m := List.take_of_length_le h0
    rw [ht]
    have hx0 := hx
    obtain ⟨A, c, rfl, hc, hcm, hp⟩ := hx
    go_enter Try.func10, Try.ntmps10
    go_wp2_with fail
    refine (grown_any v l _ w hr (by omega) (by omega)).mono ?_
    rintro e w1 ⟨v1, rfl, ho1, hb1⟩
    go_wp2_with fail
    refine (appendHigh_any v1 l m.length 4 w.heap.size w1 ho1 (by omega) (by omega) (by omega) hb1.size).mono ?_
    rintro e w2 ⟨v2, rfl, ho2, hb2⟩
    have hb12 := hb1.trans hb2
    go_wp2_with (at_builtin; refine wpList_append_rd rfl (.tmp 20) (.tmp 21) _ rfl i0 Try.underlying24 hi hz hsz hby rfl ho2 rfl (hx0.below hb12) (by simp [be_length]; omega) hb12.size ?_; intro v3 w3 ho3 hg3 _)
    go_ret
    exact ⟨_, rfl, ho3, Own.below_grown hb12 ho2 (Nat.le_refl _) hb12.size hg3⟩
  · have hx0 := hx
    obtain ⟨A, c, rfl, hc, hcm, hp⟩ := hx
    have htl : (m.take 65535).length = 65535 := by simp; omega
    have hx1 : Rd w w.heap.size (.slice A 65535 c) (m.take 65535) := by
      obtain ⟨b, o, rfl, hb, hcell⟩ := hp (by omega)
      refine ⟨_, c, by rw [htl], by omega, hcm, fun _ => ⟨b, o, rfl, hb, fun j hj => ?_⟩⟩
      rw [hcell j (by omega)]
      simp
    have h1 : ¬ (m.length : Int) ≤ 65535 := by omega
    generalize m.take 65535 = t at *
    go_enter Try.func10, Try.ntmps10
    go_wp2_with fail
    refine (grown_any v l _ w hr (by omega) (by omega)).mono ?_
    rintro e w1 ⟨v1, rfl, ho1, hb1⟩
    go_wp2_with fail
    refine (appendHigh_any v1 l 65535 4 w.heap.size w1 ho1 (by omega) (by omega) (by omega) hb1.size).mono ?_
    rintro e w2 ⟨v2, rfl, ho2, hb2⟩
    have hb12 := hb1.trans hb2
    have HT := Lib.hid htl
    clear htl
    go_wp2_with (at_builtin; refine wpList_append_rd rfl (.tmp 20) (.tmp 21) _ rfl i0 Try.underlying24 hi hz hsz hby rfl ho2 rfl (hx1.below hb12) (by have := HT.out; simp [be_length]; omega) hb12.size ?_; intro v3 w3 ho3 hg3 _)
    go_ret
    exact ⟨_, rfl, by rw [HT.out]; exact ho3, Own.below_grown hb12 ho2 (Nat.le_refl _) hb12.size hg3⟩
end Go.Proofs.Ytpcoonnfaoakhaa
