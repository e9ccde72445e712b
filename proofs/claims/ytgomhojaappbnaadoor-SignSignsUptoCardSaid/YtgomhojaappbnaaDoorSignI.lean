/- The walk of the document's digits. -/
import Derived.Test.YtgomhojaappbnaaDoorRowI
import Derived.Test.YtgomhojaappbnaaDoorSignG
namespace Go.Proofs.YtgomhojaappbnaaDoor
open Go Go.RowKit

set_option maxHeartbeats 4000000 in
set_option maxRecDepth 100000 in
theorem rdigits_any (v1 v3 : Value) (root msg : List UInt8) (key : Nat) (w : World) (h1 : Rd w w.heap.size v1 root) (h3 : Rd w w.heap.size v3 msg) (hkey : key ≤ 1000) (fr : TypeId × Nat × Nat) (hk : w.heap[1]? = some (.cells kVals fr.1 fr.2)) :
    Calls Tryd.prog 27 #[v1, .int .i64 (key : Int), v3] w fun e w' => ∃ v', e = .returned v' ∧ OwnI w' w.heap.size v' (digitsL root key msg) ∧ Below w.heap.size w w' := by
  obtain ⟨i0, hi, hz, hsz, hby⟩ := info_parts Tryd.infoInt
  have hn0 := blk_lt hk
  have HK := Lib.hid hk
  clear hk
  have N1 := Lib.hid (fun W : World => rn_any key W hkey)
  obtain ⟨A1, c1, rfl⟩ := h1.form
  obtain ⟨A3, c3, rfl⟩ := h3.form
  go_enter Tryd.func27, Tryd.ntmps27
  go_wp2_with fail
  refine (N1.out _).mono ?_
  rintro e w3 ⟨vk, rfl, hok, hb3⟩
  obtain ⟨Ak, ck, rfl⟩ := hok.form' (be_length key 8)
  have hr1 := h1.up (Nat.le_refl _) hb3
  have hr3 := h3.up (Nat.le_refl _) hb3
  have hp := partsOf3 w3 _ _ _ _ _ _ 22 hr1 hok.rd hr3
  have hbx : Below w3.heap.size w3 (w3.alloc (.cells #[.slice A1 root.length c1, .slice Ak 8 ck, .slice A3 msg.length c3] 22)) := (Below.refl _ _).alloc (Nat.le_refl _) _
  clear hok hr1 hr3
  go_wp2_with fail
  generalize w3.alloc (.cells #[.slice A1 root.length c1, .slice Ak 8 ck, .slice A3 msg.length c3] 22) = w4 at *
  have hq4 := below_chain hb3 hb3.size hbx
  refine (rtagged_any signedWord _ [root, be key 8, msg] w4 hp (by unfold maxLen signedWord; decide) (by simp) fr ((hq4.block _ hn0).trans HK.out)).mono ?_
  rintro e w5 ⟨v5, rfl, ho5, hb5⟩
  have hD : Hid (digitsL root key msg = digitsH (shaSum (formB (strBytes signedWord) ++ formBs [root, be key 8, msg]))) := Lib.hid rfl
  have hSl := shaSum_length (formB (strBytes signedWord) ++ formBs [root, be key 8, msg])
  generalize shaSum (formB (strBytes signedWord) ++ formBs [root, be key 8, msg]) = S at *
  obtain ⟨A5, c5, rfl⟩ := ho5.form' hSl
  have hq5 := below_chain hq4 hq4.size hb5
  have hrS := ho5.rd
  obtain ⟨-, b, o, rfl, hlb, hcell⟩ := hrS.cell (by omega)
  have HC := Lib.hid hcell
  have HSl := Lib.hid hSl
  clear hbx hp hb5 ho5 hq4 hb3 hcell hSl hrS
  go_wp2_with fail
  go_loopw [8, 9, 10] (fun ov sv i wr => ∃ k : Nat, k ≤ 8 ∧ i = .int .i64 (k : Int) ∧ sv = .int .i64 (short (S.take k) : Int) ∧ OwnI wr w5.heap.size ov (digs (S.take k)) ∧ Below w5.heap.size w5 wr)
    (fun _ _ i _ => 8 - (intOf i).toNat)
  case atStart => exact ⟨0, by omega, rfl, rfl, OwnI.nil _ _, Below.refl _ _⟩
  case round =>
    obtain ⟨k, hk8, rfl, rfl, ho, hb⟩ := hrel
    have hsl := short_le (S.take k)
    rw [List.length_take, HSl.out] at hsl
    have hdl : (digs (S.take k)).length ≤ 16 := by rw [digs_length, List.length_take, HSl.out]; omega
    obtain ⟨s, hs⟩ : ∃ s, s = short (S.take k) := ⟨_, rfl⟩
    have hs240 : s ≤ 240 := by omega
    by_cases hlt : k < 8
    · have hkS : k < S.length := by have := HSl.out; omega
      have hD1 := Lib.hid (digs_snoc S k hkS)
      have hD2 := Lib.hid (short_snoc S k hkS)
      have hx : wr.cell? ⟨b, o + k, none⟩ = some (.int .u8 (S[k].toNat : Int)) := (hb.cell (p := ⟨b, o + k, none⟩) hlb).trans (HC.out k hkS)
      generalize S[k] = x at *
      have i1 : (k : Int) < 8 := by omega
      have j0 : (0 : Int) ≤ (k : Int) := by omega
      have i32 : (k : Int) < 32 := by omega
      have hxl : x.toNat < 256 := x.toNat_lt
      have hAnd := and15 x
      have hdl2 : (digs (S.take k)).length ≤ 1000 := by omega
      generalize digs (S.take k) = DD at *
      rw [← hs] at hsl hD2 ⊢
      clear hs hdl
      obtain ⟨Ao, co, rfl⟩ := ho.form
      go_wp2_with fail
      go_quiet (fail)
      have hbz : Below w5.heap.size w5 (wr.drewN nq) := below_drewN' hb nq
      have hoz : OwnI (wr.drewN nq) w5.heap.size (.slice Ao DD.length co) DD := ho
      generalize wr.drewN nq = wz at *
      clear hx hb ho hAnd
      obtain ⟨a, ha⟩ : ∃ a, a = x.toNat / 16 := ⟨_, rfl⟩
      obtain ⟨d, hd⟩ : ∃ d, d = x.toNat % 16 := ⟨_, rfl⟩
      have e1 : (x.toNat : Int) / 16 = (a : Int) := by omega
      have e2 : (x.toNat : Int) % 16 = (d : Int) := by omega
      have ha15 : a ≤ 15 := by omega
      have hd15 : d ≤ 15 := by omega
      rw [e1, e2]
      rw [← ha, ← hd] at hD1 hD2
      clear e1 e2 ha hd hxl
      have hx1 : Below wz.heap.size wz (wz.alloc (.cells #[.int .i64 (a : Int)] 3)) := (Below.refl _ _).alloc (Nat.le_refl _) _
      have hc1 : (wz.alloc (.cells #[.int .i64 (a : Int)] 3)).cell? ⟨wz.heap.size, 0, none⟩ = some (.int .i64 (a : Int)) := blk_cell (heap_alloc_new wz _) 0
      have hy1 := below_chain hbz hbz.size hx1
      have ho1 := hoz.up hx1
      have hlA : (DD ++ [a]).length ≤ 1000 := by have := hD1.out; have h2 := digs_length (S.take (k + 1)); rw [this, List.length_append, List.length_take] at h2; simp only [List.length_append, List.length_cons, List.length_nil] at h2 ⊢; omega
      have HN : Hid ((s : Int) + (30 - (a : Int) - (d : Int)) = ((short (S.take (k + 1)) : Nat) : Int)) := Lib.hid (by rw [hD2.out]; omega)
      clear hD2 hsl hx1
      go_wp2_with (at_builtin; first
        | (refine wpList_append_int rfl (.tmp 35) (.tmp 37) _ rfl i0 Tryd.underlying48 hi hz hsz hby rfl ho1 rfl hc1 hdl2 hy1.size ?_; intro v6 w6 ho6 hg6
           have hy6 := ho1.below hy1 hy1.size hg6
           have hx6 : Below w6.heap.size w6 (w6.alloc (.cells #[.int .i64 (d : Int)] 3)) := (Below.refl _ _).alloc (Nat.le_refl _) _
           have hc6 : (w6.alloc (.cells #[.int .i64 (d : Int)] 3)).cell? ⟨w6.heap.size, 0, none⟩ = some (.int .i64 (d : Int)) := blk_cell (heap_alloc_new w6 _) 0
           have hy7 := below_chain hy6 hy6.size hx6
           have ho7 := ho6.up hx6
           clear ho1 hg6 hc1 hy1 hx6)
        | (refine wpList_append_int rfl (.tmp 39) (.tmp 41) _ rfl i0 Tryd.underlying48 hi hz hsz hby rfl ho7 rfl hc6 hlA hy7.size ?_; intro v8 w8 ho8 hg8
           have hy8 := ho7.below hy7 hy7.size hg8
           clear ho7 hg8 hc6 hy7 hy6 ho6))
      go_roundw
      case rel => exact ⟨k + 1, by omega, by go_num, by rw [HN.out], by rw [hD1.out]; exact ho8, hy8⟩
      case measure => simp [intOf]; omega
    · have i1 : ¬ (k : Int) < 8 := by omega
      obtain rfl : k = 8 := by omega
      have hH : Hid (digitsL root key msg = (digs (S.take 8) ++ [s / 16]) ++ [s % 16]) := Lib.hid (by rw [hD.out, digitsH, List.append_assoc, ← hs]; rfl)
      have hdl2 : (digs (S.take 8)).length ≤ 1000 := by omega
      have hlA : (digs (S.take 8) ++ [s / 16]).length ≤ 1000 := by rw [List.length_append]; simp only [List.length_cons, List.length_nil]; omega
      generalize digs (S.take 8) = DD at *
      rw [← hs]
      clear hs hdl hsl hD HC
      obtain ⟨a, ha⟩ : ∃ a, a = s / 16 := ⟨_, rfl⟩
      obtain ⟨d, hd⟩ : ∃ d, d = s % 16 := ⟨_, rfl⟩
      rw [← ha] at hlA
      rw [← ha, ← hd] at hH
      have e1 : Hid ((s : Int) / 16 = (a : Int)) := Lib.hid (by omega)
      have e2 : Hid ((s : Int) % 16 = (d : Int)) := Lib.hid (by omega)
      clear ha hd
      have hx1 : Below wr.heap.size wr (wr.alloc (.cells #[.int .i64 ((s : Int) / 16)] 3)) := (Below.refl _ _).alloc (Nat.le_refl _) _
      have hc1 : Hid ((wr.alloc (.cells #[.int .i64 ((s : Int) / 16)] 3)).cell? ⟨wr.heap.size, 0, none⟩ = some (.int .i64 (a : Int))) := Lib.hid (by rw [e1.out]; exact blk_cell (heap_alloc_new wr _) 0)
      have hy1 := below_chain hb hb.size hx1
      have ho1 := ho.up hx1
      obtain ⟨Ao, co, rfl⟩ := ho.form
      clear hx1 ho hb
      go_wp2_with (at_builtin; first
        | (refine wpList_append_int rfl (.tmp 49) (.tmp 52) _ rfl i0 Tryd.underlying48 hi hz hsz hby rfl ho1 rfl hc1.out hdl2 hy1.size ?_; intro v6 w6 ho6 hg6
           have hy6 := ho1.below hy1 hy1.size hg6
           have hx6 : Below w6.heap.size w6 (w6.alloc (.cells #[.int .i64 ((s : Int) % 16)] 3)) := (Below.refl _ _).alloc (Nat.le_refl _) _
           have hc6 : Hid ((w6.alloc (.cells #[.int .i64 ((s : Int) % 16)] 3)).cell? ⟨w6.heap.size, 0, none⟩ = some (.int .i64 (d : Int))) := Lib.hid (by rw [e2.out]; exact blk_cell (heap_alloc_new w6 _) 0)
           have hy7 := below_chain hy6 hy6.size hx6
           have ho7 := ho6.up hx6
           clear ho1 hg6 hc1 hy1 hx6)
        | (refine wpList_append_int rfl (.tmp 54) (.tmp 57) _ rfl i0 Tryd.underlying48 hi hz hsz hby rfl ho7 rfl hc6.out hlA hy7.size ?_; intro v8 w8 ho8 hg8
           have hy8 := ho7.below hy7 hy7.size hg8
           clear ho7 hg8 hc6 hy7 hy6 ho6))
      go_ret
      rw [hH.out]
      exact ⟨_, rfl, ho8.more hq5.size, below_chain hq5 hq5.size hy8⟩
end Go.Proofs.YtgomhojaappbnaaDoor
