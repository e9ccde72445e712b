
/- The document's merkle: a key, the pairs in order, where a row is cut. The document's merkle: the pairs in order. The document's merkle: a number's bytes, a leaf's hash. -/
import Derived.Test.YtohnhdandkkonaaDoorMerkA0
import Derived.Test.YtohnhdandkkonaaDoorRShaG0
import Derived.Test.YtohnhdandkkonaaDoorRefN
namespace Go.Proofs.YtohnhdandkkonaaDoor
set_option maxRecDepth 100000
open Go Go.RowKit
set_option linter.unusedVariables false
variable {w w' : World} {B : Nat}

theorem rkey_any (s : ByteArray) (w : World) (hs : s.size ≤ maxLen) : Calls Tryd.prog 27 #[.string s] w fun e w' => e = .returned (.bool (keyB s)) ∧ w = w' := by
  unfold maxLen at hs
  by_cases h1 : 1 ≤ s.size
  · by_cases h2 : s.size ≤ 200
    · have e : keyB s = true := by simp [keyB, h1, h2]
      have i1 : (1 : Int) ≤ (s.size : Int) := by omega
      have i2 : (s.size : Int) ≤ 200 := by omega
      rw [e]
      clear e
      go_enter Tryd.func27, Tryd.ntmps27
      go_wp2
      go_ret
      exact ⟨rfl, rfl⟩
    · have e : keyB s = false := by simp [keyB, h2]
      have i1 : (1 : Int) ≤ (s.size : Int) := by omega
      have i2 : decide ((s.size : Int) ≤ 200) = false := by simp; omega
      rw [e]
      clear e
      go_enter Tryd.func27, Tryd.ntmps27
      go_wp2
      go_ret
      exact ⟨rfl, rfl⟩
  · have e : keyB s = false := by simp [keyB, h1]
    have i1 : decide ((1 : Int) ≤ (s.size : Int)) = false := by simp; omega
    rw [e]
    clear e
    go_enter Tryd.func27, Tryd.ntmps27
    go_wp2
    go_ret
    exact ⟨rfl, rfl⟩


theorem cutM_is {m a : Nat} (h1 : 2 ^ a < m) (h2 : m ≤ 2 * 2 ^ a) : cutM m = 2 ^ a := by
  unfold cutM
  have hp : 1 ≤ 2 ^ a := Nat.one_le_two_pow
  have e : Nat.log2 (m - 1) = a := (Nat.log2_eq_iff (by omega)).2 ⟨by omega, by rw [Nat.pow_succ]; omega⟩
  rw [e]

set_option maxHeartbeats 1000000 in
theorem split_any (m : Nat) (w : World) (h2 : 2 ≤ m) (hm : m ≤ 65536) : Calls Tryd.prog 33 #[.int .i64 (m : Int)] w fun e w' => e = .returned (.int .i64 (cutM m : Int)) ∧ w = w' := by
  have HC := Lib.hid (fun (a : Nat) (h1 : 2 ^ a < m) (h2 : m ≤ 2 * 2 ^ a) => cutM_is h1 h2)
  generalize cutM m = z at *
  go_enter Tryd.func33, Tryd.ntmps33
  go_wp2_with fail
  go_loopw [3] (fun kv wr => ∃ k : Nat, kv = .int .i64 (k : Int) ∧ 1 ≤ k ∧ k < m ∧ Hid (∃ a, k = 2 ^ a) ∧ w = wr)
    (fun kv _ => m - (intOf kv).toNat)
  case atStart => exact ⟨1, rfl, by omega, by omega, Lib.hid ⟨0, rfl⟩, rfl⟩
  case round =>
    obtain ⟨k, rfl, hk1, hkm, HA, rfl⟩ := hrel
    by_cases hlt : 2 * k < m
    · have i1 : 2 * (k : Int) < (m : Int) := by omega
      have HA2 : Hid (∃ a, 2 * k = 2 ^ a) := Lib.hid (by obtain ⟨a, ha⟩ := HA.out; exact ⟨a + 1, by rw [Nat.pow_succ, ha]; omega⟩)
      go_wp2_with fail
      exact ⟨⟨2 * k, by go_num, by omega, hlt, HA2, by first | trivial | rfl⟩, by simp [intOf]; omega⟩
    · have i1 : ¬ 2 * (k : Int) < (m : Int) := by omega
      have hres : Hid (z = k) := Lib.hid (by obtain ⟨a, ha⟩ := HA.out; rw [HC.out a (by omega) (by omega), ha])
      go_wp2_with fail
      go_ret
      exact ⟨by rw [hres.out]; rfl, by first | trivial | rfl⟩
end Go.Proofs.YtohnhdandkkonaaDoor
namespace Go.Proofs.YtohnhdandkkonaaDoor
set_option maxRecDepth 100000
open Go Go.RowKit
set_option linter.unusedVariables false
variable {w w' : World} {B : Nat}

theorem rkey_q (s : ByteArray) (hs : s.size ≤ maxLen) (b : Bool) (hb : keyB s = b) (W : World) (n : Nat) : Calls Tryd.prog 27 #[.string s] (W.drewN n) fun e w'' => e = .returned (.bool b) ∧ ∃ m, w'' = W.drewN m :=
  Calls.quiet_of_same (by subst hb; exact (rkey_any s (W.drewN n) hs).mono fun _ _ ⟨he, hw⟩ => ⟨he, hw.symm⟩)

set_option maxHeartbeats 700000 in
theorem right_any (w : World) (v : Value) (ps : List Pr) (hr : RdP w w.heap.size v ps) (hnl : ∀ p ∈ ps, p.1.size ≤ maxLen) :
    Calls Tryd.prog 21 #[v] w fun e w' => e = .returned (.bool (ordB ps)) ∧ Below w.heap.size w w' := by
  obtain ⟨A, c, rfl, hc, hm, hp⟩ := hr
  unfold maxLen at hm
  obtain ⟨n, hn⟩ : ∃ n, n = ps.length := ⟨_, rfl⟩
  rw [← hn] at hc ⊢
  have HN := Lib.hid hn
  have HP := Lib.hid hp
  have HK := Lib.hid hnl
  clear hp hnl hn
  by_cases hbig : n ≤ 65536
  · have i0 : (n : Int) ≤ 65536 := by omega
    have hE : ordB ps = ordR none ps := by unfold ordB; rw [decide_eq_true (by rw [← HN.out]; exact hbig)]; rfl
    rw [hE]
    have HO : Hid (∀ k, k ≤ n → True) := Lib.hid fun _ _ => trivial
    clear hE HO
    go_enter Tryd.func21, Tryd.ntmps21
    go_wp2_with fail
    go_loopw [3, 4, 10] (fun _ _ i wr => ∃ k : Nat, k ≤ n ∧ i = .int .i64 (k : Int) ∧ Hid (ordR none ps = ordR (prevK ps k) (ps.drop k)) ∧ Below w.heap.size w wr)
      (fun _ _ i _ => n - (intOf i).toNat)
    case atStart => exact ⟨0, Nat.zero_le _, rfl, Lib.hid rfl, Below.refl _ _⟩
    case round =>
      obtain ⟨k, hk, rfl, HR, hb⟩ := hrel
      by_cases hlt : k < n
      · have hkl : k < ps.length := by have := HN.out; omega
        obtain ⟨b, o, rfl, hbl, hcell⟩ := HP.out (by omega)
        obtain ⟨q1, x, q2, q3⟩ := hcell k hkl
        have a1 := (hb.cell (p := ⟨b, o + k * 2, none⟩) hbl).trans q1
        have a2 := (hb.cell (p := ⟨b, o + k * 2 + 1, none⟩) hbl).trans q2
        have hst := ordR_step ps k hkl
        rw [← HR.out] at hst
        have hks := HK.out _ (List.getElem_mem hkl)
        have i1 : (0 : Int) ≤ (k : Int) := by omega
        have i2 : (k : Int) < (n : Int) := by omega
        obtain ⟨Ax, cx, rfl⟩ := q3.form
        have hxl : (ps[k].2).length ≤ 9223372036854775807 := q3.len
        have hbx := hb.alloc hb.size (.cells #[.string ps[k].1, .slice Ax ps[k].2.length cx] 31)
        have hprev : ∀ (q : Nat) (hq : q + 1 = k), (wr.alloc (.cells #[.string ps[k].1, .slice Ax ps[k].2.length cx] 31)).cell? ⟨b, o + q * 2, none⟩ = some (.string (ps[q]'(by omega)).1) := fun q hq =>
          (hbx.cell (p := ⟨b, o + q * 2, none⟩) hbl).trans (hcell q (by omega)).1
        have hpk : ∀ (q : Nat) (hq : q + 1 = k), prevK ps k = some (ps[q]'(by omega)).1 := fun q hq => by
          subst hq
          unfold prevK
          rw [if_neg (by omega), Nat.add_sub_cancel, List.getElem?_eq_getElem (by omega)]
          rfl
        have hp0 : k = 0 → prevK ps k = none := fun h0 => by unfold prevK; rw [if_pos h0]
        have hpb : pairB ps[k] = (keyB ps[k].1 && decide (ps[k].2.length ≤ 65535)) := rfl
        generalize ps[k].1 = s at *
        generalize ps[k].2.length = xl at *
        have HBX := Lib.hid hbx
        have HPV := Lib.hid (And.intro hprev (And.intro hpk hp0))
        clear hprev hpk hp0 hcell q1 q2 q3 hb
        cases hkb : keyB s with
        | false =>
          have HC := Lib.hid (rkey_q s hks false hkb)
          have hres : Hid (ordR none ps = false) := Lib.hid (by rw [hst, hpb, hkb]; rfl)
          clear hst hpb hkb
          go_wp2_with fail
          go_quiet ((go_at_call 27; exact HC.out _ _))
          go_wp2_with fail
          go_ret
          exact ⟨by rw [hres.out]; rfl, below_drewN' HBX.out _⟩
        | true =>
          have HC := Lib.hid (rkey_q s hks true hkb)
          by_cases hxl2 : xl ≤ 65535
          · have i3 : (xl : Int) ≤ 65535 := by omega
            have hst2 : ordR none ps = ((match prevK ps k with | none => true | some a => ltS a s) && ordR (prevK ps (k + 1)) (ps.drop (k + 1))) := by rw [hst, hpb, hkb, decide_eq_true hxl2]; rfl
            clear hst hpb hkb
            by_cases h0 : k = 0
            · have hres : Hid (ordR none ps = ordR (prevK ps (k + 1)) (ps.drop (k + 1))) := Lib.hid (by rw [hst2, HPV.out.2.2 h0]; rfl)
              subst h0
              have g1 : decide ((65535 : Int) < (xl : Int)) = false := decide_eq_false (by omega)
              clear hst2 i3
              simp only [Nat.zero_mul, Nat.add_zero] at a1 a2
              go_wp2_with fail
              go_quiet ((go_at_call 27; exact HC.out _ _))
              go_wp2_with fail
              exact ⟨⟨0 + 1, by omega, rfl, hres, below_drewN' HBX.out _⟩, by simp [intOf]; omega⟩
            · have h0' : 0 < k := by omega
              obtain ⟨q, hq⟩ : ∃ q, q + 1 = k := ⟨k - 1, by omega⟩
              have hcq := HPV.out.1 q hq
              have hst3 := hst2
              rw [HPV.out.2.1 q hq] at hst3
              dsimp only at hst3
              have j1 : (0 : Int) < (k : Int) := by omega
              have j2 : IntKind.i64.wrap ((k : Int) - 1) = (q : Int) := by rw [IntKind.wrap_i64]; omega
              have j3 : (q : Int) < (n : Int) := by omega
              have j4 : (0 : Int) ≤ (q : Int) := by omega
              have hql : q < ps.length := by omega
              generalize (ps[q]'(by omega)).1 = s0 at *
              clear hq
              cases hlt0 : ltS s0 s with
              | true =>
                have hres : Hid (ordR none ps = ordR (prevK ps (k + 1)) (ps.drop (k + 1))) := Lib.hid (by rw [hst3, hlt0]; rfl)
                have hl : Op.bytesLess s0.toList s.toList = true := hlt0
                clear hst2 hst3 hlt0
                go_wp2_with fail
                go_quiet ((go_at_call 27; exact HC.out _ _))
                go_wp2_with fail
                exact ⟨⟨k + 1, by omega, by go_num, hres, below_drewN' HBX.out _⟩, by simp [intOf]; omega⟩
              | false =>
                have hres : Hid (ordR none ps = false) := Lib.hid (by rw [hst3, hlt0]; rfl)
                have hl : Op.bytesLess s0.toList s.toList = false := hlt0
                clear hst2 hst3 hlt0
                go_wp2_with fail
                go_quiet ((go_at_call 27; exact HC.out _ _))
                go_wp2_with fail
                go_ret
                exact ⟨by rw [hres.out]; rfl, below_drewN' HBX.out _⟩
          · have i3 : ¬ (xl : Int) ≤ 65535 := by omega
            have hres : Hid (ordR none ps = false) := Lib.hid (by rw [hst, hpb, decide_eq_false hxl2]; simp)
            clear hst hpb hkb
            go_wp2_with fail
            go_quiet ((go_at_call 27; exact HC.out _ _))
            go_wp2_with fail
            go_ret
            exact ⟨by rw [hres.out]; rfl, below_drewN' HBX.out _⟩
      · obtain rfl : k = n := by omega
        have i2 : ¬ (k : Int) < (k : Int) := by omega
        have hres : Hid (ordR none ps = true) := Lib.hid (by rw [HR.out, HN.out]; exact ordR_end ps)
        go_wp2_with fail
        go_ret
        exact ⟨by rw [hres.out]; rfl, hb⟩
  · have i0 : ¬ (n : Int) ≤ 65536 := by omega
    have hE : Hid (ordB ps = false) := Lib.hid (by unfold ordB; rw [decide_eq_false (by rw [← HN.out]; exact hbig)]; rfl)
    go_enter Tryd.func21, Tryd.ntmps21
    go_wp2_with fail
    go_ret
    exact ⟨by rw [hE.out]; rfl, Below.refl _ _⟩

end Go.Proofs.YtohnhdandkkonaaDoor
namespace Go.Proofs.YtohnhdandkkonaaDoor
set_option maxRecDepth 100000
open Go Go.RowKit
set_option linter.unusedVariables false

theorem rn_any (n : Nat) (w : World) (hn : n ≤ 9223372036854775807) :
    Calls Tryd.prog 23 #[.int .i64 (n : Int)] w fun e w' => ∃ v, e = .returned v ∧ Own w' w.heap.size v (be n 8) ∧ Below w.heap.size w w' := by
  have k1 : IntKind.u64.wrap (n : Int) = (n : Int) := by rw [IntKind.wrap_u64]; omega
  go_enter Tryd.func23, Tryd.ntmps23
  go_wp2_with fail
  refine (refN_any (.slice none 0 0) [] n w (Rd.nil _ _) (by omega) (by simp)).mono ?_
  rintro e w1 ⟨v1, rfl, ho, hb⟩
  go_wp2_with fail
  go_ret
  exact ⟨_, rfl, ho, hb⟩

set_option maxHeartbeats 1000000 in
theorem rleaf_any (s : ByteArray) (v : Value) (l : List UInt8) (w : World) (hs : s.size ≤ maxLen) (hv : Rd w w.heap.size v l) (fr : TypeId × Nat × Nat) (hk : w.heap[0]? = some (.cells kVals fr.1 fr.2)) :
    Calls Tryd.prog 32 #[.agg #[.string s, v]] w fun e w' => ∃ v', e = .returned v' ∧ Own w' w.heap.size v' (leafH s l) ∧ Below w.heap.size w w' := by
  have hn0 := blk_lt hk
  have HK := Lib.hid hk
  clear hk
  obtain ⟨A, cc, rfl⟩ := hv.form
  have hb0 : Below w.heap.size w (w.alloc (.cells #[.string s, .slice A l.length cc] 31)) := (Below.refl _ _).alloc (Nat.le_refl _) _
  have hv0 := (hv.below hb0).more hb0.size
  have hc1 : (w.alloc (.cells #[.string s, .slice A l.length cc] 31)).cell? ⟨w.heap.size, 1, none⟩ = some (.slice A l.length cc) := blk_cell (heap_alloc_new w _) 1
  have hlt : w.heap.size < (w.alloc (.cells #[.string s, .slice A l.length cc] 31)).heap.size := by simp
  obtain ⟨c, w1, hrun, hr1, hb1⟩ := conv_str (w.alloc (.cells #[.string s, .slice A l.length cc] 31)) s hs
  have hc1' := (hb1.cell (p := ⟨w.heap.size, 1, none⟩) hlt).trans hc1
  have hq1 := below_chain hb0 hb0.size hb1
  have hr2 := hv0.up (Nat.le_refl _) hb1
  have hp := partsA2 w1 _ (.slice A l.length cc) (strBytes s) l 29 hr1 hr2
  have hbx := hq1.alloc hq1.size (.cells #[.slice (some ⟨(w.alloc (.cells #[.string s, .slice A l.length cc] 31)).heap.size, 0, none⟩) s.size c, .slice A l.length cc] 29)
  have hkx := (hbx.block _ hn0).trans HK.out
  have hsz : (w.alloc (.cells #[.string s, .slice A l.length cc] 31)).heap.size = w.heap.size + 1 := by simp
  rw [hsz] at hp hbx hkx
  clear hv hr1 hr2 hv0 hb1 hb0 hsz
  go_enter Tryd.func32, Tryd.ntmps32
  go_wp2_with fail
  refine (rtagged_any wLeaf _ [strBytes s, l] _ hp (by unfold maxLen wLeaf; decide) (by simp) fr hkx).mono ?_
  rintro e w2 ⟨v2, rfl, ho2, hb2⟩
  have hq := below_chain hbx hbx.size hb2
  go_wp2_with fail
  go_ret
  exact ⟨_, rfl, ho2.more hbx.size, hq⟩
end Go.Proofs.YtohnhdandkkonaaDoor
