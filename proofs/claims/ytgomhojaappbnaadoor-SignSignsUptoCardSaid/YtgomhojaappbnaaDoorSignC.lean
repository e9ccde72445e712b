/- The walk of package sign's tree and root. -/
import Derived.Test.YtgomhojaappbnaaDoorSignB
import Derived.Test.YtgomhojaappbnaaDoorRowQ
import Derived.Deep.RegionHeldLaw
namespace Go.Proofs.YtgomhojaappbnaaDoor
open Go Go.RowKit

def levsL (seed : List UInt8) : Nat → List (List (List UInt8))
  | 0 => [levL seed 0]
  | t + 1 => levsL seed t ++ [levL seed (t + 1)]
theorem levsL_length (seed : List UInt8) (t : Nat) : (levsL seed t).length = t + 1 := by induction t <;> simp [levsL, *]
theorem pairsL_more (q : Nat) (r : List (List UInt8)) (hq : q % 2 = 0) (h : q + 1 < r.length) : pairsL (r.take (q + 2)) = pairsL (r.take q) ++ [nodeL (r[q]'(by omega)) r[q + 1]] := by
  have := pairsL_step (q / 2) r (by omega)
  have e : 2 * (q / 2) = q := by omega
  simp only [e] at this
  exact this
theorem Parts.drew {w : World} {B : Nat} {v : Value} {ps : List (List UInt8)} (h : Parts w B v ps) : Parts w.drew B v ps := h
def sliceLen : Value → Nat
  | .slice _ n _ => n
  | _ => 0

set_option maxHeartbeats 4000000 in
set_option maxRecDepth 100000 in
theorem tree_any (v : Value) (seed : List UInt8) (w : World) (hv : Rd w w.heap.size v seed) (fr : TypeId × Nat × Nat) (hk : w.heap[0]? = some (.cells kVals fr.1 fr.2)) :
    Calls Tryd.prog 15 #[v] w fun e w' => ∃ v', e = .returned v' ∧ OwnRR w' w.heap.size w.heap.size v' [levL seed 0, levL seed 1, levL seed 2, levL seed 3] ∧ Below w.heap.size w w' := by
  have hmf : ∀ (fn : Fn) (first cap : Array Value) (w : World), (Instr.makeFunc fn first cap).run Tryd.prog w = .ok (.func fn first cap) w := fun _ _ _ _ => rfl
  obtain ⟨i0, hi, hz, hsz, hby⟩ := info_parts Tryd.infoRow
  obtain ⟨i1, hi1, hz1, hsz1, hby1⟩ := info_parts Tryd.infoRows
  have hn0 := blk_lt hk
  have HK := Lib.hid hk
  clear hk
  obtain ⟨A, cc, rfl⟩ := hv.form
  have hbw : Below w.heap.size w (w.alloc (.cells #[.slice A seed.length cc] 22)) := (Below.refl _ _).alloc (Nat.le_refl _) _
  have hcw : (w.alloc (.cells #[.slice A seed.length cc] 22)).cell? ⟨w.heap.size, 0, none⟩ = some (.slice A seed.length cc) := blk_cell (heap_alloc_new w _) 0
  have HC := Lib.hid hcw
  have hsw : w.heap.size < (w.alloc (.cells #[.slice A seed.length cc] 22)).heap.size := by simp
  clear hcw
  go_enter Tryd.func15, Tryd.ntmps15
  go_wp2_with fail
  generalize hw0 : w.alloc (.cells #[.slice A seed.length cc] 22) = w0 at *
  clear hw0
  go_loopw [3, 8] (fun rv i wr => ∃ k : Nat, k ≤ 8 ∧ i = .int .i64 (k : Int) ∧ OwnR wr w.heap.size w0.heap.size rv (rowL (leafS seed) k) ∧ Below w0.heap.size w0 wr)
    (fun _ i _ => 8 - (intOf i).toNat)
  case atStart => exact ⟨0, Nat.zero_le _, rfl, OwnR.nil _ _ _, Below.refl _ _⟩
  case round =>
    obtain ⟨k, hk8, rfl, ho, hb⟩ := hrel
    by_cases hlt : k < 8
    · have i1 : (k : Int) < 8 := by omega
      obtain ⟨Ap, cp, rfl⟩ := ho.form
      go_wp2_with fail
      have hcx : (wr.alloc (.cells #[.int .i64 (k : Int)] 3)).cell? ⟨wr.heap.size, 0, none⟩ = some (.int .i64 (k : Int)) := blk_cell (heap_alloc_new wr _) 0
      have hbx : Below wr.heap.size wr (wr.alloc (.cells #[.int .i64 (k : Int)] 3)) := (Below.refl _ _).alloc (Nat.le_refl _) _
      have hsx : wr.heap.size < (wr.alloc (.cells #[.int .i64 (k : Int)] 3)).heap.size := by simp
      generalize wr.alloc (.cells #[.int .i64 (k : Int)] 3) = w1 at *
      have hqx := below_chain hb hb.size hbx
      have hbv := below_chain hbw hbw.size hqx
      refine (leafT_any k _ _ (fun _ => 0) (fun c => secretL seed k c) w1 (by omega) (fun _ => by omega) fr ((hbv.block _ hn0).trans HK.out) ?_).mono ?_
      · intro c W hc hbW
        have hq := below_chain hqx hqx.size hbW
        refine (treeFn_any w.heap.size wr.heap.size _ seed k c W (hv.up (Nat.le_refl _) (below_chain hbw hbw.size hq)) (by omega) (by omega) ((hq.cell (p := ⟨w.heap.size, 0, none⟩) hsw).trans HC.out) ((hbW.cell (p := ⟨wr.heap.size, 0, none⟩) hsx).trans hcx) fr (((below_chain hbw hbw.size hq).block _ hn0).trans HK.out)).mono ?_
        rintro e W' ⟨v', rfl, ho', hb'⟩
        exact ⟨v', rfl, ho'.rdS, hb'⟩
      rintro e w2 ⟨v2, rfl, ho2, hb2⟩
      replace ho2 : Own w2 w1.heap.size v2 (leafS seed k) := ho2
      have hS : Hid (rowL (leafS seed) (k + 1) = rowL (leafS seed) k ++ [leafS seed k]) := Lib.hid rfl
      have hl1 : (rowL (leafS seed) k).length ≤ 1000 := by rw [rowL_length]; omega
      generalize rowL (leafS seed) k = L at *
      generalize leafS seed k = l2 at *
      have hq2 := below_chain hqx hqx.size hb2
      have ho3 := (ho.up hbx).up hb2
      obtain ⟨A4, c4, rfl⟩ := ho2.form
      have hr4 : RdS w2 w.heap.size (.slice A4 l2.length c4) l2 := ho2.rdS
      clear ho hb hb2 hqx hbv hcx hbx ho2 hsx
      have hbx : Below w2.heap.size w2 (w2.alloc (.cells #[.slice A4 l2.length c4] 22)) := (Below.refl _ _).alloc (Nat.le_refl _) _
      have hc5 : (w2.alloc (.cells #[.slice A4 l2.length c4] 22)).cell? ⟨w2.heap.size, 0, none⟩ = some (.slice A4 l2.length c4) := blk_cell (heap_alloc_new w2 _) 0
      go_wp2_with (at_builtin; refine wpList_append_row rfl (.tmp 11) (.tmp 15) _ rfl i0 Tryd.underlying34 hi hz hsz hby rfl (ho3.up hbx) rfl hc5 (hr4.up hbx) hbw.size hl1 (Nat.le_trans hq2.size hbx.size) ?_; intro v5 w5 ho5 hg5; have hq5 : Below w0.heap.size w0 w5 := (ho3.up hbx).below (hq2.alloc hq2.size _) (Nat.le_trans hq2.size hbx.size) hg5)
      go_roundw
      case rel => exact ⟨k + 1, by omega, by go_num, by rw [hS.out]; exact ho5, hq5⟩
      case measure => simp [intOf]; omega
    · have i1 : ¬ (k : Int) < 8 := by omega
      obtain rfl : k = 8 := by omega
      replace ho : OwnR wr w.heap.size w0.heap.size u3 (levL seed 0) := ho
      have hr0 := ho.rowS
      obtain ⟨Ap, cp, rfl⟩ := hr0.form
      rw [levL_length seed 0 (by omega)] at *
      clear ho HC hsw hv
      go_wp2_with fail
      have hO1 := (OwnRR.one hr0).more hb.size
      have hbx : Below w0.heap.size w0 (wr.alloc (.cells #[.slice Ap (8 / 2 ^ 0) cp] 34)) := hb.alloc hb.size _
      have hrx := hr0.up (w' := wr.alloc (.cells #[.slice Ap (8 / 2 ^ 0) cp] 34)) ((Below.refl _ _).alloc (Nat.le_refl _) _)
      clear hr0 hb
      generalize wr.alloc (.cells #[.slice Ap (8 / 2 ^ 0) cp] 34) = w1 at *
      go_loopw [3, 5] (fun rv ov W => ∃ t : Nat, t ≤ 3 ∧ RowS W w.heap.size rv (levL seed t) ∧ OwnRR W w.heap.size w0.heap.size ov (levsL seed t) ∧ Below w0.heap.size w0 W)
        (fun rv _ _ => sliceLen rv)
      case atStart => exact ⟨0, by omega, hrx, hO1, hbx⟩
      case round =>
        clear hrx hO1 hbx
        rename World => wo
        obtain ⟨t, ht3, hr, ho, hb⟩ := hrel
        have hln := levL_length seed t ht3
        obtain ⟨Ar, cr, rfl⟩ := hr.form
        obtain ⟨Ao, co, rfl⟩ := ho.form
        by_cases hlt : t < 3
        · obtain ⟨n, hn⟩ : ∃ n, n = (levL seed t).length := ⟨_, rfl⟩
          have hn1 : 1 < n ∧ n % 2 = 0 ∧ n ≤ 8 := by
            rw [hn, hln]
            rcases t with _ | _ | _ | t
            · decide
            · decide
            · decide
            · omega
          rw [← hn] at hr ⊢
          have HN := Lib.hid hn
          clear hn hln
          obtain ⟨hn1, hn2, hn8⟩ := hn1
          have i1 : (1 : Int) < (n : Int) := by omega
          go_wp2_with fail
          go_loopw [6, 7] (fun av i W => ∃ q : Nat, q ≤ n ∧ q % 2 = 0 ∧ i = .int .i64 (q : Int) ∧ OwnR W w.heap.size wo.heap.size av (pairsL ((levL seed t).take q)) ∧ Below wo.heap.size wo W)
            (fun _ i _ => n - (intOf i).toNat)
          case atStart => exact ⟨0, by omega, by omega, rfl, by rw [List.take_zero]; exact OwnR.nil _ _ _, Below.refl _ _⟩
          case round =>
            obtain ⟨q, hqn, hq2, rfl, hoa, hba⟩ := hrel
            have hrq := hr.up hba
            by_cases hltq : q < n
            · have i2 : (q : Int) < (n : Int) := by omega
              have i3 : (q : Int) + 1 < (n : Int) := by omega
              have i4 : (0 : Int) ≤ (q : Int) := by omega
              have hqn0 : q < (levL seed t).length := by have := HN.out; omega
              have hqn1 : q + 1 < (levL seed t).length := by have := HN.out; omega
              obtain ⟨b, o, x0, rfl, -, hlb0, hcx0, -⟩ := hr.at_ q hqn0
              obtain ⟨b1, o1, x, e0, -, hlb, hcx, hrx⟩ := hrq.at_ q hqn0
              injection e0 with e0
              injection e0 with e0 e0'
              subst e0; subst e0'
              have hx0 := (hba.cell (p := ⟨b, o + q, none⟩) hlb0).symm.trans hcx
              obtain ⟨b', o', y, e1, -, -, hcy, hry⟩ := hrq.at_ (q + 1) hqn1
              injection e1 with e1
              injection e1 with e1 e2 e3
              subst e1; subst e2
              have hy0 := (hba.cell (p := ⟨b, o + (q + 1), none⟩) hlb0).symm.trans hcy
              clear hcx0
              have HP := Lib.hid (pairsL_more q (levL seed t) hq2 hqn1)
              have hpl : (pairsL ((levL seed t).take q)).length ≤ 1000 := by rw [pairsL_length, List.length_take]; omega
              generalize (levL seed t)[q] = lx at *
              generalize (levL seed t)[q + 1] = ly at *
              generalize pairsL ((levL seed t).take q) = L at *
              obtain ⟨Ax, kx, rfl⟩ := hrx.1.form
              obtain ⟨Ay, ky, rfl⟩ := hry.1.form
              obtain ⟨Aa, ka, rfl⟩ := hoa.form
              have hbq := below_chain hb hb.size hba
              have hbz := below_chain hbw hbw.size hbq
              have HKz := Lib.hid ((hbz.block _ hn0).trans HK.out)
              have hbwo : w.heap.size ≤ wo.heap.size := Nat.le_trans hbw.size hb.size
              go_wp2_with fail
              have hs1 : IntKind.i64.wrap ((q : Int) + 1) = (q : Int) + 1 := IntWalk.i64_in _ (by omega)
              have hs2 : (0 : Int) ≤ (q : Int) + 1 := by omega
              have hs3 : ((q : Int) + 1).toNat = q + 1 := by omega
              have hlz : b < (wr.alloc (.cells #[.slice Ax lx.length kx, .slice Ay ly.length ky] 22)).heap.size := by simp; omega
              have hcx1 : (wr.alloc (.cells #[.slice Ax lx.length kx, .slice Ay ly.length ky] 22)).cell? ⟨b, o + q, none⟩ = some (.slice Ax lx.length kx) := (World.cell?_alloc_lt wr _ ⟨b, o + q, none⟩ hlb).trans hcx
              have hcy1 : (wr.alloc (.cells #[.slice Ax lx.length kx, .slice Ay ly.length ky] 22)).cell? ⟨b, o + (q + 1), none⟩ = some (.slice Ay ly.length ky) := (World.cell?_alloc_lt wr _ ⟨b, o + (q + 1), none⟩ hlb).trans hcy
              have hp := (partsOf2 wr _ _ lx ly 22 hrx.1 hry.1).drew
              have hb1 : Below wr.heap.size wr (wr.alloc (.cells #[.slice Ax lx.length kx, .slice Ay ly.length ky] 22)) := (Below.refl _ _).alloc (Nat.le_refl _) _
              have hz1 := below_chain hbz hbz.size hb1
              have hK1d : (wr.alloc (.cells #[.slice Ax lx.length kx, .slice Ay ly.length ky] 22)).drew.heap[0]? = some (.cells kVals fr.1 fr.2) := (hz1.block _ hn0).trans HK.out
              go_region_held_law (fun W => W.cell? ⟨b, o + q, none⟩ = some (.slice Ax lx.length kx) ∧ W.cell? ⟨b, o + (q + 1), none⟩ = some (.slice Ay ly.length ky))
                (first | exact ⟨hcx, hcy⟩ | exact ⟨hcx1, hcy1⟩ | exact ⟨hcx4, hcy4⟩ | exact ⟨hcx5, hcy5⟩ | exact ⟨hcx6, hcy6⟩)
                (first
                  | (go_at_call 25; (refine (tagged_any nodeWord _ [lx, ly] _ hp (by unfold maxLen nodeWord; decide) (by simp) fr hK1d).mono ?_; rintro e w4 ⟨v4, rfl, ho4, hb4⟩; replace ho4 : Own w4 _ v4 (nodeL lx ly) := ho4; obtain ⟨A4, c4, rfl⟩ := ho4.form' (nodeL_length lx ly); have hq4 := below_chain hb1.drew hb1.size hb4; have hx5 : Below w4.heap.size w4 (w4.alloc (.cells #[.slice A4 32 c4] 22)) := (Below.refl _ _).alloc (Nat.le_refl _) _; have hq5 := below_chain hq4 hq4.size hx5; have ho5 := hoa.up hq5; have hr4 : RdS w4 w.heap.size _ _ := ho4.rdS; have hr5 := hr4.up hx5; have hc5 : (w4.alloc (.cells #[.slice A4 32 c4] 22)).cell? ⟨w4.heap.size, 0, none⟩ = some (.slice A4 32 c4) := blk_cell (heap_alloc_new w4 _) 0; have hw5 := below_chain hba hba.size hq5; have hcx5 := (hw5.cell (p := ⟨b, o + q, none⟩) hlb0).trans hx0; have hcy5 := (hw5.cell (p := ⟨b, o + (q + 1), none⟩) hlb0).trans hy0; have hcx4 := (hb4.cell (p := ⟨b, o + q, none⟩) hlz).trans hcx1; have hcy4 := (hb4.cell (p := ⟨b, o + (q + 1), none⟩) hlz).trans hcy1))
                  | (rw [if_pos (by rfl)]; refine wp_append_row (.tmp 29) (.tmp 41) _ rfl i0 Tryd.underlying34 hi hz hsz hby rfl ho5 rfl hc5 hr5 hbwo hpl hw5.size ?_; intro v6 w6 ho6 hg6; have hw6 := ho5.below hw5 hw5.size hg6; have hcx6 := (hw6.cell (p := ⟨b, o + q, none⟩) hlb0).trans hx0; have hcy6 := (hw6.cell (p := ⟨b, o + (q + 1), none⟩) hlb0).trans hy0))
              simp only [Act.put, List.setIfInBounds_toArray, List.set_cons_zero, List.set_cons_succ, List.getElem_toArray, List.getElem_cons_zero, List.getElem_cons_succ]
              have hbo := hw6
              clear hq4 hx5 hq5 ho5 hr4 hr5 hc5 hw5 hcx5 hcy5 hcx4 hcy4 hcx6 hcy6 hw6 hg6 hb4 ho4 hcx1 hcy1 hlz hcx hcy hx0 hy0 hs1 hs2 hs3 hK1d hz1 hp hb1
              go_wp2_with fail
              go_roundw
              case rel => exact ⟨q + 2, by omega, by omega, by go_num, by rw [HP.out]; exact ho6, hbo⟩
              case measure => simp [intOf]; omega
            · have i2 : ¬ (q : Int) < (n : Int) := by omega
              obtain rfl : q = n := by omega
              have hfull : (levL seed t).take q = levL seed t := List.take_of_length_le (by have := HN.out; omega)
              rw [hfull] at hoa
              clear hfull
              replace hoa : OwnR wr w.heap.size wo.heap.size u6 (levL seed (t + 1)) := hoa
              have hra := hoa.rowS
              obtain ⟨Aa, ka, rfl⟩ := hoa.form
              have ho2 := ho.up hba
              have hbq := below_chain hb hb.size hba
              clear hoa ho hr hrq
              have hbx : Below wr.heap.size wr (wr.alloc (.cells #[.slice Aa (levL seed (t + 1)).length ka] 34)) := (Below.refl _ _).alloc (Nat.le_refl _) _
              have hc5 : (wr.alloc (.cells #[.slice Aa (levL seed (t + 1)).length ka] 34)).cell? ⟨wr.heap.size, 0, none⟩ = some (.slice Aa (levL seed (t + 1)).length ka) := blk_cell (heap_alloc_new wr _) 0
              have hl1 : (levsL seed t).length ≤ 1000 := by rw [levsL_length]; omega
              have hLt : Hid ((levL seed (t + 1)).length < q) := Lib.hid (by rw [levL, pairsL_length, ← HN.out]; omega)
              have hS : Hid (levsL seed (t + 1) = levsL seed t ++ [levL seed (t + 1)]) := Lib.hid rfl
              have hqx := below_chain hbq hbq.size hbx
              generalize levsL seed t = Ls at *
              go_wp2_with (at_builtin; refine wpList_append_rows rfl (.tmp 44) (.tmp 46) _ rfl _ Tryd.underlying35 hi1 hz1 hsz1 hby1 rfl (ho2.up hbx) rfl hc5 (hra.up hbx) hbw.size hl1 hqx.size ?_; intro v5 w5 ho5 hg5; have hq5 : Below w0.heap.size w0 w5 := (ho2.up hbx).below hqx hqx.size hg5; have hr5 : RowS w5 w.heap.size (.slice Aa (levL seed (t + 1)).length ka) (levL seed (t + 1)) := (hra.up hbx).grow ((ho2.up hbx).grows hbw.size hg5) (by decide) (by decide))
              go_roundw
              case rel => exact ⟨t + 1, by omega, hr5, by rw [hS.out]; exact ho5, hq5⟩
              case measure => exact hLt.out
        · obtain rfl : t = 3 := by omega
          rw [hln] at hr ⊢
          clear hr hln
          replace ho : OwnRR wo w.heap.size w0.heap.size (.slice Ao (levsL seed 3).length co) [levL seed 0, levL seed 1, levL seed 2, levL seed 3] := ho
          have hbz := below_chain hbw hbw.size hb
          go_wp2_with fail
          go_ret
          exact ⟨_, rfl, ho.more hbw.size, hbz⟩

set_option maxHeartbeats 1000000 in
theorem root_any (v : Value) (seed : List UInt8) (w : World) (hv : Rd w w.heap.size v seed) (fr : TypeId × Nat × Nat) (hk : w.heap[0]? = some (.cells kVals fr.1 fr.2)) :
    Calls Tryd.prog 8 #[v] w fun e w' => ∃ v', e = .returned v' ∧ RdS w' w.heap.size v' (rootL seed) ∧ Below w.heap.size w w' := by
  have HK := Lib.hid hk
  clear hk
  obtain ⟨A, cc, rfl⟩ := hv.form
  go_enter Tryd.func8, Tryd.ntmps8
  go_wp2_with fail
  refine (tree_any _ seed w hv fr HK.out).mono ?_
  rintro e w1 ⟨v1, rfl, ho1, hb1⟩
  have h1l : 0 < (levL seed 3).length := by rw [levL_length seed 3 (by omega)]; decide
  obtain ⟨A1, c1, rfl⟩ := ho1.form
  obtain ⟨b, x, rfl, -, hlb, hcx, hrx⟩ := ho1.at_ 3 (by simp)
  replace hrx : RowS w1 w.heap.size x (levL seed 3) := hrx
  obtain ⟨A2, c2, rfl⟩ := hrx.form
  obtain ⟨b2, o2, y, rfl, -, hlb2, hcy, hry⟩ := hrx.at_ 0 h1l
  rw [root_get] at hry
  obtain ⟨A3, c3, rfl⟩ := hry.1.form
  rw [levL_length seed 3 (by omega)] at *
  rw [Nat.add_zero] at hcy
  go_wp2_with fail
  go_ret
  exact ⟨_, rfl, hry, hb1⟩
end Go.Proofs.YtgomhojaappbnaaDoor
