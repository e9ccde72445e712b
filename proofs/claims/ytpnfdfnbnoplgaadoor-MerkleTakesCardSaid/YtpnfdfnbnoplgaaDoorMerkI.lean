
/- The walk of merkle's leafAt. -/
import Derived.Test.YtpnfdfnbnoplgaaDoorMerkE0
import Derived.Test.YtpnfdfnbnoplgaaDoorSlc
import Derived.Test.YtpnfdfnbnoplgaaDoorClone
namespace Go.Proofs.YtpnfdfnbnoplgaaDoor
open Go Go.RowKit
set_option linter.unusedVariables false
variable {w w' : World} {B : Nat}

/-- the hashes beside a leaf's way in the first k rows -/
def wayK (L : List (List UInt8)) (i : Nat) : Nat → List (List UInt8)
  | 0 => []
  | k + 1 => wayK L i k ++ (if ((i / 2 ^ k) ^^^ 1) < (upN k L).length then [(upN k L).getD ((i / 2 ^ k) ^^^ 1) []] else [])
theorem half_succ (i k : Nat) : i / 2 ^ (k + 1) = i / 2 ^ k / 2 := by rw [Nat.div_div_eq_div_mul, Nat.pow_succ]
theorem wayK_way (L : List (List UInt8)) (i : Nat) : ∀ k, (∀ j, j < k → 2 ≤ (upN j L).length) → wayT nodeH L i = wayK L i k ++ wayT nodeH (upN k L) (i / 2 ^ k) := by
  intro k
  induction k with
  | zero => intro _; simp [wayK, upN]
  | succ k ih =>
    intro h
    rw [ih (fun j hj => h j (by omega)), wayT_step nodeH (upN k L) (i / 2 ^ k) (h k (by omega)), wayK, half_succ, List.append_assoc]
    rfl
theorem wayK_full (L : List (List UInt8)) (i t : Nat) (h : ∀ j, j < t → 2 ≤ (upN j L).length) (h1 : (upN t L).length ≤ 1) : wayK L i t = wayT nodeH L i := by
  rw [wayK_way L i t h, wayT_one _ _ _ h1, List.append_nil]
theorem wayK_len (L : List (List UInt8)) (i k : Nat) : (wayK L i k).length ≤ k := by
  induction k with
  | zero => simp [wayK]
  | succ k ih => rw [wayK, List.length_append]; split <;> simp <;> omega
theorem Tryd.infoRowss : (Tryd.prog.info? 49).map (fun i => (i.zero, i.size, i.bytes)) = some (some (.slice none 0 0), 1, 24) := by kernel_rfl

theorem tdiv_two (x : Nat) : (x : Int).tdiv 2 = ((x / 2 : Nat) : Int) := by rw [Int.tdiv_eq_ediv_of_nonneg (by omega)]; omega
theorem upN_32 (ps : List Pr) : ∀ k, ∀ x ∈ upN k (leaves ps), x.length = 32 := by
  intro k
  induction k with
  | zero =>
    intro x hx
    unfold upN leaves at hx
    obtain ⟨p, _, rfl⟩ := List.mem_map.1 hx
    exact tagH_length _ _
  | succ k ih => exact pairUp_all nodeH (P := fun x => x.length = 32) (fun a b => tagH_length _ _) _ ih

set_option maxHeartbeats 4000000 in
theorem leafAt_any (B0 : Nat) (ps : List Pr) (t i : Nat) (v vr : Value) (w : World) (hB0 : B0 ≤ w.heap.size) (hi : i < ps.length) (h6 : ps.length ≤ 65536) (hr : RdP w w.heap.size v ps) (hnl : ∀ p ∈ ps, p.1.size ≤ maxLen) (hvl : ∀ p ∈ ps, p.2.length ≤ 65535)
    (ht : t ≤ 17) (hG : ∀ j, j < t → 2 ≤ (upN j (leaves ps)).length) (hU : (upN t (leaves ps)).length ≤ 1) (Br Br' : Nat) (hall : OwnRR w Br Br' vr (levN (leaves ps) t)) :
    Calls Tryd.prog 31 #[v, vr, .int .i64 (i : Int)] w fun e w' => ∃ v', e = .returned v' ∧ LeafN w' B0 w.heap.size v' (leafM ps i) ∧ Below w.heap.size w w' := by
  obtain ⟨i0, hi0, hz, hsz, hby⟩ := info_parts Tryd.infoRow
  have hway := wayK_full (leaves ps) i t hG hU
  obtain ⟨A, c, rfl, hc, hm, hp⟩ := hr
  unfold maxLen at hm
  obtain ⟨b, o, rfl, hbl, hcell⟩ := hp (by omega)
  obtain ⟨q1, x, q2, q3⟩ := hcell i hi
  have HM : Hid (leafM ps i = ⟨(i : Int), ps[i].1, ps[i].2, wayK (leaves ps) i t⟩) := Lib.hid (by unfold leafM; rw [List.getD_eq_getElem?_getD, List.getElem?_eq_getElem hi, hway]; rfl)
  have hks := hnl _ (List.getElem_mem hi)
  have hvs := hvl _ (List.getElem_mem hi)
  clear hcell hp hnl hvl hG hU hway
  generalize leafM ps i = M at *
  generalize ps[i].1 = s at *
  generalize ps[i].2 = l at *
  have H32 := Lib.hid (upN_32 ps)
  generalize leaves ps = L at *
  obtain ⟨n, hn⟩ : ∃ n, n = ps.length := ⟨_, rfl⟩
  rw [← hn] at hi h6 hc ⊢
  clear hn
  obtain ⟨Ax, cx, rfl⟩ := q3.form
  have hxl : l.length ≤ 9223372036854775807 := q3.len
  have k1 : (0 : Int) ≤ (i : Int) := by omega
  have k2 : (i : Int) < (n : Int) := by omega
  obtain ⟨br, cr, hvr, hcr⟩ : ∃ br cr, vr = .slice (some ⟨br, 0, none⟩) (t + 1) cr ∧ t + 1 ≤ cr := by
    obtain ⟨vs, h, _⟩ := id hall
    rcases h.2 with ⟨_, h0⟩ | ⟨g, cap, cur, hv, hb, hg, hn, hm, hs, ht⟩
    · rw [levN_length] at h0; omega
    · rw [levN_length] at hv hn; exact ⟨g, cap, hv, hn⟩
  subst hvr
  have HALL := Lib.hid hall
  clear hall
  obtain ⟨j0, hj, -, -, -⟩ := info_parts Tryd.infoRows
  have sl : ∀ W : World, (Instr.slice 49 (.slice (some ⟨br, 0, none⟩) (t + 1) cr) none (some (.int .i64 (t : Int))) none).run Tryd.prog W = .ok (.slice (some ⟨br, 0, none⟩) t cr) W := slc_to _ _ j0 Tryd.underlying49 hj _ _ _ _ (by omega)
  obtain ⟨m1, hm1⟩ : ∃ m1, m1 = t + 1 := ⟨_, rfl⟩
  rw [← hm1] at sl HALL ⊢
  have j1 : IntKind.i64.wrap ((m1 : Int) - 1) = (t : Int) := by rw [IntKind.wrap_i64]; omega
  clear hj hm1
  have hb0 : Below w.heap.size w (w.alloc (.cells #[.int .i64 0, .string ⟨#[]⟩, .slice none 0 0, .slice none 0 0] 46)) := (Below.refl _ _).alloc (Nat.le_refl _) _
  go_enter Tryd.func31, Tryd.ntmps31
  go_wp2_with fail
  have hcells := heap_alloc_new w (.cells #[.int .i64 0, .string ⟨#[]⟩, .slice none 0 0, .slice none 0 0] 46)
  have hsz0 : (w.alloc (.cells #[.int .i64 0, .string ⟨#[]⟩, .slice none 0 0, .slice none 0 0] 46)).heap.size = w.heap.size + 1 := by simp
  generalize w.alloc (.cells #[.int .i64 0, .string ⟨#[]⟩, .slice none 0 0, .slice none 0 0] 46) = W0 at *
  have HSZ := Lib.hid hsz0
  clear hsz0
  have HC := Lib.hid (fun (W : World) (hb : Below w.heap.size w W) => clone_any _ l W ((q3.below hb).more hb.size) (by omega))
  have c1 := (hb0.cell (p := ⟨b, o + i * 2, none⟩) hbl).trans q1
  have c2 := (hb0.cell (p := ⟨b, o + i * 2 + 1, none⟩) hbl).trans q2
  have hbZ : Below w.heap.size w (W0.alloc (.cells #[.int .i64 0, .string ⟨#[]⟩, .slice none 0 0, .slice none 0 0] 46)) := hb0.alloc hb0.size _
  have hZn := heap_alloc_new W0 (.cells #[.int .i64 0, .string ⟨#[]⟩, .slice none 0 0, .slice none 0 0] 46)
  have hZs : W0.heap.size < (W0.alloc (.cells #[.int .i64 0, .string ⟨#[]⟩, .slice none 0 0, .slice none 0 0] 46)).heap.size := by simp
  have d1 := (hbZ.cell (p := ⟨b, o + i * 2, none⟩) hbl).trans q1
  have d2 := (hbZ.cell (p := ⟨b, o + i * 2 + 1, none⟩) hbl).trans q2
  have c1' := (hb0.drew.cell (p := ⟨b, o + i * 2, none⟩) hbl).trans q1
  have c2' := (hb0.drew.cell (p := ⟨b, o + i * 2 + 1, none⟩) hbl).trans q2
  have d1' := (hbZ.drew.cell (p := ⟨b, o + i * 2, none⟩) hbl).trans q1
  have d2' := (hbZ.drew.cell (p := ⟨b, o + i * 2 + 1, none⟩) hbl).trans q2
  have D1 := Lib.hid (HC.out W0.drew hb0.drew)
  have D2 := Lib.hid (HC.out (W0.alloc (.cells #[.int .i64 0, .string ⟨#[]⟩, .slice none 0 0, .slice none 0 0] 46)).drew hbZ.drew)
  have HSA := Lib.hid (fun (W : World) (h : Below w.heap.size w W) (x0 x1 x2 x3 : Value) => And.intro (((Below.set4' h hb0.size x0 x1 x2 x3).cell (p := ⟨b, o + i * 2, none⟩) hbl).trans q1) (((Below.set4' h hb0.size x0 x1 x2 x3).cell (p := ⟨b, o + i * 2 + 1, none⟩) hbl).trans q2))
  have HSB := Lib.hid (fun (W : World) (h : Below w.heap.size w W) (o' : Obj) => And.intro (((h.alloc h.size o').cell (p := ⟨b, o + i * 2, none⟩) hbl).trans q1) (((h.alloc h.size o').cell (p := ⟨b, o + i * 2 + 1, none⟩) hbl).trans q2))
  go_region_held_law (fun W => W.cell? ⟨b, o + i * 2, none⟩ = some (.string s) ∧ W.cell? ⟨b, o + i * 2 + 1, none⟩ = some (.slice Ax l.length cx))
    (with_reducible first | exact ⟨c1, c2⟩ | exact ⟨d1, d2⟩ | exact ⟨c1', c2'⟩ | exact ⟨d1', d2'⟩ | exact ⟨e1, e2⟩ | exact ⟨f1, f2⟩ | exact HSA.out _ hq2 _ _ _ _ | exact HSB.out _ hq2 _)
    (first
      | (go_at_call 51; ((with_reducible refine D2.out.mono ?_); rintro e w2 ⟨v2, rfl, ho2, hb2⟩; have hq2 := below_chain hbZ.drew hbZ.size hb2; have hzz := (hb2.block W0.heap.size hZs).trans hZn; have hz_ : w2.heap[W0.heap.size]? = some (.cells #[.int .i64 0, .string ⟨#[]⟩, .slice none 0 0, .slice none 0 0] 46) := hzz; have z0 : w2.cell? ⟨W0.heap.size, 0, none⟩ = some (.int .i64 0) := blk_cell hz_ 0; have z1 : w2.cell? ⟨W0.heap.size, 1, none⟩ = some (.string ⟨#[]⟩) := blk_cell hz_ 1; have z2 : w2.cell? ⟨W0.heap.size, 2, none⟩ = some (.slice none 0 0) := blk_cell hz_ 2; have z3 : w2.cell? ⟨W0.heap.size, 3, none⟩ = some (.slice none 0 0) := blk_cell hz_ 3; have y0 := blk_free hz_ 0; have y1 := blk_free hz_ 1; have y2 := blk_free hz_ 2; have y3 := blk_free hz_ 3; have e1 := (hq2.cell (p := ⟨b, o + i * 2, none⟩) hbl).trans q1; have e2 := (hq2.cell (p := ⟨b, o + i * 2 + 1, none⟩) hbl).trans q2; obtain ⟨A2, c2, rfl⟩ := ho2.form))
      | (go_at_call 51; ((with_reducible refine D1.out.mono ?_); rintro e w2 ⟨v2, rfl, ho2, hb2⟩; have hq2 := below_chain hb0.drew hb0.size hb2; have hqA := hq2.alloc hq2.size (.cells #[.int .i64 0, .string ⟨#[]⟩, .slice none 0 0, .slice none 0 0] 46); have hz_ : (w2.alloc (.cells #[.int .i64 0, .string ⟨#[]⟩, .slice none 0 0, .slice none 0 0] 46)).heap[w2.heap.size]? = some (.cells #[.int .i64 0, .string ⟨#[]⟩, .slice none 0 0, .slice none 0 0] 46) := heap_alloc_new w2 (.cells #[.int .i64 0, .string ⟨#[]⟩, .slice none 0 0, .slice none 0 0] 46); have z0 : (w2.alloc (.cells #[.int .i64 0, .string ⟨#[]⟩, .slice none 0 0, .slice none 0 0] 46)).cell? ⟨w2.heap.size, 0, none⟩ = some (.int .i64 0) := blk_cell hz_ 0; have z1 : (w2.alloc (.cells #[.int .i64 0, .string ⟨#[]⟩, .slice none 0 0, .slice none 0 0] 46)).cell? ⟨w2.heap.size, 1, none⟩ = some (.string ⟨#[]⟩) := blk_cell hz_ 1; have z2 : (w2.alloc (.cells #[.int .i64 0, .string ⟨#[]⟩, .slice none 0 0, .slice none 0 0] 46)).cell? ⟨w2.heap.size, 2, none⟩ = some (.slice none 0 0) := blk_cell hz_ 2; have z3 : (w2.alloc (.cells #[.int .i64 0, .string ⟨#[]⟩, .slice none 0 0, .slice none 0 0] 46)).cell? ⟨w2.heap.size, 3, none⟩ = some (.slice none 0 0) := blk_cell hz_ 3; have y0 := blk_free hz_ 0; have y1 := blk_free hz_ 1; have y2 := blk_free hz_ 2; have y3 := blk_free hz_ 3; have e1 := (hq2.cell (p := ⟨b, o + i * 2, none⟩) hbl).trans q1; have e2 := (hq2.cell (p := ⟨b, o + i * 2 + 1, none⟩) hbl).trans q2; have f1 := (hqA.cell (p := ⟨b, o + i * 2, none⟩) hbl).trans q1; have f2 := (hqA.cell (p := ⟨b, o + i * 2 + 1, none⟩) hbl).trans q2; obtain ⟨A2, c2, rfl⟩ := ho2.form)))
  all_goals (
    have hB1 : w.heap.size < W0.heap.size := by have := HSZ.out; omega
    have hl6 : w.heap.size < w2.heap.size := Nat.lt_of_lt_of_le hB1 (by first | exact (hb2.size : W0.heap.size ≤ w2.heap.size) | exact Nat.le_trans (Nat.le_of_lt hZs) hb2.size)
    have h6w : w2.heap[w.heap.size]? = some (.cells #[.int .i64 0, .string ⟨#[]⟩, .slice none 0 0, .slice none 0 0] 46 (0, 0)) := by first | exact (hb2.block w.heap.size hB1).trans hcells | exact (hb2.block w.heap.size (Nat.lt_trans hB1 hZs)).trans ((heap_alloc_old W0 _ hB1).trans hcells)
    have hov : Own w2 w.heap.size (.slice A2 l.length c2) l := by first | exact ho2.more hb0.size | exact ho2.more hbZ.size
    first
      | (have g7h := heap_alloc_new w2 (.cells #[.int .i64 (i : Int), .string s, .slice A2 l.length c2, .slice none 0 0] 46)
         have hbx : Below w2.heap.size w2 (w2.alloc (.cells #[.int .i64 (i : Int), .string s, .slice A2 l.length c2, .slice none 0 0] 46)) := (Below.refl _ _).alloc (Nat.le_refl _) _
         have g6h := (hbx.block w.heap.size hl6).trans h6w
         have gov := hov.below hbx
         have gbW := below_chain hq2 hq2.size hbx
         have glt : w.heap.size < w2.heap.size := hl6
         clear hb2 hq2 z0 z1 z2 z3 y0 y1 y2 y3 e1 e2 f1 f2 hov ho2 h6w hqA hbx hz_
         generalize w2.alloc (.cells #[.int .i64 (i : Int), .string s, .slice A2 l.length c2, .slice none 0 0] 46) = W at *
         generalize w2.heap.size = g7 at *)
      | (have g7h := blk_set4 hzz (.int .i64 (i : Int)) (.string s) (.slice A2 l.length c2) (.slice none 0 0)
         have hgr := grow_of (B0 := w.heap.size) (grown_set4 w2 W0.heap.size (.int .i64 (i : Int)) (.string s) (.slice A2 l.length c2) (.slice none 0 0)) hb0.size hzz
         have g6h := ((grown_set4 w2 W0.heap.size (.int .i64 (i : Int)) (.string s) (.slice A2 l.length c2) (.slice none 0 0)).block w.heap.size hl6 (by intro e; injection e with e; omega)).trans h6w
         have gov := hov.grow hgr (Nat.le_refl _) (by decide)
         have gbW := Below.set4' (g := W0.heap.size) hq2 hb0.size (.int .i64 (i : Int)) (.string s) (.slice A2 l.length c2) (.slice none 0 0)
         have glt : w.heap.size < W0.heap.size := hB1
         clear hb2 hq2 z0 z1 z2 z3 y0 y1 y2 y3 e1 e2 hov ho2 h6w hgr hzz hz_ hcells
         generalize ((((w2.setCell ⟨W0.heap.size, 0, none⟩ (.int .i64 (i : Int))).setCell ⟨W0.heap.size, 1, none⟩ (.string s)).setCell ⟨W0.heap.size, 2, none⟩ (.slice A2 l.length c2)).setCell ⟨W0.heap.size, 3, none⟩ (.slice none 0 0)) = W at *
         generalize W0.heap.size = g7 at *)
    clear HSA HSB D1 D2 d1 d2 c1' c2' d1' d2' hZn hZs hb0 hbZ hB1 hl6
    have G7 := Lib.hid g7h
    have G6 := Lib.hid g6h
    clear g7h g6h
    go_wp2_with fail
    go_loopw [2, 9, 10, 30] (fun iv _ _ kv wr => ∃ (k : Nat) (pv : Value), k ≤ t ∧ kv = .int .i64 (k : Int) ∧ iv = .int .i64 ((i / 2 ^ k : Nat) : Int) ∧ OwnR wr B0 w.heap.size pv (wayK L i k) ∧ Hid (wr.heap[g7]? = some (.cells #[.int .i64 (i : Int), .string s, .slice A2 l.length c2, pv] 46 (0, 0))) ∧ Hid (wr.heap[w.heap.size]? = some (.cells #[.int .i64 0, .string ⟨#[]⟩, .slice none 0 0, .slice none 0 0] 46 (0, 0))) ∧ Own wr w.heap.size (.slice A2 l.length c2) l ∧ Below w.heap.size w wr)
      (fun _ _ _ kv _ => t - (intOf kv).toNat)
    case atStart => exact ⟨0, _, Nat.zero_le _, rfl, by simp, OwnR.nil _ _ _, G7, G6, gov, gbW⟩
    case round =>
      clear G7 G6 gov gbW
      obtain ⟨k, pv, hkt, rfl, rfl, hop, H7, H6, hov, hb⟩ := hrel
      have hpl := wayK_len L i k
      by_cases hlt : k < t
      · have i2 : (k : Int) < (t : Int) := by omega
        have i3 : (0 : Int) ≤ (k : Int) := by omega
        obtain ⟨br', xr, e, -, hlb, hcx, hrx⟩ := HALL.out.at_ k (by rw [levN_length]; omega)
        injection e with e
        injection e with e _
        subst e
        have hgk : (levN L t)[k]'(by rw [levN_length]; omega) = upN k L := by
          have := levN_get L t k (by omega)
          rw [List.getElem?_eq_getElem (by rw [levN_length]; omega)] at this
          injection this
        rw [hgk] at hrx
        have hcw := (hb.cell (p := ⟨br, k, none⟩) hlb).trans hcx
        obtain ⟨Ak, ck, rfl⟩ := hrx.form
        have ha : i / 2 ^ k ≤ i := Nat.div_le_self _ _
        have hb1 := bits_xor_one (i / 2 ^ k) (by omega)
        have hw1 : ((i / 2 ^ k : Nat) : Int).tdiv 2 = ((i / 2 ^ (k + 1) : Nat) : Int) := by rw [half_succ]; exact tdiv_two _
        have HWS : Hid (wayK L i (k + 1) = wayK L i k ++ (if ((i / 2 ^ k) ^^^ 1) < (upN k L).length then [(upN k L).getD ((i / 2 ^ k) ^^^ 1) []] else [])) := Lib.hid rfl
        obtain ⟨Ap, cp, rfl⟩ := hop.form
        have ha' : i / 2 ^ (k + 1) ≤ i := Nat.div_le_self _ _
        obtain ⟨P', hP'⟩ : ∃ P', P' = wayK L i (k + 1) := ⟨_, rfl⟩
        obtain ⟨a', hA'⟩ : ∃ a', a' = i / 2 ^ (k + 1) := ⟨_, rfl⟩
        rw [← hP'] at HWS
        rw [← hA'] at hw1 ha'
        have HPE := Lib.hid hP'
        have HAE := Lib.hid hA'
        clear hP' hA'
        generalize wayK L i k = P at *
        generalize i / 2 ^ k = a at *
        generalize hxa : a ^^^ 1 = xa at *
        clear hxa hgk hcx
        by_cases hq : xa < (upN k L).length
        · obtain ⟨b3, o3, y, rfl, -, hlb3, hcy, hry⟩ := hrx.at_ xa hq
          have HS : Hid (P' = P ++ [(upN k L)[xa]]) := Lib.hid (by rw [HWS.out, if_pos hq, List.getD_eq_getElem?_getD, List.getElem?_eq_getElem hq]; rfl)
          have HH32 := H32.out k _ (List.getElem_mem hq)
          clear HWS hrx
          generalize (upN k L)[xa] = h at *
          generalize (upN k L).length = nk at *
          have h32 : h.length = 32 := HH32
          obtain ⟨Ay, cy, hyv⟩ := hry.1.form
          rw [h32] at hyv
          subst hyv
          have hcyw := (hb.cell (p := ⟨b3, o3 + xa, none⟩) hlb3).trans hcy
          have hyw : Rd wr wr.heap.size (.slice Ay 32 cy) h := (hry.1.below hb).more hb.size
          have HCL : Hid (Calls Tryd.prog 51 #[.slice Ay 32 cy] wr.drew fun e w' => ∃ v', e = .returned v' ∧ Own w' wr.heap.size v' h ∧ Below wr.heap.size wr w') :=
            Lib.hid ((clone_any _ h wr.drew hyw (by rw [h32]; omega)).mono fun e w' ⟨v', h1, h2, h3⟩ => ⟨v', h1, h2, below_chain (Below.refl wr.heap.size wr).drew (Nat.le_refl _) h3⟩)
          have H32' := Lib.hid h32
          have hg7l := blk_lt H7.out
          have i4 : (xa : Int) < (nk : Int) := by omega
          have i5 : (0 : Int) ≤ (xa : Int) := by omega
          have x3 : wr.cell? ⟨g7, 3, none⟩ = some (.slice Ap P.length cp) := blk_cell H7.out 3
          have hpl9 : P.length ≤ 1000000000 := by omega
          have hbw := hb.size
          clear hcy hry h32 hyw HH32
          go_wp2_with fail
          go_region_law (first
            | (go_simp; (with_reducible refine (HCL.out).mono ?_); rintro e w3 ⟨v3, rfl, ho3, hb3⟩; dsimp only; obtain ⟨A3, c3, hv3⟩ := ho3.form' H32'.out; subst hv3; have hx5 : Below w3.heap.size w3 (w3.alloc (.cells #[.slice A3 32 c3] 23)) := (Below.refl _ _).alloc (Nat.le_refl _) _; have hq5 := below_chain hb3 hb3.size hx5; have ho5 := hop.up hq5; have hr5 : RdS (w3.alloc (.cells #[.slice A3 32 c3] 23)) B0 (.slice A3 32 c3) h := ho3.rdS.up hx5; have hc5 : (w3.alloc (.cells #[.slice A3 32 c3] 23)).cell? ⟨w3.heap.size, 0, none⟩ = some (.slice A3 32 c3) := blk_cell (heap_alloc_new w3 _) 0; have h75 := (hq5.block g7 hg7l).trans H7.out; have h65 := (hq5.block w.heap.size (Nat.lt_trans glt hg7l)).trans H6.out; have hov5 := hov.below hq5; have hbb := below_chain hb hbw hq5; have z3 := (hb3.cell (p := ⟨g7, 3, none⟩) hg7l).trans x3; have z35 : (w3.alloc (.cells #[.slice A3 32 c3] 23)).cell? ⟨g7, 3, none⟩ = some (.slice Ap P.length cp) := blk_cell h75 3)
            | (refine wp_append_row (.tmp 41) (.tmp 47) _ rfl i0 Tryd.underlying44 hi0 hz hsz hby rfl ho5 rfl hc5 hr5 hB0 hpl9 (Nat.le_trans hbw hq5.size) ?_; intro v6 w6 ho6 hg6; have hgr6 := ho5.grows hB0 hg6; have h76 := ((show Of _ B0 46 g7 from .inr ⟨_, _, h75⟩).same hgr6 (blk_lt h75) (by decide)).trans h75; have h66 := ((show Of _ B0 46 w.heap.size from .inr ⟨_, _, h65⟩).same hgr6 (blk_lt h65) (by decide)).trans h65; have hov6 := hov5.grow hgr6 hB0 (by decide); have hb6 := ho5.below hbb hbb.size hg6; have w63 : w6.cell? ⟨g7, 3, none⟩ = some (.slice Ap P.length cp) := blk_cell h76 3; have w6f := blk_free h76 3; obtain ⟨A6, c6, hv6⟩ := ho6.form; rw [List.length_append, List.length_singleton] at hv6; subst hv6)
            | fail)
          all_goals (
            have hgs := grown_set (World.grownBy.refl w6 (some g7)) 3 (.slice A6 (P.length + 1) c6)
            have hgrw := grow_of (B0 := B0) hgs (Nat.le_trans hB0 (Nat.le_of_lt glt)) h76
            have N7 : Hid ((w6.setCell ⟨g7, 3, none⟩ (.slice A6 (P.length + 1) c6)).heap[g7]? = some (.cells #[.int .i64 (i : Int), .string s, .slice A2 l.length c2, .slice A6 (P.length + 1) c6] 46 (0, 0))) := Lib.hid (by simpa using blk_set h76 3 (.slice A6 (P.length + 1) c6))
            have N6 : Hid ((w6.setCell ⟨g7, 3, none⟩ (.slice A6 (P.length + 1) c6)).heap[w.heap.size]? = some (.cells #[.int .i64 0, .string ⟨#[]⟩, .slice none 0 0, .slice none 0 0] 46 (0, 0))) := Lib.hid ((hgs.block w.heap.size (blk_lt h66) (by intro e; injection e with e; omega)).trans h66)
            have hop' := ho6.grow hgrw (by decide) (by decide)
            have hov' := hov6.grow hgrw hB0 (by decide)
            have hb' := hb6.setCell (p := ⟨g7, 3, none⟩) (Nat.le_of_lt glt) (.slice A6 (P.length + 1) c6)
            rw [← HS.out] at hop'
            clear hgs hgrw ho6 hov6 hb6 hg6 hgr6 h76 h66 w63 w6f z3 z35 hov5 hbb h75 h65 hc5 hr5 ho5 hq5 hx5 ho3 hb3 x3 hov hb hop hcw hcyw
            generalize (w6.setCell ⟨g7, 3, none⟩ (.slice A6 (P.length + 1) c6)) = W9 at *
            go_wp2_with fail
            rw [HPE.out] at hop'
            exact ⟨⟨k + 1, _, by omega, by go_num, by rw [HAE.out], hop', N7, N6, hov', hb'⟩, by simp [intOf]; omega⟩)
        · have i4 : ¬ (xa : Int) < ((upN k L).length : Int) := by omega
          have HS : Hid (P' = P) := Lib.hid (by rw [HWS.out, if_neg hq, List.append_nil])
          clear HWS hrx
          generalize (upN k L).length = nk at *
          go_wp2_with fail
          have hop2 : OwnR wr B0 w.heap.size (.slice Ap P.length cp) (wayK L i (k + 1)) := by rw [← HPE.out, HS.out]; exact hop
          exact ⟨⟨k + 1, _, by omega, by go_num, by rw [HAE.out], hop2, H7, H6, hov, hb⟩, by simp [intOf]; omega⟩
      · have i2 : ¬ (k : Int) < (t : Int) := by omega
        obtain rfl : k = t := by omega
        obtain ⟨Ap, cp, rfl⟩ := hop.form
        have HML : Hid (M = ⟨(i : Int), s, l, wayK L i k⟩) := HM
        generalize wayK L i k = P at *
        have h7 := H7.out
        have h6 := H6.out
        have x0 : wr.cell? ⟨g7, 0, none⟩ = some (.int .i64 (i : Int)) := blk_cell h7 0
        have x1 : wr.cell? ⟨g7, 1, none⟩ = some (.string s) := blk_cell h7 1
        have x2 : wr.cell? ⟨g7, 2, none⟩ = some (.slice A2 l.length c2) := blk_cell h7 2
        have x3 : wr.cell? ⟨g7, 3, none⟩ = some (.slice Ap P.length cp) := blk_cell h7 3
        have z0 : wr.cell? ⟨w.heap.size, 0, none⟩ = some (.int .i64 0) := blk_cell h6 0
        have z1 : wr.cell? ⟨w.heap.size, 1, none⟩ = some (.string ⟨#[]⟩) := blk_cell h6 1
        have z2 : wr.cell? ⟨w.heap.size, 2, none⟩ = some (.slice none 0 0) := blk_cell h6 2
        have z3 : wr.cell? ⟨w.heap.size, 3, none⟩ = some (.slice none 0 0) := blk_cell h6 3
        have y0 := blk_free h6 0
        have y1 := blk_free h6 1
        have y2 := blk_free h6 2
        have y3 := blk_free h6 3
        have hgr := grow_of (B0 := B0) (grown_set4 wr w.heap.size (.int .i64 (i : Int)) (.string s) (.slice A2 l.length c2) (.slice Ap P.length cp)) hB0 h6
        have hG := blk_set4 h6 (.int .i64 (i : Int)) (.string s) (.slice A2 l.length c2) (.slice Ap P.length cp)
        have hout := Below.set4' (g := w.heap.size) hb (Nat.le_refl _) (.int .i64 (i : Int)) (.string s) (.slice A2 l.length c2) (.slice Ap P.length cp)
        have hR2 := hov.grow hgr hB0 (by decide)
        have hP2 := hop.grow hgr (by decide) (by decide)
        clear hgr h6 h7 H7 H6 hov hop hb
        go_wp2_with fail
        generalize ((((wr.setCell ⟨w.heap.size, 0, none⟩ (.int .i64 (i : Int))).setCell ⟨w.heap.size, 1, none⟩ (.string s)).setCell ⟨w.heap.size, 2, none⟩ (.slice A2 l.length c2)).setCell ⟨w.heap.size, 3, none⟩ (.slice Ap P.length cp)) = w9 at *
        have g0 : w9.cell? ⟨w.heap.size, 0, none⟩ = some (.int .i64 (i : Int)) := blk_cell hG 0
        have g1 : w9.cell? ⟨w.heap.size, 1, none⟩ = some (.string s) := blk_cell hG 1
        have g2 : w9.cell? ⟨w.heap.size, 2, none⟩ = some (.slice A2 l.length c2) := blk_cell hG 2
        have g3 : w9.cell? ⟨w.heap.size, 3, none⟩ = some (.slice Ap P.length cp) := blk_cell hG 3
        refine bodyPost_ret (v := .agg #[.int .i64 (i : Int), .string s, .slice A2 l.length c2, .slice Ap P.length cp]) (by simp [results, Tryd.results31, go_sem, g0, g1, g2, g3]) rfl ⟨_, rfl, ?_, hout⟩
        rw [HML.out]
        exact ⟨_, _, rfl, hR2, hP2⟩)
end Go.Proofs.YtpnfdfnbnoplgaaDoor
