/- Signatures: the mathematics, and the walk of package sign's Sign. -/
import Derived.Test.YtgomhojaappbnaaDoorSignH
namespace Go.Proofs.YtgomhojaappbnaaDoor
open Go Go.RowKit

/-- the values at the digits' places, the first n -/
def valsL (seed : List UInt8) (key : Nat) (D : List Nat) : Nat → List UInt8
  | 0 => []
  | n + 1 => valsL seed key D n ++ walkL n 0 (D.getD n 0) (secretL seed key n)
/-- the hashes beside the way, of the first n levels -/
def sidesL (seed : List UInt8) (key : Nat) : Nat → List UInt8
  | 0 => []
  | n + 1 => sidesL seed key n ++ (levL seed n).getD (key / 2 ^ n ^^^ 1) []
def signL (seed : List UInt8) (key : Nat) (msg : List UInt8) : List UInt8 := valsL seed key (digitsL (rootL seed) key msg) 18 ++ sidesL seed key 3

theorem walkL_length (c : Nat) : ∀ n i v, v.length = 32 → (walkL c i n v).length = 32
  | 0, _, _, h => h
  | n + 1, i, v, _ => by rw [walkL]; exact walkL_length c n _ _ (shaSum_length _)
theorem secretL_length (seed : List UInt8) (k c : Nat) : (secretL seed k c).length = 32 := shaSum_length _
theorem valsL_length (seed : List UInt8) (key : Nat) (D : List Nat) : ∀ n, (valsL seed key D n).length = 32 * n
  | 0 => rfl
  | n + 1 => by rw [valsL, List.length_append, valsL_length seed key D n, walkL_length n _ _ _ (secretL_length _ _ _)]; omega
theorem xor1 : ∀ n : Nat, n < 8 → n ^^^ 1 = if n % 2 = 0 then n + 1 else n - 1 := by decide
theorem rowL_mem (f : Nat → List UInt8) : ∀ n, ∀ x ∈ rowL f n, ∃ i, x = f i
  | 0, x, hx => by simp [rowL] at hx
  | n + 1, x, hx => by
    rw [rowL, List.mem_append] at hx
    rcases hx with hx | hx
    · exact rowL_mem f n x hx
    · simp only [List.mem_cons, List.not_mem_nil, or_false] at hx; exact ⟨n, hx⟩
theorem lev_all (seed : List UInt8) (t : Nat) : ∀ x ∈ levL seed t, x.length = 32 := by
  cases t with
  | zero =>
    intro x hx
    obtain ⟨i, rfl⟩ := rowL_mem (leafS seed) 8 x hx
    exact leafOf_length _ _
  | succ t => exact pairsL_all _
theorem side_lt (key n : Nat) (hk : key < 8) (hn : n < 3) : key / 2 ^ n ^^^ 1 < 8 / 2 ^ n := by
  rw [xor1 _ (Nat.lt_of_le_of_lt (Nat.div_le_self _ _) hk)]
  rcases n with _ | _ | _ | n <;> split <;> omega
theorem side_length (seed : List UInt8) (key n : Nat) (hk : key < 8) (hn : n < 3) : ((levL seed n).getD (key / 2 ^ n ^^^ 1) []).length = 32 := by
  have hl := levL_length seed n (by omega)
  have h := side_lt key n hk hn
  rw [List.getD_eq_getElem?_getD, List.getElem?_eq_getElem (by omega)]
  exact lev_all seed n _ (List.getElem_mem _)
theorem sidesL_length (seed : List UInt8) (key : Nat) (hk : key < 8) : ∀ n, n ≤ 3 → (sidesL seed key n).length = 32 * n
  | 0, _ => rfl
  | n + 1, h => by rw [sidesL, List.length_append, sidesL_length seed key hk n (by omega), side_length seed key n hk (by omega)]; omega
theorem signL_length (seed : List UInt8) (key : Nat) (msg : List UInt8) (hk : key < 8) : (signL seed key msg).length = 672 := by
  rw [signL, List.length_append, valsL_length, sidesL_length seed key hk 3 (by omega)]

theorem idx18 (C : List Value) (hC : C.length = 18) (k : Nat) (hk : k < 18) (w : World) : (Instr.index 37 (.agg C.toArray) (.int .i64 (k : Int))).run Tryd.prog w = .ok (C[k]'(by omega)) w := by
  have h := Tryd.underlying37
  have h1 : (0 : Int) ≤ (k : Int) ∧ (k : Int) < 18 := by omega
  have h2 : k < C.length := by omega
  simp [Instr.index, run_underlying h, asIntOf, h1, h2, go_sem]
  intro h3
  omega
theorem xor64 (n : Nat) (h : n < 8) : bits .xor .i64 (n : Int) 1 = ((n ^^^ 1 : Nat) : Int) := by
  rcases n with _ | _ | _ | _ | _ | _ | _ | _ | n
  all_goals first | rfl | omega
theorem xor_at (key l : Nat) (hk : key < 8) : bits .xor .i64 ((key : Int) / 2 ^ l) 1 = ((key / 2 ^ l ^^^ 1 : Nat) : Int) := by
  have e : (key : Int) / 2 ^ l = ((key / 2 ^ l : Nat) : Int) := by push_cast; rfl
  rw [e, xor64 _ (Nat.lt_of_le_of_lt (Nat.div_le_self _ _) hk)]

set_option maxHeartbeats 4000000 in
set_option maxRecDepth 100000 in
theorem sign_yes (v1 v3 : Value) (seed msg : List UInt8) (key : Nat) (w : World) (h1 : Rd w w.heap.size v1 seed) (h3 : Rd w w.heap.size v3 msg) (hkey : key < 8) (fr : TypeId × Nat × Nat) (hk : w.heap[0]? = some (.cells kVals fr.1 fr.2)) :
    Calls Tryd.prog 9 #[v1, .int .i64 (key : Int), v3] w fun e w' => ∃ v', e = .returned (.tuple #[v', .int .i64 0]) ∧ Own w' w.heap.size v' (signL seed key msg) ∧ Below w.heap.size w w' := by
  obtain ⟨i0, hi, hz, hsz, hby⟩ := info_parts Tryd.infoByte
  have hn0 := blk_lt hk
  have HK := Lib.hid hk
  clear hk
  obtain ⟨A1, c1, rfl⟩ := h1.form
  obtain ⟨A3, c3, rfl⟩ := h3.form
  have j1 : (0 : Int) ≤ (key : Int) := by omega
  have j2 : (key : Int) < 8 := by omega
  go_enter Tryd.func9, Tryd.ntmps9
  go_wp2_with fail
  refine (tree_any _ seed w h1 fr HK.out).mono ?_
  rintro e w1 ⟨vT, rfl, hoT, hb1⟩
  have h1l : 0 < (levL seed 3).length := by rw [levL_length seed 3 (by omega)]; decide
  obtain ⟨AT, cT, rfl⟩ := hoT.form
  obtain ⟨b, x, rfl, -, hlb, hcx, hrx⟩ := hoT.at_ 3 (by simp)
  replace hrx : RowS w1 w.heap.size x (levL seed 3) := hrx
  obtain ⟨A2, c2, rfl⟩ := hrx.form
  obtain ⟨b2, o2, y, rfl, -, hlb2, hcy, hry⟩ := hrx.at_ 0 h1l
  rw [root_get] at hry
  obtain ⟨A5, c5, rfl⟩ := hry.1.form
  rw [levL_length seed 3 (by omega)] at hcx
  rw [Nat.add_zero] at hcy
  clear hrx h1l
  have HOT := Lib.hid hoT
  clear hoT
  go_wp2_with fail
  refine (digitsOf_any _ _ (rootL seed) msg key w1 hry.1 (h3.up (Nat.le_refl _) hb1) (by omega) fr ((hb1.block _ hn0).trans HK.out)).mono ?_
  rintro e w2 ⟨rfl, hb2⟩
  have hD := digitsL_length (rootL seed) key msg
  have hDl := digitsL_le (rootL seed) key msg
  have hSG : Hid (signL seed key msg = valsL seed key (digitsL (rootL seed) key msg) 18 ++ sidesL seed key 3) := Lib.hid rfl
  generalize digitsL (rootL seed) key msg = D at *
  have hq2 := below_chain hb1 hb1.size hb2
  have hCl : (dcells D).length = 18 := by rw [dcells, List.length_map, hD]
  have HCI : Hid (∀ k : Nat, k < 18 → ∀ W : World, (Instr.index 37 (.agg (dcells D).toArray) (.int .i64 (k : Int))).run Tryd.prog W = .ok (.int .i64 (D.getD k 0 : Int)) W) := Lib.hid (fun k hk W => by
    rw [idx18 (dcells D) hCl k hk W]
    have hj : k < D.length := by omega
    simp [dcells, intV, List.getD_eq_getElem?_getD, hj])
  have HD := Lib.hid hD
  have HDl := Lib.hid hDl
  have HOT2 := Lib.hid (HOT.out.up hb2)
  clear hD hDl hCl hry hcx hcy HOT
  generalize dcells D = C at *
  go_wp2_with fail
  go_loopw [9, 30] (fun sv i wr => ∃ k : Nat, k ≤ 18 ∧ i = .int .i64 (k : Int) ∧ Own wr w2.heap.size sv (valsL seed key D k) ∧ Below w2.heap.size w2 wr)
    (fun _ i _ => 18 - (intOf i).toNat)
  case atStart => exact ⟨0, by omega, rfl, Own.nil _ _, Below.refl _ _⟩
  case round =>
    obtain ⟨k, hk18, rfl, ho, hb⟩ := hrel
    have hq := below_chain hq2 hq2.size hb
    have hvl := valsL_length seed key D k
    by_cases hlt : k < 18
    · have i3 : (k : Int) < 18 := by omega
      have hix := HCI.out k hlt
      have hdl := getD_le D k HDl.out
      have hS : Hid (valsL seed key D (k + 1) = valsL seed key D k ++ walkL k 0 (D.getD k 0) (secretL seed key k)) := Lib.hid rfl
      generalize D.getD k 0 = d at *
      have hLl : (valsL seed key D k).length ≤ 576 := by omega
      generalize valsL seed key D k = L at *
      clear hvl
      obtain ⟨As, cs, rfl⟩ := ho.form
      go_wp2_with fail
      refine (secret_any _ seed key k wr (h1.up (Nat.le_refl _) hq) (by omega) (by omega) fr ((hq.block _ hn0).trans HK.out)).mono ?_
      rintro e w3 ⟨v3', rfl, ho3, hb3⟩
      have hr3 : RdS w3 w.heap.size v3' (secretL seed key k) := ho3.rdS
      have hq3 := below_chain hq hq.size hb3
      go_wp2_with fail
      refine (walk_any v3' (secretL seed key k) k 0 d w3 w.heap.size hr3 (by omega) (by omega) (by omega) fr ((hq3.block _ hn0).trans HK.out)).mono ?_
      rintro e w4 ⟨v4, rfl, hr4, hb4⟩
      have hwl := walkL_length k d 0 (secretL seed key k) (secretL_length seed key k)
      rw [Nat.sub_zero] at hr4
      generalize walkL k 0 d (secretL seed key k) = l4 at *
      obtain ⟨A4, c4, rfl⟩ := hr4.1.formN hwl
      have hwl2 : l4.length ≤ 32 := by omega
      clear hwl
      have ho4 := (ho.below hb3).below hb4
      have hy4 := below_chain (below_chain hb hb.size hb3) (Nat.le_trans hb.size hb3.size) hb4
      clear ho hr3 ho3 hq3 hq hix
      go_wp2_with (at_builtin; refine wpList_append_rd rfl (.tmp 34) (.tmp 41) _ rfl i0 Tryd.underlying22 hi hz hsz hby rfl ho4 rfl hr4.1 (by omega) hy4.size ?_; intro v5 w5 ho5 hg5 _; have hy5 : Below w2.heap.size w2 w5 := Own.below_grown hy4 ho4 (Nat.le_refl _) hy4.size hg5)
      go_roundw
      case rel => exact ⟨k + 1, by omega, by go_num, by rw [hS.out]; exact ho5, hy5⟩
      case measure => simp [intOf]; omega
    · have i3 : ¬ (k : Int) < 18 := by omega
      obtain rfl : k = 18 := by omega
      have hVl : (valsL seed key D 18).length ≤ 576 := by omega
      clear hvl
      generalize valsL seed key D 18 = V at *
      clear HCI HD HDl
      obtain ⟨As, cs, rfl⟩ := ho.form
      go_wp2_with fail
      go_loopw [9, 44] (fun sv i wr => ∃ l : Nat, l ≤ 3 ∧ i = .int .i64 (l : Int) ∧ Own wr w2.heap.size sv (V ++ sidesL seed key l) ∧ Below w2.heap.size w2 wr)
        (fun _ i _ => 3 - (intOf i).toNat)
      case atStart => exact ⟨0, by omega, rfl, by rw [sidesL, List.append_nil]; exact ho, hb⟩
      case round =>
        clear ho hb hq
        obtain ⟨l, hl3, rfl, ho, hb⟩ := hrel
        have hsl := sidesL_length seed key hkey l hl3
        by_cases hlt2 : l < 3
        · have i4 : (l : Int) < 3 := by omega
          have i5 : (0 : Int) ≤ (l : Int) := by omega
          have hxa := xor_at key l hkey
          have hql := side_lt key l hkey hlt2
          have hll := levL_length seed l (by omega)
          have hsd := side_length seed key l hkey hlt2
          have hS : Hid (V ++ sidesL seed key (l + 1) = (V ++ sidesL seed key l) ++ (levL seed l).getD (key / 2 ^ l ^^^ 1) []) := Lib.hid (by rw [sidesL, List.append_assoc])
          have hle : ([levL seed 0, levL seed 1, levL seed 2, levL seed 3])[l]'(by simp; omega) = levL seed l := by
            rcases l with _ | _ | _ | l
            · rfl
            · rfl
            · rfl
            · omega
          obtain ⟨g, z, hA, -, hgl, hcz, hrz⟩ := (HOT2.out.up hb).at_ l (by simp; omega)
          rw [hle] at hrz
          injection hA with hA
          injection hA with hA _ _
          subst hA
          obtain ⟨Az, cz, rfl⟩ := hrz.form
          obtain ⟨zb, zo, u, rfl, -, hlz, hcu, hru⟩ := hrz.at_ (key / 2 ^ l ^^^ 1) (by omega)
          have hgd : (levL seed l).getD (key / 2 ^ l ^^^ 1) [] = (levL seed l)[key / 2 ^ l ^^^ 1]'(by omega) := by
            rw [List.getD_eq_getElem?_getD, List.getElem?_eq_getElem (by omega)]; rfl
          rw [← hgd] at hru
          generalize (levL seed l).getD (key / 2 ^ l ^^^ 1) [] = sd at *
          rw [hll] at hcz
          clear hle hgd hrz
          generalize 8 / 2 ^ l = nl at *
          generalize key / 2 ^ l ^^^ 1 = q at *
          have q1 : (q : Int) < (nl : Int) := by omega
          have q0 : (0 : Int) ≤ (q : Int) := by omega
          obtain ⟨Au, cu, rfl⟩ := hru.1.formN hsd
          generalize hL : V ++ sidesL seed key l = L at *
          have hLl : L.length ≤ 672 := by rw [← hL, List.length_append, hsl]; omega
          have hsd2 : sd.length ≤ 32 := by omega
          clear hsl hsd
          obtain ⟨As, cs, rfl⟩ := ho.form
          clear hll hql hL
          go_wp2_with (at_builtin; refine wpList_append_rd rfl (.tmp 51) (.tmp 58) _ rfl i0 Tryd.underlying22 hi hz hsz hby rfl ho rfl hru.1 (by omega) hb.size ?_; intro v5 w5 ho5 hg5 _; have hy5 : Below w2.heap.size w2 w5 := Own.below_grown hb ho (Nat.le_refl _) hb.size hg5)
          go_roundw
          case rel => exact ⟨l + 1, by omega, by go_num, by rw [hS.out]; exact ho5, hy5⟩
          case measure => simp [intOf]; omega
        · have i4 : ¬ (l : Int) < 3 := by omega
          obtain rfl : l = 3 := by omega
          rw [← hSG.out] at ho
          have hq := below_chain hq2 hq2.size hb
          obtain ⟨As, cs, rfl⟩ := ho.form
          go_wp2_with fail
          go_ret2
          exact ⟨_, rfl, ho.more hq2.size, hq⟩
end Go.Proofs.YtgomhojaappbnaaDoor
