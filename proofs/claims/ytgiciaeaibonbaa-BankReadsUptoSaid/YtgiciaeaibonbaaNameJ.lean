
/- The walk of the document's words: what stands between slashes. -/
import Derived.Test.YtgiciaeaibonbaaNameH
import Derived.Test.YtgiciaeaibonbaaNameG
import Derived.Test.YtgiciaeaibonbaaNameC0
import Derived.Test.YtgiciaeaibonbaaBase0
namespace Go.Proofs.Ytgiciaeaibonbaa
set_option maxRecDepth 100000
open Go Go.RowKit

def strs (ws : List (List UInt8)) : List Value := ws.map fun x => .string ⟨x.toArray⟩
theorem strs_length (ws : List (List UInt8)) : (strs ws).length = ws.length := by simp [strs]
theorem strs_append (a b : List (List UInt8)) : strs (a ++ b) = strs a ++ strs b := by simp [strs]
theorem Try.infoStr : (Try.prog.info? 9).map (fun i => (i.zero, i.size, i.bytes)) = some (some (.string ByteArray.empty), 1, 16) := by kernel_rfl

/-- where the words stand at a round's head -/
def WR (l : List UInt8) (K F : Nat) (ws : List (List UInt8)) : Prop :=
  (K ≤ l.length ∧ F ≤ K ∧ (47 : UInt8) ∉ (l.drop F).take (K - F) ∧ wordsL l = ws ++ wordsL (l.drop F) ∧ ws.length ≤ K) ∨ (K = l.length + 1 ∧ wordsL l = ws ∧ ws.length ≤ K)
theorem WR.start (l : List UInt8) : WR l 0 0 [] := .inl ⟨by omega, by omega, by simp, by simp, by simp⟩
theorem WR.slash {l : List UInt8} {K F : Nat} {ws : List (List UInt8)} (h : WR l K F ws) (hk : K < l.length) (hc : l.getD K 0 = 47) : WR l (K + 1) (K + 1) (ws ++ [(l.drop F).take (K - F)]) := by
  rcases h with ⟨h1, h2, h3, h4, h5⟩ | ⟨h1, _⟩
  · refine .inl ⟨by omega, by omega, by simp, ?_, by simp; omega⟩
    rw [h4, words_slash l h2 hk h3 hc, List.append_assoc]
    rfl
  · omega
theorem WR.on {l : List UInt8} {K F : Nat} {ws : List (List UInt8)} (h : WR l K F ws) (hk : K < l.length) (hc : l.getD K 0 ≠ 47) : WR l (K + 1) F ws := by
  rcases h with ⟨h1, h2, h3, h4, h5⟩ | ⟨h1, _⟩
  · exact .inl ⟨by omega, by omega, words_on l h2 hk h3 hc, h4, by omega⟩
  · omega
theorem WR.last {l : List UInt8} {F : Nat} {ws : List (List UInt8)} (h : WR l l.length F ws) : WR l (l.length + 1) (l.length + 1) (ws ++ [(l.drop F).take (l.length - F)]) := by
  rcases h with ⟨h1, h2, h3, h4, h5⟩ | ⟨h1, _⟩
  · exact .inr ⟨rfl, by rw [h4, words_end l h3], by simp; omega⟩
  · omega
theorem WR.done {l : List UInt8} {K F : Nat} {ws : List (List UInt8)} (h : WR l K F ws) (hk : ¬ K ≤ l.length) : wordsL l = ws := by
  rcases h with ⟨h1, _⟩ | ⟨_, h, _⟩
  · omega
  · exact h
theorem WR.le {l : List UInt8} {K F : Nat} {ws : List (List UInt8)} (h : WR l K F ws) (hk : K ≤ l.length) : F ≤ K := by
  rcases h with ⟨_, h, _⟩ | ⟨h, _⟩ <;> omega
theorem WR.len {l : List UInt8} {K F : Nat} {ws : List (List UInt8)} (h : WR l K F ws) : ws.length ≤ l.length + 1 ∧ K ≤ l.length + 1 := by
  rcases h with ⟨_, _, _, _, h⟩ | ⟨_, _, h⟩ <;> omega

theorem below_chain' {B : Nat} {a b c : World} (h : Below B a b) (hB : B ≤ b.heap.size) (k : Below b.heap.size b c) : Below B a c := h.trans (k.mono hB)
theorem one_cell (w : World) (t : TypeId) (x : Value) : ∀ j u, [x][j]? = some u → (w.alloc (.cells #[x] t)).cell? ((⟨w.heap.size, 0, none⟩ : Addr).add j) = some u := by
  intro j u hj
  cases j with
  | zero =>
    obtain rfl : x = u := by simpa using hj
    show (w.alloc (.cells #[x] t)).cell? ⟨w.heap.size, 0, none⟩ = some x
    rw [cell_of_row _ _ 0 #[x] t (0, 0) (heap_alloc_new w _)]
    rfl
  | succ j => simp at hj

set_option maxHeartbeats 2000000 in
theorem words_any (s : ByteArray) (w : World) (hs : s.size ≤ 160) :
    Calls Try.prog 55 #[.string s] w fun e w' => ∃ v, e = .returned v ∧ w'.ownsRow w.heap.size 9 1 v (wordsL s.data.toList).length (strs (wordsL s.data.toList)) ∧ Below w.heap.size w w' := by
  have hsz := Lib.size_eq s
  have HZ := Lib.hid hsz
  clear hsz
  obtain ⟨i0, hi, hz, hz1, hz2⟩ := info_parts Try.infoStr
  go_enter Try.func55, Try.ntmps55
  go_wp2
  go_loopw [3, 4, 5] (fun v f i wr => ∃ (K F : Nat) (ws : List (List UInt8)), f = .int .i64 F ∧ i = .int .i64 K ∧ wr.ownsRow w.heap.size 9 1 v ws.length (strs ws) ∧ Below w.heap.size w wr ∧ WR s.data.toList K F ws) (fun _ _ i _ => s.size + 1 - (intOf i).toNat)
  case atStart => exact ⟨0, 0, [], rfl, rfl, World.ownsRow_nil w _ _ 1, Below.refl _ _, WR.start _⟩
  case round =>
    obtain ⟨K, F, ws, rfl, rfl, ho, hb, hwr⟩ := hrel
    have hws := hwr.len
    have HW := Lib.hid hwr
    have hwl : ws.length ≤ 161 := by have := HZ.out; omega
    have hKl : K ≤ s.size + 1 := by have := HZ.out; omega
    clear hws hwr
    by_cases hle : K ≤ s.size
    · have hFK : F ≤ K := HW.out.le (by have := HZ.out; omega)
      have c1 : (0 : Int) ≤ (F : Int) := by omega
      have c2 : (F : Int) ≤ (K : Int) := by omega
      have c3 : (K : Int) ≤ (s.size : Int) := by omega
      have c4 : (K : Int) ≤ 160 := by omega
      by_cases heq : K = s.size
      · have b1 : ((K : Int) == (s.size : Int)) = true := by rw [heq]; simp
        have HE := Lib.hid heq
        clear heq
        go_wp2_with (at_builtin; refine wpList_append_own _ rfl (.tmp 22) (.tmp 27) _ rfl w.heap.size 9 i0 _ 1 16 Try.underlying87 hi hz hz1 hz2 rfl (by decide) _ _ _ rfl (ho.alloc _) ⟨wr.heap.size, 0, none⟩ 1 1 [.string (s.extract F K)] rfl rfl (one_cell _ _ _) (by simp [Value.oneCell']) (by simp only [maxLen]; omega) (by omega) (by have := hb.size; simp; omega) ?_; intro v' w1 ho1 hg1 _)
        have hb1 : Below w.heap.size w w1 := (hb.alloc hb.size _).grown hg1 (by have := hb.size; simp; omega) (fun k hk => by have := ho.lt k hk; omega)
        have HX := Lib.hid (Lib.extract_eq s F K)
        clear hg1 hb ho
        go_roundw
        case rel =>
          refine ⟨K + 1, K + 1, ws ++ [(s.data.toList.drop F).take (K - F)], by go_num, by go_num, ?_, hb1, ?_⟩
          · rw [HX.out] at ho1
            rw [strs_append, List.length_append]
            exact ho1
          · have hw := HW.out
            rw [show K = s.data.toList.length by have := HZ.out; have := HE.out; omega] at hw ⊢
            exact hw.last
        case measure => simp [intOf]; omega
      · have b1 : ((K : Int) == (s.size : Int)) = false := by rw [beq_eq_false_iff_ne]; omega
        have hlt : K < s.size := by omega
        have c5 : (K : Int) < (s.size : Int) := by omega
        have HG := Lib.hid (data_get s K hlt)
        by_cases h47 : s[K].toNat = 47
        · have b2 : ((s[K].toNat : Int) == 47) = true := by rw [h47]; rfl
          have HC := Lib.hid h47
          clear h47
          go_wp2_with (at_builtin; refine wpList_append_own _ rfl (.tmp 22) (.tmp 27) _ rfl w.heap.size 9 i0 _ 1 16 Try.underlying87 hi hz hz1 hz2 rfl (by decide) _ _ _ rfl (ho.alloc _) ⟨wr.heap.size, 0, none⟩ 1 1 [.string (s.extract F K)] rfl rfl (one_cell _ _ _) (by simp [Value.oneCell']) (by simp only [maxLen]; omega) (by omega) (by have := hb.size; simp; omega) ?_; intro v' w1 ho1 hg1 _)
          have hb1 : Below w.heap.size w w1 := (hb.alloc hb.size _).grown hg1 (by have := hb.size; simp; omega) (fun k hk => by have := ho.lt k hk; omega)
          have HX := Lib.hid (Lib.extract_eq s F K)
          clear hg1 hb ho
          go_roundw
          case rel =>
            refine ⟨K + 1, K + 1, ws ++ [(s.data.toList.drop F).take (K - F)], by go_num, by go_num, ?_, hb1, ?_⟩
            · rw [HX.out] at ho1
              rw [strs_append, List.length_append]
              exact ho1
            · exact HW.out.slash (by have := HZ.out; omega) (by rw [HG.out]; exact UInt8.toNat_inj.1 (by rw [HC.out]; rfl))
          case measure => simp [intOf]; omega
        · have b2 : ((s[K].toNat : Int) == 47) = false := by rw [beq_eq_false_iff_ne]; omega
          have HC := Lib.hid h47
          clear h47
          go_wp2
          go_roundw
          case rel => exact ⟨K + 1, F, ws, rfl, by go_num, ho, hb, HW.out.on (by have := HZ.out; omega) (by rw [HG.out]; intro e; exact HC.out (by rw [e]; rfl))⟩
          case measure => simp [intOf]; omega
    · have hd := HW.out.done (by have := HZ.out; omega)
      have HD := Lib.hid hd
      have b1 : ¬ (K : Int) ≤ (s.size : Int) := by omega
      clear hd
      go_wp2
      go_ret
      refine ⟨_, rfl, ?_, hb⟩
      rw [HD.out]
      exact ho
end Go.Proofs.Ytgiciaeaibonbaa
