/- Texts joined: BankH0, RStoG, NameG0, Sto2, LimbM0. -/
import Derived.Test.YtpcoonnfaoakhaaGreatDoorM16
import Derived.Test.YtpcoonnfaoakhaaGreatDoorM17
import Derived.Test.YtpcoonnfaoakhaaGreatDoorM11
import Derived.Deep.RegionLaw
import Derived.BigQuiet
import Derived.Test.YtpcoonnfaoakhaaGreatDoorM14
import Derived.Test.YtpcoonnfaoakhaaGreatDoorM09
import Derived.Test.YtpcoonnfaoakhaaGreatDoorM01
import Derived.Test.YtpcoonnfaoakhaaGreatDoorM10
import Derived.Test.YtpcoonnfaoakhaaGreatDoorM02
import Derived.Deep.RegionHeldLaw
namespace Go.Proofs.YtpcoonnfaoakhaaGreatDoor
set_option maxRecDepth 100000
open Go Go.RowKit
set_option linter.unusedVariables false

/-- pairs stay where maps alone have turned -/
theorem RdP.kept {w w' : World} {v : Value} {ps : List Pr} (h : RdP w w.heap.size v ps) (hk : Kept w w') : RdP w' w'.heap.size v ps := by
  have hsz : w.heap.size ≤ w'.heap.size := by obtain ⟨F, h1, _⟩ := hk; exact h1.size
  obtain ⟨A, c, hv, h1, h2, hp⟩ := h
  refine ⟨A, c, hv, h1, h2, fun h0 => ?_⟩
  obtain ⟨b, o, hA, hb, hcell⟩ := hp h0
  refine ⟨b, o, hA, by omega, fun j hj => ?_⟩
  obtain ⟨q1, x, q2, q3⟩ := hcell j hj
  exact ⟨hk.cell q1, x, hk.cell q2, hk.rd q3⟩
theorem Kept.of_below {w w' : World} (h : Below w.heap.size w w') : Kept w w' := ⟨fun _ => False, Chg.of_below h _, fun _ k => k.elim⟩

theorem Kept.trans {w w1 w2 : World} (h : Kept w w1) (k : Kept w1 w2) : Kept w w2 := by
  obtain ⟨F, h1, h2⟩ := h
  obtain ⟨G, k1, k2⟩ := k
  have hm : ∀ q, G q → q < w.heap.size → ¬ F q → ∃ es c, w.heap[q]? = some (.map es c) := fun q hq hl hn => by
    obtain ⟨es, c, e⟩ := k2 q hq
    exact ⟨es, c, (h1.block q hl hn).symm.trans e⟩
  refine ⟨fun q => q < w.heap.size ∧ (F q ∨ G q), ⟨k1.os.trans h1.os, k1.tape.trans h1.tape, k1.output.trans h1.output, Nat.le_trans h1.size k1.size, fun q hq hn => ?_⟩, fun q hq => ?_⟩
  · have hF : ¬ F q := fun e => hn ⟨hq, Or.inl e⟩
    have hG : ¬ G q := fun e => hn ⟨hq, Or.inr e⟩
    exact (k1.block q (Nat.lt_of_lt_of_le hq h1.size) hG).trans (h1.block q hq hF)
  · obtain ⟨hl, hq⟩ := hq
    by_cases hF : F q
    · exact h2 q hF
    · exact hm q (hq.resolve_left hF) hl hF
/-- a bank's store behind calls: made at W, R is seen of it -/
structure Acc (W : World) (y : Lyr) (R : List Pr) (k : Nat) (W' : World) : Prop where
  b : BankS W y [] R k W'
  p : PileS W [y]
section
variable {W W' W2 : World} {y : Lyr} {R R2 : List Pr} {k : Nat} {B : Nat}
theorem Acc.kept (h : Acc W y R k W') : Kept W W' := by
  obtain ⟨n, f, -, -, -, h4⟩ := h.b
  exact ⟨_, h4, h.p.1.maps⟩
theorem Acc.below (h : Acc W y R k W') (hB : B ≤ y.m) (hW : B ≤ W.heap.size) : Below B W W' := by
  obtain ⟨n, f, -, -, -, h4⟩ := h.b
  exact h4.below (fun k e => by rw [e]; exact hB) hW
theorem Acc.up (h : Acc W y R k W') (hb : Below W'.heap.size W' W2) : Acc W y R k W2 := ⟨h.b.up hb (Nat.le_refl k), h.p⟩
theorem Acc.made {ps : List Pr} (h : PileS W [y]) (hl : LyrIs ps y) (hr : Rise ps) (hs : ∀ p ∈ ps, p.1.size ≤ maxLen) : Acc W y ps 0 W := ⟨BankS.refl h (seen_bot0 hl hr hs), h⟩
theorem BankS.join {n : Nat} {f : LF} {j : Nat} (h3 : n ≤ y.n + k) (h4 : Chg W W' (fun k => k = y.m)) (h : BankS W' ⟨y.b, y.m, n, f⟩ [] R2 j W2) : BankS W y [] R2 (k + j) W2 := by
  obtain ⟨n', f', g1, g2, g3, g4⟩ := h
  dsimp only at g1 g2 g3 g4
  exact ⟨n', f', g1, g2, by omega, h4.trans' g4⟩
theorem Acc.send (h : Acc W y R k W') (hn : y.n + k + 2 ≤ maxLen) (a b d : ByteArray) (x : U4) (hx : x.ok) (ha : a.size ≤ 100000000) (hb : b.size ≤ 100000000) (hd : d.size ≤ 100000000) :
    Calls Tryz.prog 52 #[.pointer (some ⟨y.b, 0, none⟩), .string a, .string b, .string d, x.val] W' fun e w' => e = .returned (.int .i64 (sendM R a b d x).1) ∧ Acc W y (sendM R a b d x).2 (k + 2) w' ∧ Kept W' w' := by
  obtain ⟨n, f, h1, h2, h3, h4⟩ := h.b
  refine (send_any h1 h2 (show n + 2 ≤ maxLen by omega) a b d x hx ha hb hd).mono ?_
  rintro e w' ⟨he, hq⟩
  exact ⟨he, ⟨BankS.join h3 h4 hq, h.p⟩, Acc.kept ⟨hq, h1⟩⟩
theorem Acc.pairs (h : Acc W y R k W') (hn : y.n + k ≤ 1000000000) (pfx : ByteArray) (hp : pfx.size ≤ maxLen) :
    Calls Tryz.prog 15 #[.pointer (some ⟨y.b, 0, none⟩), .string pfx] W' fun e w' => ∃ v, e = .returned v ∧ OutP w' W'.heap.size v (R.filter (fun p => begB pfx p.1)) ∧ Below W'.heap.size W' w' := by
  obtain ⟨n, f, h1, h2, h3, h4⟩ := h.b
  have hs : SeenL pfx [⟨y.b, y.m, n, f⟩] (R.filter (fun p => begB pfx p.1)) := ⟨h2.rise.filter _, fun p hp => h2.small p (List.mem_filter.1 hp).1, fun s hs => by
    have := h2.get s hs
    rw [begB_empty, if_pos rfl] at this
    rw [getL_filter, this]⟩
  exact pairs_any h1 (by simp [sumN]; omega) pfx hp hs
end
theorem filter_all {R : List Pr} : R.filter (fun p => begB ⟨#[]⟩ p.1) = R := List.filter_eq_self.2 fun p _ => begB_empty _

/-! ### what the law's fixed answers come to -/
def kAnn : ByteArray := ⟨#[97, 110, 110]⟩
def kBob : ByteArray := ⟨#[98, 111, 98]⟩
def kAtom : ByteArray := ⟨#[97, 116, 111, 109]⟩
def fixR1 : List Pr := (mintM [] kAnn kAtom ⟨10, 0, 0, 0⟩).2
def fixR2 : List Pr := (sendM fixR1 kAnn kBob kAtom ⟨4, 0, 0, 0⟩).2
end Go.Proofs.YtpcoonnfaoakhaaGreatDoor
namespace Go.Proofs.YtpcoonnfaoakhaaGreatDoor
set_option maxRecDepth 100000
open Go Go.RowKit
set_option linter.unusedVariables false

end Go.Proofs.YtpcoonnfaoakhaaGreatDoor
namespace Go.Proofs.YtpcoonnfaoakhaaGreatDoor
set_option maxRecDepth 100000
open Go Go.RowKit
set_option linter.unusedVariables false

theorem Kept.block {w w' : World} (h : Kept w w') {b : Nat} {cs : Array Value} {t : TypeId} {fr : Nat × Nat} (hb : w.heap[b]? = some (.cells cs t fr)) : w'.heap[b]? = some (.cells cs t fr) := by
  obtain ⟨F, h1, h2⟩ := h
  have hn : ¬ F b := fun k => by
    obtain ⟨es, c, e⟩ := h2 _ k
    rw [hb] at e; cases e
  exact (h1.block b (blk_lt hb) hn).trans hb
theorem Acc.root {W W' : World} {y : Lyr} {R : List Pr} {k : Nat} (h : Acc W y R k W') (hn : y.n + k ≤ 1000000000) (fr : TypeId × Nat × Nat) (hk : W'.heap[0]? = some (.cells kVals fr.1 fr.2)) :
    Calls Tryz.prog 9 #[.pointer (some ⟨y.b, 0, none⟩)] W' fun e w' => ∃ v, e = .returned v ∧ Own w' W'.heap.size v (rootM R).1 ∧ Below W'.heap.size W' w' := by
  obtain ⟨n, f, h1, h2, h3, h4⟩ := h.b
  exact sroot_any h1 (by simp [sumN]; omega) h2 fr hk
end Go.Proofs.YtpcoonnfaoakhaaGreatDoor
namespace Go.Proofs.YtpcoonnfaoakhaaGreatDoor
set_option maxRecDepth 100000
open Go Go.RowKit
set_option linter.unusedVariables false

/-- the document's store at block b: R is kept in it -/
def DocS (w : World) (b : Nat) (R : List Pr) : Prop := ∃ v, w.heap[b]? = some (.cells #[v, .pointer none, .slice none 0 0] 106 (0, 0)) ∧ RdP w w.heap.size v R
theorem getL_at {R : List Pr} {s : ByteArray} {k : Nat} (hk : k < R.length) (h : getL (R.take k) s = none) (e : R[k].1 = s) : getL R s = some R[k].2 := by
  have h1 : R = R.take k ++ R[k] :: R.drop (k + 1) := by rw [← List.drop_eq_getElem_cons hk, List.take_append_drop]
  calc getL R s = getL (R.take k ++ R[k] :: R.drop (k + 1)) s := by rw [← h1]
    _ = some R[k].2 := by rw [getL_append, h, getL_cons, if_pos e]; rfl
theorem getL_next {R : List Pr} {s : ByteArray} {k : Nat} (hk : k < R.length) (h : getL (R.take k) s = none) (e : ¬ R[k].1 = s) : getL (R.take (k + 1)) s = none := by
  rw [← List.take_append_getElem hk, getL_append, h, getL_cons, if_neg e]; rfl

set_option maxHeartbeats 4000000 in
theorem rget_any {w : World} {b : Nat} {R : List Pr} (h : DocS w b R) (hn : R.length ≤ 100000000) (hv : ∀ p ∈ R, p.2.length ≤ 2000000) (key : ByteArray) :
    Calls Tryz.prog 76 #[.pointer (some ⟨b, 0, none⟩), .string key] w fun e w' => ∃ v, e = .returned (.tuple #[v, .bool (getL R key).isSome]) ∧ Own w' w.heap.size v ((getL R key).getD []) ∧ Below w.heap.size w w' := by
  obtain ⟨j0, hj0, hjz, hjs, hjb⟩ := info_parts Tryz.infoByte
  obtain ⟨v, hb, hr⟩ := h
  have c0 : w.cell? ⟨b, 0, none⟩ = some v := blk_cell hb 0
  have c1 : w.cell? ⟨b, 1, none⟩ = some (.pointer none) := blk_cell hb 1
  have c2 : w.cell? ⟨b, 2, none⟩ = some (.slice none 0 0) := blk_cell hb 2
  obtain ⟨A, c, rfl, hc, hm, hp⟩ := hr
  unfold maxLen at hm
  obtain ⟨n, hnn⟩ : ∃ n, n = R.length := ⟨_, rfl⟩
  rw [← hnn] at hc hn c0
  have HN := Lib.hid hnn
  have HP := Lib.hid hp
  have HV := Lib.hid hv
  clear hp hnn hv hb
  go_enter Tryz.func76, Tryz.ntmps76
  go_wp2_with fail
  go_loopw [6] (fun i wr => i = .int .i64 (-1) ∧ wr = w)
    (fun _ _ => 0)
  case atStart => exact ⟨rfl, rfl⟩
  case round =>
    obtain ⟨rfl, rfl⟩ := hrel
    rename World => w
    go_wp2_with fail
    go_loopw [65] (fun i wr => ∃ k : Nat, k ≤ n ∧ i = .int .i64 (k : Int) ∧ Below w.heap.size w wr ∧ Hid (getL (R.take k) key = none))
      (fun i _ => n - (intOf i).toNat)
    case atStart => exact ⟨0, Nat.zero_le _, rfl, Below.refl _ _, Lib.hid rfl⟩
    case round =>
      rename World => W
      obtain ⟨k, hkn, rfl, hbW, HT⟩ := hrel
      by_cases hlt : k < n
      · have hkl : k < R.length := by have := HN.out; omega
        obtain ⟨g, o, rfl, hgl, hcell⟩ := HP.out (by omega)
        obtain ⟨q1, x, q2, q3⟩ := hcell k hkl
        have a1 := (hbW.cell (p := ⟨g, o + k * 2, none⟩) hgl).trans q1
        have a2 := (hbW.cell (p := ⟨g, o + k * 2 + 1, none⟩) hgl).trans q2
        have hvk := HV.out _ (List.getElem_mem hkl)
        have i1 : (0 : Int) ≤ (k : Int) := by omega
        have i2 : (k : Int) < (n : Int) := by omega
        obtain ⟨Ax, cx, rfl⟩ := q3.form
        have hal : Below W.heap.size W (W.alloc (.cells #[.string R[k].1, .slice Ax R[k].2.length cx] 48)) := (Below.refl _ _).alloc (Nat.le_refl _) _
        have hq1 := hbW.alloc hbW.size (.cells #[.string R[k].1, .slice Ax R[k].2.length cx] 48)
        have hcs := heap_alloc_new W (.cells #[.string R[k].1, .slice Ax R[k].2.length cx] 48)
        have hr1 := (q3.below hq1).more hq1.size
        by_cases hs : R[k].1 = key
        · have HG := Lib.hid (getL_at hkl HT.out hs)
          rw [hs] at a1 hal hq1 hcs hr1
          generalize R[k].2 = l at *
          have d0 : (W.alloc (.cells #[.string key, .slice Ax l.length cx] 48)).cell? ⟨W.heap.size, 0, none⟩ = some (.string key) := blk_cell hcs 0
          have d1 : (W.alloc (.cells #[.string key, .slice Ax l.length cx] 48)).cell? ⟨W.heap.size, 1, none⟩ = some (.slice Ax l.length cx) := blk_cell hcs 1
          obtain ⟨W1, hW1⟩ : ∃ W1, W1 = W.alloc (.cells #[.string key, .slice Ax l.length cx] 48) := ⟨_, rfl⟩
          have hbe : Below W1.heap.size W1 (W1.alloc (.cells #[] 5)) := (Below.refl _ _).alloc (Nat.le_refl _) _
          have hrE : Rd (W1.alloc (.cells #[] 5)) W1.heap.size (.slice Ax l.length cx) l := by rw [← hW1] at hr1; exact hr1.below hbe
          have hED : Own (W1.alloc (.cells #[] 5)) W1.heap.size (.slice (some ⟨W1.heap.size, 0, none⟩) 0 0) [] := own_empty W1 (Nat.le_refl _)
          have hlz : W.heap.size < W1.heap.size := by rw [hW1]; simp
          have e1 : (W1.alloc (.cells #[] 5)).cell? ⟨W.heap.size, 1, none⟩ = some (.slice Ax l.length cx) := (hbe.cell (p := ⟨W.heap.size, 1, none⟩) hlz).trans (by rw [hW1]; exact d1)
          have hq1' : Below w.heap.size w W1 := by rw [hW1]; exact hq1
          have HE := Lib.hid (And.intro hbe (And.intro hrE hED))
          have hsz1 : W1.heap.size = W.heap.size + 1 := by rw [hW1]; simp
          have HS1 : Hid ((W.alloc (.cells #[.string key, .slice Ax l.length cx] 48)).heap.size = W.heap.size + 1) := Lib.hid (by simp)
          rw [hsz1] at HE
          rw [hW1] at HE e1 hq1'
          clear hcell q1 q2 q3 hcs hal hq1 hr1 hbe hrE hED hsz1 HT hlz hW1
          go_wp2_with (at_builtin; refine wpList_append_rd rfl (.tmp 73) (.tmp 75) _ rfl j0 Tryz.underlying27 hj0 hjz hjs hjb rfl HE.out.2.2 rfl HE.out.2.1 (by simp; omega) (by simp) ?_; intro v3 w3 ho3 hg3 _)
          have hb3 := Own.below_grown HE.out.1 HE.out.2.2 (Nat.le_refl _) (by simp) hg3
          go_ret2
          exact ⟨v3, by rw [HG.out]; rfl, by rw [HG.out]; exact (show Own w3 _ v3 l from ho3).more (Nat.le_trans hbW.size (Nat.le_succ _)), below_chain hq1' (by rw [HS1.out]; exact Nat.le_trans hbW.size (Nat.le_succ _)) (by rw [HS1.out]; exact hb3)⟩
        · have HG := Lib.hid (getL_next hkl HT.out hs)
          have hne : (R[k].1.toList == key.toList) = false := beq_toList_ne hs
          clear hcell q1 q2 hs HT hr1 q3
          generalize R[k].1 = s at *
          generalize R[k].2 = l at *
          have d0 : (W.alloc (.cells #[.string s, .slice Ax l.length cx] 48)).cell? ⟨W.heap.size, 0, none⟩ = some (.string s) := blk_cell hcs 0
          clear hcs hal
          go_wp2_with fail
          exact ⟨⟨k + 1, by omega, by go_num, hq1, HG⟩, by simp [intOf]; omega⟩
      · have i2 : ¬ (k : Int) < (n : Int) := by omega
        have HG : Hid (getL R key = none) := Lib.hid (by
          have := HT.out
          rwa [List.take_of_length_le (by have := HN.out; omega)] at this)
        clear HT
        go_wp2_with fail
        go_ret2
        exact ⟨_, by rw [HG.out]; rfl, by rw [HG.out]; exact Own.nil _ _, hbW⟩
end Go.Proofs.YtpcoonnfaoakhaaGreatDoor
namespace Go.Proofs.YtpcoonnfaoakhaaGreatDoor
set_option maxRecDepth 100000
open Go

/-- what stands between slashes -/
def wordsL : List UInt8 → List (List UInt8)
  | [] => [[]]
  | c :: l => if c = 47 then [] :: wordsL l else match wordsL l with
    | [] => [[c]]
    | x :: r => (c :: x) :: r
theorem wordsL_plain : ∀ {h : List UInt8}, (47 : UInt8) ∉ h → wordsL h = [h]
  | [], _ => rfl
  | c :: h, hn => by
    have h1 : ¬ c = 47 := fun e => hn (by simp [e])
    unfold wordsL
    rw [if_neg h1, wordsL_plain (h := h) (fun e => hn (by simp [e]))]
theorem wordsL_app : ∀ {h : List UInt8} (r : List UInt8), (47 : UInt8) ∉ h → wordsL (h ++ 47 :: r) = h :: wordsL r
  | [], r, _ => by simp [wordsL]
  | c :: h, r, hn => by
    have h1 : ¬ c = 47 := fun e => hn (by simp [e])
    rw [List.cons_append, wordsL, if_neg h1, wordsL_app (h := h) r (fun e => hn (by simp [e]))]
/-- the word that stands ahead of each hop -/
def trW : List UInt8 := [116, 114, 97, 110, 115, 102, 101, 114]
/-- are these the words of a denomination? -/
def chk : List (List UInt8) → Bool
  | [] => false
  | [x] => identL x
  | t :: h :: r => decide (t = trW) && identL h && chk r
/-- pair by pair -/
def pairOk (ws : List (List UInt8)) (j : Nat) : Bool := decide (ws.getD (2 * j) [] = trW) && identL (ws.getD (2 * j + 1) [])
theorem drop_cut (l : List UInt8) {f i : Nat} (h : f ≤ i) (hi : i < l.length) : l.drop f = (l.drop f).take (i - f) ++ l.getD i 0 :: l.drop (i + 1) := by
  have e : l.getD i 0 = l[i] := by rw [List.getD_eq_getElem?_getD, List.getElem?_eq_getElem hi]; rfl
  have h1 : (l.drop f).drop (i - f) = l.drop i := by rw [List.drop_drop]; congr 1; omega
  have h2 : l.drop i = l[i] :: l.drop (i + 1) := List.drop_eq_getElem_cons hi
  rw [e, ← h2, ← h1, List.take_append_drop]
/-- a slash: one word more -/
theorem words_slash (l : List UInt8) {f i : Nat} (h : f ≤ i) (hi : i < l.length) (hn : (47 : UInt8) ∉ (l.drop f).take (i - f)) (hc : l.getD i 0 = 47) :
    wordsL (l.drop f) = (l.drop f).take (i - f) :: wordsL (l.drop (i + 1)) := by
  have := drop_cut l h hi
  rw [hc] at this
  rw [this, wordsL_app _ hn, ← this]
theorem words_on (l : List UInt8) {f i : Nat} (h : f ≤ i) (hi : i < l.length) (hn : (47 : UInt8) ∉ (l.drop f).take (i - f)) (hc : l.getD i 0 ≠ 47) :
    (47 : UInt8) ∉ (l.drop f).take (i + 1 - f) := by
  have e : l.getD i 0 = l[i] := by rw [List.getD_eq_getElem?_getD, List.getElem?_eq_getElem hi]; rfl
  rw [show i + 1 - f = i - f + 1 by omega, List.take_succ_eq_append_getElem (by rw [List.length_drop]; omega)]
  simp only [List.mem_append, List.mem_singleton, not_or]
  refine ⟨hn, ?_⟩
  rw [List.getElem_drop]
  intro he
  apply hc
  rw [e, he]
  congr 1
  omega
theorem words_end (l : List UInt8) {f : Nat} (hn : (47 : UInt8) ∉ (l.drop f).take (l.length - f)) : wordsL (l.drop f) = [(l.drop f).take (l.length - f)] := by
  rw [List.take_of_length_le (by rw [List.length_drop]; omega)] at hn ⊢
  exact wordsL_plain hn
end Go.Proofs.YtpcoonnfaoakhaaGreatDoor
namespace Go.Proofs.YtpcoonnfaoakhaaGreatDoor
set_option maxRecDepth 100000
open Go Go.RowKit

theorem rsmall_any (c : UInt8) (w : World) : Calls Tryz.prog 154 #[.int .u8 (c.toNat : Int)] w fun e w' => e = .returned (.bool (smB c)) ∧ w = w' := by
  have hc := c.toNat_lt
  unfold smB
  by_cases h1 : 97 ≤ c.toNat
  · by_cases h2 : c.toNat ≤ 122
    · rw [decide_eq_true ⟨h1, h2⟩]
      have i1 : (97 : Int) ≤ (c.toNat : Int) := by omega
      have i2 : (c.toNat : Int) ≤ 122 := by omega
      go_enter Tryz.func154, Tryz.ntmps154
      go_wp2
      go_ret
      exact ⟨rfl, rfl⟩
    · rw [decide_eq_false (fun h => h2 h.2)]
      have i1 : (97 : Int) ≤ (c.toNat : Int) := by omega
      have i2 : ¬ (c.toNat : Int) ≤ 122 := by omega
      go_enter Tryz.func154, Tryz.ntmps154
      go_wp2
      go_ret
      exact ⟨rfl, rfl⟩
  · rw [decide_eq_false (fun h => h1 h.1)]
    have i1 : ¬ (97 : Int) ≤ (c.toNat : Int) := by omega
    go_enter Tryz.func154, Tryz.ntmps154
    go_wp2
    go_ret
    exact ⟨rfl, rfl⟩
theorem rdigit_any (c : UInt8) (w : World) : Calls Tryz.prog 155 #[.int .u8 (c.toNat : Int)] w fun e w' => e = .returned (.bool (dgB c)) ∧ w = w' := by
  have hc := c.toNat_lt
  unfold dgB
  by_cases h1 : 48 ≤ c.toNat
  · by_cases h2 : c.toNat ≤ 57
    · rw [decide_eq_true ⟨h1, h2⟩]
      have i1 : (48 : Int) ≤ (c.toNat : Int) := by omega
      have i2 : (c.toNat : Int) ≤ 57 := by omega
      go_enter Tryz.func155, Tryz.ntmps155
      go_wp2
      go_ret
      exact ⟨rfl, rfl⟩
    · rw [decide_eq_false (fun h => h2 h.2)]
      have i1 : (48 : Int) ≤ (c.toNat : Int) := by omega
      have i2 : ¬ (c.toNat : Int) ≤ 57 := by omega
      go_enter Tryz.func155, Tryz.ntmps155
      go_wp2
      go_ret
      exact ⟨rfl, rfl⟩
  · rw [decide_eq_false (fun h => h1 h.1)]
    have i1 : ¬ (48 : Int) ≤ (c.toNat : Int) := by omega
    go_enter Tryz.func155, Tryz.ntmps155
    go_wp2
    go_ret
    exact ⟨rfl, rfl⟩
def allB (l : List UInt8) : Bool := l.all okB
theorem identL_of0 (l : List UInt8) (h0 : 0 < l.length) (h32 : l.length ≤ 32) (hs : smB (l.getD 0 0) = true) : identL l = allB l := by
  unfold allB
  rw [identL_of l h0 h32 hs]
  cases l with
  | nil => simp at h0
  | cons c r =>
    simp only [List.getD_cons_zero] at hs
    simp [okB_of_sm hs]
theorem all_more0 (l : List UInt8) (k : Nat) (h : k < l.length) : allB (l.take (k + 1)) = (allB (l.take k) && okB (l.getD k 0)) := by
  unfold allB
  have e : l.getD k 0 = l[k] := by rw [List.getD_eq_getElem?_getD, List.getElem?_eq_getElem h]; rfl
  rw [List.take_succ_eq_append_getElem h, List.all_append, e]
  simp
theorem all_stop0 (l : List UInt8) (k : Nat) (h : k < l.length) (hn : okB (l.getD k 0) = false) : allB l = false := by
  unfold allB
  have e : l.getD k 0 = l[k] := by rw [List.getD_eq_getElem?_getD, List.getElem?_eq_getElem h]; rfl
  rw [List.all_eq_false]
  exact ⟨l[k], List.getElem_mem _, by rw [← e, hn]; simp⟩

set_option maxHeartbeats 1000000 in
theorem rident_any (s : ByteArray) (w : World) (hs : s.size ≤ maxLen) : Calls Tryz.prog 94 #[.string s] w fun e w' => e = .returned (.bool (identL s.data.toList)) ∧ w = w' := by
  unfold maxLen at hs
  have hsz := Lib.size_eq s
  by_cases h0 : s.size = 0
  · have hl : s.data.toList = [] := List.eq_nil_of_length_eq_zero (by omega)
    have hl2 : s.toList = [] := by rw [Lib.toList_data]; exact hl
    rw [identL_no s.data.toList (.inl (by omega))]
    have i0 : (s.size : Int) < 1 := by omega
    have H0 := Lib.hid h0
    clear h0 hsz
    go_enter Tryz.func94, Tryz.ntmps94
    go_wp2_with fail
    go_ret
    exact ⟨rfl, rfl⟩
  · have hne : ¬ s.toList = [] := by
      intro e
      rw [Lib.toList_data] at e
      rw [e] at hsz
      exact h0 hsz
    have hne2 : (!s.toList.isEmpty) = true := by
      cases h : s.toList with
      | nil => exact absurd h hne
      | cons a r => rfl
    have hne3 : (s.toList == []) = false := by simpa using hne
    by_cases h32 : s.size ≤ 32
    · have hpos : 0 < s.size := Nat.pos_of_ne_zero h0
      have g0 := data_get s 0 hpos
      cases hsm : smB s[0] with
      | false =>
        rw [identL_no s.data.toList (.inr (.inr (by rw [g0]; exact hsm)))]
        have H1 := Lib.hid g0
        have H2 := Lib.hid hsz
        clear g0 hsz
        go_enter Tryz.func94, Tryz.ntmps94
        go_wp2_with (go_at_call 154; refine (rsmall_any _ _).mono ?_; rintro e w' ⟨rfl, rfl⟩)
        go_ret
        exact ⟨rfl, rfl⟩
      | true =>
        rw [identL_of0 s.data.toList (by omega) (by omega) (by rw [g0]; exact hsm)]
        have H1 := Lib.hid g0
        have H2 := Lib.hid hsz
        clear g0 hsz
        go_enter Tryz.func94, Tryz.ntmps94
        go_wp2_with (go_at_call 154; refine (rsmall_any _ _).mono ?_; rintro e w' ⟨rfl, rfl⟩)
        clear hne hne2 hne3 hsm
        go_loop [3] (fun i => ∃ k : Nat, k ≤ s.size ∧ i = .int .i64 k ∧ allB (s.data.toList.take k) = true) (fun i => s.size - (intOf i).toNat)
        case atStart => exact ⟨0, by omega, rfl, rfl⟩
        case round =>
          obtain ⟨k, hk, rfl, hall⟩ := hrel
          have HA := Lib.hid hall
          clear hall
          by_cases hlt : k < s.size
          · have HG := Lib.hid (data_get s k hlt)
            have HM := Lib.hid (all_more0 s.data.toList k (by have := H2.out; omega))
            cases e1 : smB s[k] with
            | true =>
              go_wp2_with (first | (go_at_call 154; refine (rsmall_any _ _).mono ?_; rintro e w' ⟨rfl, rfl⟩) | (go_at_call 155; refine (rdigit_any _ _).mono ?_; rintro e w' ⟨rfl, rfl⟩))
              go_round
              case rel => exact ⟨k + 1, by omega, by go_num, by rw [HM.out, HA.out, HG.out]; unfold okB; rw [e1]; rfl⟩
              case measure => simp [intOf]; omega
            | false =>
              cases e2 : dgB s[k] with
              | true =>
                go_wp2_with (first | (go_at_call 154; refine (rsmall_any _ _).mono ?_; rintro e w' ⟨rfl, rfl⟩) | (go_at_call 155; refine (rdigit_any _ _).mono ?_; rintro e w' ⟨rfl, rfl⟩))
                go_round
                case rel => exact ⟨k + 1, by omega, by go_num, by rw [HM.out, HA.out, HG.out]; unfold okB; rw [e2]; cases smB s[k] <;> rfl⟩
                case measure => simp [intOf]; omega
              | false =>
                by_cases c45 : s[k].toNat = 45
                · have b1 : ((s[k].toNat : Int) == 45) = true := by rw [c45]; rfl
                  have b2 : ((s[k].toNat : Int) != 45) = false := by rw [c45]; rfl
                  have HC := Lib.hid c45
                  clear c45
                  go_wp2_with (first | (go_at_call 154; refine (rsmall_any _ _).mono ?_; rintro e w' ⟨rfl, rfl⟩) | (go_at_call 155; refine (rdigit_any _ _).mono ?_; rintro e w' ⟨rfl, rfl⟩))
                  go_round
                  case rel => exact ⟨k + 1, by omega, by go_num, by rw [HM.out, HA.out, HG.out]; unfold okB; rw [HC.out]; cases smB s[k] <;> cases dgB s[k] <;> rfl⟩
                  case measure => simp [intOf]; omega
                · have b1 : ((s[k].toNat : Int) == 45) = false := by rw [beq_eq_false_iff_ne]; omega
                  have b2 : ((s[k].toNat : Int) != 45) = true := by rw [bne_iff_ne]; omega
                  by_cases c46 : s[k].toNat = 46
                  · have b3 : ((s[k].toNat : Int) == 46) = true := by rw [c46]; rfl
                    have b4 : ((s[k].toNat : Int) != 46) = false := by rw [c46]; rfl
                    have HC := Lib.hid c46
                    clear c46
                    go_wp2_with (first | (go_at_call 154; refine (rsmall_any _ _).mono ?_; rintro e w' ⟨rfl, rfl⟩) | (go_at_call 155; refine (rdigit_any _ _).mono ?_; rintro e w' ⟨rfl, rfl⟩))
                    go_round
                    case rel => exact ⟨k + 1, by omega, by go_num, by rw [HM.out, HA.out, HG.out]; unfold okB; rw [HC.out]; cases smB s[k] <;> cases dgB s[k] <;> rfl⟩
                    case measure => simp [intOf]; omega
                  · have b3 : ((s[k].toNat : Int) == 46) = false := by rw [beq_eq_false_iff_ne]; omega
                    have b4 : ((s[k].toNat : Int) != 46) = true := by rw [bne_iff_ne]; omega
                    have HS := Lib.hid (all_stop0 s.data.toList k (by have := H2.out; omega) (by rw [HG.out]; unfold okB; rw [e1, e2, decide_eq_false c45, decide_eq_false c46]; rfl))
                    clear c45 c46
                    go_wp2_with (first | (go_at_call 154; refine (rsmall_any _ _).mono ?_; rintro e w' ⟨rfl, rfl⟩) | (go_at_call 155; refine (rdigit_any _ _).mono ?_; rintro e w' ⟨rfl, rfl⟩))
                    go_ret
                    refine ⟨?_, rfl⟩
                    rw [HS.out]
                    rfl
          · have hk2 : k = s.size := by omega
            have HK := Lib.hid hk2
            clear hk2
            go_wp2
            go_ret
            refine ⟨?_, rfl⟩
            have := HA.out
            rw [List.take_of_length_le (by have := H2.out; have := HK.out; omega)] at this
            rw [this]
            rfl
    · rw [identL_no s.data.toList (.inr (.inl (by omega)))]
      have H2 := Lib.hid hsz
      clear hsz
      go_enter Tryz.func94, Tryz.ntmps94
      go_wp2_with fail
      go_ret
      exact ⟨rfl, rfl⟩
end Go.Proofs.YtpcoonnfaoakhaaGreatDoor
namespace Go.Proofs.YtpcoonnfaoakhaaGreatDoor
set_option maxRecDepth 100000
open Go Go.RowKit

def strs (ws : List (List UInt8)) : List Value := ws.map fun x => .string ⟨x.toArray⟩
/-- where the words stand at a round's head -/
def WR (l : List UInt8) (K F : Nat) (ws : List (List UInt8)) : Prop :=
  (K ≤ l.length ∧ F ≤ K ∧ (47 : UInt8) ∉ (l.drop F).take (K - F) ∧ wordsL l = ws ++ wordsL (l.drop F) ∧ ws.length ≤ K) ∨ (K = l.length + 1 ∧ wordsL l = ws ∧ ws.length ≤ K)
theorem WR.start (l : List UInt8) : WR l 0 0 [] := .inl ⟨by omega, by omega, by simp, by simp, by simp⟩
theorem WR.slash {l : List UInt8} {K F : Nat} {ws : List (List UInt8)} (h : WR l K F ws) (hk : K < l.length) (hc : l.getD K 0 = 47) : WR l (K + 1) (K + 1) (ws ++ [(l.drop F).take (K - F)]) := by
  rcases h with ⟨h1, h2, h3, h4, h5⟩ | ⟨h1, _⟩
  · refine .inl ⟨by omega, by omega, by simp, ?_, by simp; omega⟩
    rw [h4, words_slash l h2 hk h3 hc, List.append_assoc]
    rfl
  · omega
theorem WR.on {l : List UInt8} {K F : Nat} {ws : List (List UInt8)} (h : WR l K F ws) (hk : K < l.length) (hc : l.getD K 0 ≠ 47) : WR l (K + 1) F ws := by
  rcases h with ⟨h1, h2, h3, h4, h5⟩ | ⟨h1, _⟩
  · exact .inl ⟨by omega, by omega, words_on l h2 hk h3 hc, h4, by omega⟩
  · omega
theorem WR.last {l : List UInt8} {F : Nat} {ws : List (List UInt8)} (h : WR l l.length F ws) : WR l (l.length + 1) (l.length + 1) (ws ++ [(l.drop F).take (l.length - F)]) := by
  rcases h with ⟨h1, h2, h3, h4, h5⟩ | ⟨h1, _⟩
  · exact .inr ⟨rfl, by rw [h4, words_end l h3], by simp; omega⟩
  · omega
theorem WR.done {l : List UInt8} {K F : Nat} {ws : List (List UInt8)} (h : WR l K F ws) (hk : ¬ K ≤ l.length) : wordsL l = ws := by
  rcases h with ⟨h1, _⟩ | ⟨_, h, _⟩
  · omega
  · exact h
theorem WR.len {l : List UInt8} {K F : Nat} {ws : List (List UInt8)} (h : WR l K F ws) : ws.length ≤ l.length + 1 ∧ K ≤ l.length + 1 := by
  rcases h with ⟨_, _, _, _, h⟩ | ⟨_, _, h⟩ <;> omega

end Go.Proofs.YtpcoonnfaoakhaaGreatDoor
namespace Go.Proofs.YtpcoonnfaoakhaaGreatDoor
set_option maxRecDepth 100000
open Go Go.RowKit

end Go.Proofs.YtpcoonnfaoakhaaGreatDoor
namespace Go.Proofs.YtpcoonnfaoakhaaGreatDoor
set_option maxRecDepth 100000
open Go Go.RowKit
set_option linter.unusedVariables false

theorem rtakes_any (s : ByteArray) (v : Value) (l : List UInt8) (w : World) (hs : s.size ≤ maxLen) (hr : Rd w w.heap.size v l) : Calls Tryz.prog 67 #[.string s, v] w fun e w' => e = .returned (.bool (pairB (s, l))) ∧ w = w' := by
  obtain ⟨A, c, rfl, hc, hm, _⟩ := hr
  unfold maxLen at hs hm
  by_cases h1 : 1 ≤ s.size
  · by_cases h2 : s.size ≤ 200
    · by_cases h3 : l.length ≤ 65535
      · have e : pairB (s, l) = true := by simp [pairB, keyB, h1, h2, h3]
        have i1 : (1 : Int) ≤ (s.size : Int) := by omega
        have i2 : (s.size : Int) ≤ 200 := by omega
        have i3 : (l.length : Int) ≤ 65535 := by omega
        rw [e]; clear e
        go_enter Tryz.func67, Tryz.ntmps67
        go_wp2
        go_ret
        exact ⟨rfl, rfl⟩
      · have e : pairB (s, l) = false := by simp [pairB, h3]
        have i1 : (1 : Int) ≤ (s.size : Int) := by omega
        have i2 : (s.size : Int) ≤ 200 := by omega
        have i3 : ¬ (l.length : Int) ≤ 65535 := by omega
        rw [e]; clear e
        go_enter Tryz.func67, Tryz.ntmps67
        go_wp2
        go_ret
        exact ⟨rfl, rfl⟩
    · have e : pairB (s, l) = false := by simp [pairB, keyB, h2]
      have i1 : (1 : Int) ≤ (s.size : Int) := by omega
      have i2 : ¬ (s.size : Int) ≤ 200 := by omega
      rw [e]; clear e
      go_enter Tryz.func67, Tryz.ntmps67
      go_wp2
      go_ret
      exact ⟨rfl, rfl⟩
  · have e : pairB (s, l) = false := by simp [pairB, keyB, h1]
    have i1 : ¬ (1 : Int) ≤ (s.size : Int) := by omega
    rw [e]; clear e
    go_enter Tryz.func67, Tryz.ntmps67
    go_wp2
    go_ret
    exact ⟨rfl, rfl⟩
theorem rtakes_quiet (s : ByteArray) (v : Value) (l : List UInt8) (w : World) (n : Nat) (hs : s.size ≤ maxLen) (hr : Rd w w.heap.size v l) : Calls Tryz.prog 67 #[.string s, v] (w.drewN n) fun e w' => e = .returned (.bool (pairB (s, l))) ∧ ∃ k, w' = w.drewN k := by
  refine (rtakes_any s v l (w.drewN n) hs hr).mono ?_
  rintro e w' ⟨rfl, rfl⟩
  exact ⟨rfl, n, rfl⟩

set_option maxHeartbeats 8000000 in
theorem rnew_doc (w : World) (v : Value) (ps : List Pr) (hr : RdP w w.heap.size v ps) (hnl : ∀ p ∈ ps, p.1.size ≤ maxLen) (hvl : ∀ p ∈ ps, p.2.length ≤ 2000000) (hn1 : ps.length ≤ 2000000) :
    Calls Tryz.prog 19 #[v] w fun e w' => ((ordR none ps = false ∧ e = .returned (.tuple #[.pointer none, .int .i64 60])) ∨ (ordR none ps = true ∧ ∃ b, e = .returned (.tuple #[.pointer (some ⟨b, 0, none⟩), .int .i64 0]) ∧ w.heap.size ≤ b ∧ DocS w' b ps)) ∧ Below w.heap.size w w' := by
  obtain ⟨i0, hi0, hz, hsz, hby⟩ := info_parts Tryz.infoPairL
  obtain ⟨j0, hj0, hjz, hjs, hjb⟩ := info_parts Tryz.infoByte
  obtain ⟨A, c, rfl, hc, hm, hp⟩ := hr
  unfold maxLen at hm
  obtain ⟨n, hn⟩ : ∃ n, n = ps.length := ⟨_, rfl⟩
  rw [← hn] at hc hn1 ⊢
  have HN := Lib.hid hn
  have HP := Lib.hid hp
  have HL := Lib.hid hnl
  have HVL := Lib.hid hvl
  clear hp hnl hn hvl
  go_enter Tryz.func19, Tryz.ntmps19
  go_wp2_with fail
  have HZ : Hid (OwnP 0 (w.alloc (.cells #[.slice none 0 0, .pointer none, .slice none 0 0] 106)) (w.heap.size + 1) (.slice none 0 0) [] ∧ (w.alloc (.cells #[.slice none 0 0, .pointer none, .slice none 0 0] 106)).heap[w.heap.size]? = some (.cells #[.slice none 0 0, .pointer none, .slice none 0 0] 106 (0, 0)) ∧ Below w.heap.size w (w.alloc (.cells #[.slice none 0 0, .pointer none, .slice none 0 0] 106))) := Lib.hid ⟨OwnX.nil _ _, heap_alloc_new _ _, (Below.refl _ _).alloc (Nat.le_refl _) _⟩
  go_loopw [11] (fun i wr => ∃ k : Nat, k ≤ n ∧ i = .int .i64 (k : Int) ∧ Below w.heap.size w wr ∧ Hid (ordR none ps = ordR (prevK ps k) (ps.drop k)) ∧ Hid (∃ Ab cb, wr.heap[w.heap.size]? = some (.cells #[.slice Ab k cb, .pointer none, .slice none 0 0] 106 (0, 0)) ∧ OwnP 0 wr (w.heap.size + 1) (.slice Ab k cb) (ps.take k)))
    (fun i _ => n - (intOf i).toNat)
  case atStart => exact ⟨0, Nat.zero_le _, rfl, HZ.out.2.2, Lib.hid (by simp [prevK]), Lib.hid ⟨_, _, HZ.out.2.1, HZ.out.1⟩⟩
  case round =>
    clear HZ
    obtain ⟨k, hk, rfl, hb, HR, HO⟩ := hrel
    by_cases hlt : k < n
    · have hkl : k < ps.length := by have := HN.out; omega
      obtain ⟨b0, o, rfl, hbl, hcell⟩ := HP.out (by omega)
      obtain ⟨q1, x, q2, q3⟩ := hcell k hkl
      have a1 := (hb.cell (p := ⟨b0, o + k * 2, none⟩) hbl).trans q1
      have a2 := (hb.cell (p := ⟨b0, o + k * 2 + 1, none⟩) hbl).trans q2
      have hks := HL.out _ (List.getElem_mem hkl)
      have hvk := HVL.out _ (List.getElem_mem hkl)
      have i1 : (0 : Int) ≤ (k : Int) := by omega
      have i2 : (k : Int) < (n : Int) := by omega
      have hst := ordR_step ps k hkl
      have hrd := HR.out
      rw [← hrd] at hst
      have hgo : pairB ps[k] = true → (∀ a, prevK ps k = some a → ltS a ps[k].1 = true) → ordR none ps = ordR (prevK ps (k + 1)) (ps.drop (k + 1)) := fun hpb hlt' => by
        rw [hst, hpb]
        cases hpk : prevK ps k with
        | none => rfl
        | some a => rw [hpk] at hlt'; simp [hlt' a rfl]
      have hbadP : pairB ps[k] = false → ordR none ps = false := fun e => by rw [hst, e]; rfl
      have hbadO : ∀ a, prevK ps k = some a → ltS a ps[k].1 = false → ordR none ps = false := fun a e e' => by rw [hst, e]; dsimp only; rw [e']; simp
      obtain ⟨Ax, cx, rfl⟩ := q3.form
      have hxl : (ps[k].2).length ≤ 9223372036854775807 := q3.len
      obtain ⟨Ab, cb, hG, ho⟩ := HO.out
      have hbz : Below wr.heap.size wr (wr.alloc (.cells #[.string ps[k].1, .slice Ax ps[k].2.length cx] 48)) := (Below.refl _ _).alloc (Nat.le_refl _) _
      have hbx := hb.alloc hb.size (.cells #[.string ps[k].1, .slice Ax ps[k].2.length cx] 48)
      have hrx := (q3.below hbx).more hbx.size
      have hcs := heap_alloc_new wr (.cells #[.string ps[k].1, .slice Ax ps[k].2.length cx] 48)
      have hlz1 : wr.heap.size < (wr.alloc (.cells #[.string ps[k].1, .slice Ax ps[k].2.length cx] 48)).heap.size := by simp
      have hGz := (hbz.block w.heap.size (blk_lt hG)).trans hG
      have hoz := OwnP.up ho hbz
      have hprev : ∀ (q : Nat) (hq : q + 1 = k), (wr.alloc (.cells #[.string ps[k].1, .slice Ax ps[k].2.length cx] 48)).cell? ⟨b0, o + q * 2, none⟩ = some (.string (ps[q]'(by omega)).1) := fun q hq =>
        (hbx.cell (p := ⟨b0, o + q * 2, none⟩) hbl).trans (hcell q (by omega)).1
      have hpk : ∀ (q : Nat) (hq : q + 1 = k), prevK ps k = some (ps[q]'(by omega)).1 := fun q hq => by
        subst hq
        unfold prevK
        rw [if_neg (by omega), Nat.add_sub_cancel, List.getElem?_eq_getElem (by omega)]
        rfl
      have hp0 : k = 0 → prevK ps k = none := fun h0 => by unfold prevK; rw [if_pos h0]
      have HF := Lib.hid (And.intro hgo (And.intro hbadP (And.intro hbadO (And.intro hpk hp0))))
      have HX := Lib.hid (And.intro hbx (And.intro hrx (And.intro hGz hoz)))
      have HPV := Lib.hid hprev
      have HTK : Hid (ps.take (k + 1) = ps.take k ++ [ps[k]]) := Lib.hid (List.take_append_getElem hkl).symm
      clear hgo hbadP hbadO hst hrd hcell hrx HR hprev hpk hp0 hG ho hGz hoz HO hbx hbz
      have HPS : Hid (ps[k] = (ps[k].1, ps[k].2)) := Lib.hid rfl
      clear q1 q2 q3
      generalize hpsk1 : ps[k].1 = s at *
      generalize hpsk2 : ps[k].2 = L at *
      clear hpsk1 hpsk2
      go_wp2_with fail
      have z0 : (wr.alloc (.cells #[.string s, .slice Ax L.length cx] 48)).cell? ⟨wr.heap.size, 0, none⟩ = some (.string s) := blk_cell hcs 0
      have z1 : (wr.alloc (.cells #[.string s, .slice Ax L.length cx] 48)).cell? ⟨wr.heap.size, 1, none⟩ = some (.slice Ax L.length cx) := blk_cell hcs 1
      clear hcs a1 a2
      generalize wr.alloc (.cells #[.string s, .slice Ax L.length cx] 48) = W1 at *
      cases hpb : pairB (s, L) with
      | false =>
        have HT : Hid (∀ m, Calls Tryz.prog 67 #[.string s, .slice Ax L.length cx] (W1.drewN m) fun e w' => e = .returned (.bool false) ∧ ∃ k, w' = W1.drewN k) := Lib.hid fun m => by have := rtakes_quiet s _ L W1 m hks HX.out.2.1; rw [hpb] at this; exact this
        have HRf : Hid (ordR none ps = false) := Lib.hid (HF.out.2.1 (by rw [HPS.out]; exact hpb))
        have hbx2 := HX.out.1
        clear hpb
        go_wp2_with fail
        go_quiet ((go_at_call 67; with_reducible exact HT.out _))
        go_wp2_with fail
        go_ret2
        exact ⟨Or.inl ⟨HRf.out, rfl⟩, below_drewN' hbx2 _⟩
      | true =>
        have HT : Hid (∀ m, Calls Tryz.prog 67 #[.string s, .slice Ax L.length cx] (W1.drewN m) fun e w' => e = .returned (.bool true) ∧ ∃ k, w' = W1.drewN k) := Lib.hid fun m => by have := rtakes_quiet s _ L W1 m hks HX.out.2.1; rw [hpb] at this; exact this
        have HPB := Lib.hid hpb
        clear hpb
        by_cases h0 : k = 0
        · have HLT : Hid (∀ a, prevK ps k = some a → ltS a s = true) := Lib.hid fun a e => by rw [HF.out.2.2.2.2 h0] at e; cases e
          have j1 : ¬ (0 : Int) < (k : Int) := by omega
          have j2 : decide (0 < k) = false := by simp [h0]
          clear h0
          have HG := Lib.hid (HF.out.1 (by rw [HPS.out]; exact HPB.out) HLT.out)
          clear HPB
          go_wp2_with fail
          go_quiet ((go_at_call 67; with_reducible exact HT.out _))
          go_wp2_with fail
          clear HT
          have hW2 : ∃ W2 : World, W2 = W1.drewN nq := ⟨_, rfl⟩
          obtain ⟨W2, hW2⟩ := hW2
          have hz0 : W2.cell? ⟨wr.heap.size, 0, none⟩ = some (.string s) := by rw [hW2]; exact z0
          have hz1 : W2.cell? ⟨wr.heap.size, 1, none⟩ = some (.slice Ax L.length cx) := by rw [hW2]; exact z1
          have hG2 : W2.heap[w.heap.size]? = some (.cells #[.slice Ab k cb, .pointer none, .slice none 0 0] 106 (0, 0)) := by rw [hW2]; exact HX.out.2.2.1
          have ho2 : OwnP 0 W2 (w.heap.size + 1) (.slice Ab k cb) (ps.take k) := by rw [hW2]; exact HX.out.2.2.2
          have hrx2 : Rd W2 W2.heap.size (.slice Ax L.length cx) L := by rw [hW2]; exact HX.out.2.1
          have hb2 : Below w.heap.size w W2 := by rw [hW2]; exact below_drewN' HX.out.1 _
          have hl2 : w.heap.size < W2.heap.size := blk_lt hG2
          have hlz : wr.heap.size < W2.heap.size := by rw [hW2]; exact hlz1
          rw [← hW2]
          clear hW2 z0 z1 HX hlz1
          generalize ps.take k = K at *
          have hbE : Below W2.heap.size W2 (W2.alloc (.cells #[] 5)) := (Below.refl _ _).alloc (Nat.le_refl _) _
          have hED : Own (W2.alloc (.cells #[] 5)).drew W2.heap.size (.slice (some ⟨W2.heap.size, 0, none⟩) 0 0) [] := own_empty W2 (Nat.le_refl _)
          have hbD : Below W2.heap.size W2 (W2.alloc (.cells #[] 5)).drew := hbE.drew
          have HLE := Lib.hid (show W2.heap.size ≤ (W2.alloc (.cells #[] 5)).drew.heap.size by simp)
          have hrD := hrx2.up (Nat.le_refl _) hbD
          have hy0 : W2.drew.cell? ⟨wr.heap.size, 0, none⟩ = some (.string s) := hz0
          have hy1 : W2.drew.cell? ⟨wr.heap.size, 1, none⟩ = some (.slice Ax L.length cx) := hz1
          have hy2 : W2.drew.cell? ⟨w.heap.size, 0, none⟩ = some (.slice Ab k cb) := blk_cell hG2 0
          have hx0 : (W2.alloc (.cells #[] 5)).drew.cell? ⟨wr.heap.size, 0, none⟩ = some (.string s) := (hbD.cell (p := ⟨wr.heap.size, 0, none⟩) hlz).trans hz0
          have hx1 : (W2.alloc (.cells #[] 5)).drew.cell? ⟨wr.heap.size, 1, none⟩ = some (.slice Ax L.length cx) := (hbD.cell (p := ⟨wr.heap.size, 1, none⟩) hlz).trans hz1
          have hx2 : (W2.alloc (.cells #[] 5)).drew.cell? ⟨w.heap.size, 0, none⟩ = some (.slice Ab k cb) := (hbD.cell (p := ⟨w.heap.size, 0, none⟩) hl2).trans (blk_cell hG2 0)
          have HKl : Hid (K.length = k) := Lib.hid (by obtain ⟨_, _, h⟩ := ho2.form; injection h with _ h _; exact h.symm)
          go_region_law (first
            | (refine wp_append_rd (.tmp 44) (.tmp 46) _ rfl j0 Tryz.underlying27 hj0 hjz hjs hjb rfl hED rfl hrD (by simp; omega) HLE.out ?_; intro v5 w5 ho5 hg5 _; have hb5 : Below W2.heap.size W2 w5 := hbD.grown hg5 HLE.out (fun k hk => (hED.lt k hk).1); replace ho5 : Own w5 W2.heap.size v5 L := ho5; obtain ⟨A5, c5, rfl⟩ := ho5.form; have hx6 := hb5.alloc hb5.size (.cells #[.string s, .slice A5 L.length c5] 48); have hbx6 : Below w5.heap.size w5 (w5.alloc (.cells #[.string s, .slice A5 L.length c5] 48)) := (Below.refl _ _).alloc (Nat.le_refl _) _; have hgz6 := heap_alloc_new w5 (.cells #[.string s, .slice A5 L.length c5] 48); have hpc5 : PrC 0 w5 [.string s, .slice A5 L.length c5] (s, L) := ⟨_, rfl, ho5.rdS⟩; have hpc6 := hpc5.up hbx6; have hob6 := OwnP.up ho2 hx6; have hq6 := below_chain hb2 hb2.size hx6; have hws6 : w.heap.size + 1 ≤ (w5.alloc (.cells #[.string s, .slice A5 L.length c5] 48)).heap.size := (Nat.le_trans hl2 hx6.size); have e50 := (hb5.cell (p := ⟨wr.heap.size, 0, none⟩) hlz).trans hz0; have e52 : w5.cell? ⟨w.heap.size, 0, none⟩ = some (.slice Ab k cb) := (hb5.cell (p := ⟨w.heap.size, 0, none⟩) hl2).trans (blk_cell hG2 0); have e62 := (hbx6.cell (p := ⟨w.heap.size, 0, none⟩) (Nat.lt_of_lt_of_le hl2 hb5.size)).trans e52; have e60 := (hbx6.cell (p := ⟨wr.heap.size, 0, none⟩) (Nat.lt_of_lt_of_le hlz hb5.size)).trans e50)
            | (refine wp_append_x (B0 := 0) (b := w5.heap.size) (off := 0) (.tmp 41) (.tmp 49) _ rfl i0 _ 40 Tryz.underlying22 hi0 hz hsz hby rfl (by decide) rfl hob6 rfl _ hpc6.len (fun j hj => (by rw [Nat.zero_add]; exact pairCells_get hgz6 j hj)) hpc6.one hpc6 (fun w' c a hc hg => hc.grow hg (by decide)) (Nat.zero_le _) (by unfold maxLen; have := HKl.out; omega) (by have := HKl.out; omega) hws6 ?_; intro v7 w7 ho7 hg7; have hG7 := (hg7.block w.heap.size (Nat.lt_of_lt_of_le hl2 hx6.size) (fun e => by have := (OwnX.lt hob6 _ e.symm).1; omega)).trans ((hx6.block w.heap.size hl2).trans hG2); have hbo := OwnX.below (B := w.heap.size) (OwnX.more hob6 (Nat.le_succ _)) hq6 (Nat.le_trans (Nat.le_succ _) hws6) hg7; have e70 : w7.cell? ⟨w.heap.size, 0, none⟩ = some (.slice Ab k cb) := blk_cell hG7 0; have e7f := blk_free hG7 0; obtain ⟨A7, c7, hv7⟩ : ∃ A c, v7 = .slice A (k + 1) c := (by obtain ⟨A, c, h⟩ := ho7.form; exact ⟨A, c, by rw [h, List.length_append, HKl.out]; rfl⟩); subst hv7))
          all_goals (
            have hgs := grown_set (World.grownBy.refl w7 (some w.heap.size)) 0 (.slice A7 (k + 1) c7)
            have hgr := grow_of (B0 := 0) hgs (Nat.zero_le _) hG7
            have ho8 : OwnP 0 (w7.setCell ⟨w.heap.size, 0, none⟩ (.slice A7 (k + 1) c7)) (w.heap.size + 1) (.slice A7 (k + 1) c7) (K ++ [(s, L)]) := OwnX.grow ho7 hgr (by decide) (fun c a h => h.grow hgr (by decide))
            have hG8 : (w7.setCell ⟨w.heap.size, 0, none⟩ (.slice A7 (k + 1) c7)).heap[w.heap.size]? = some (.cells #[.slice A7 (k + 1) c7, .pointer none, .slice none 0 0] 106 (0, 0)) := by simpa using blk_set hG7 0 (.slice A7 (k + 1) c7)
            have hb8 := hbo.setCell (p := ⟨w.heap.size, 0, none⟩) (Nat.le_refl _) (.slice A7 (k + 1) c7)
            have H8 := Lib.hid (And.intro ho8 (And.intro hG8 hb8))
            clear hgs hgr ho8 hG8 hb8 ho7 hg7 hG7 hbo e70 e7f hgz6 hob6 hpc6 hpc5 hq6 hx6 hbx6 hb5 ho5 hg5 e50 e52 e60 e62 hws6
            generalize (w7.setCell ⟨w.heap.size, 0, none⟩ (.slice A7 (k + 1) c7)) = W9 at *
            go_wp2_with fail
            exact ⟨⟨k + 1, by omega, by go_num, H8.out.2.2, HG, Lib.hid ⟨A7, c7, H8.out.2.1, by rw [HTK.out, HPS.out]; exact H8.out.1⟩⟩, by simp [intOf]; omega⟩)
        · obtain ⟨q, hq⟩ : ∃ q, q + 1 = k := ⟨k - 1, by omega⟩
          have hcq := HPV.out q hq
          have hpq := HF.out.2.2.2.1 q hq
          have j1 : (0 : Int) < (k : Int) := by omega
          have j2 : IntKind.i64.wrap ((k : Int) - 1) = (q : Int) := by rw [IntKind.wrap_i64]; omega
          have j3 : (q : Int) < (n : Int) := by omega
          have j4 : (0 : Int) ≤ (q : Int) := by omega
          have j5 : decide (0 < k) = true := by simp; omega
          have hql : q < ps.length := by omega
          generalize (ps[q]'(by omega)).1 = s0 at *
          clear hq h0
          cases hlt0 : ltS s0 s with
          | false =>
            have hl : Op.bytesLess s0.toList s.toList = false := hlt0
            have HRf : Hid (ordR none ps = false) := Lib.hid (HF.out.2.2.1 s0 hpq hlt0)
            have hbx2 := HX.out.1
            clear hlt0 hpq
            go_wp2_with fail
            go_quiet ((go_at_call 67; with_reducible exact HT.out _))
            go_wp2_with fail
            go_ret2
            exact ⟨Or.inl ⟨HRf.out, rfl⟩, below_drewN' hbx2 _⟩
          | true =>
            have hl : Op.bytesLess s0.toList s.toList = true := hlt0
            have HLT : Hid (∀ a, prevK ps k = some a → ltS a s = true) := Lib.hid fun a e => by rw [hpq] at e; injection e with e; rw [← e]; exact hlt0
            clear hlt0 hpq
            have HG := Lib.hid (HF.out.1 (by rw [HPS.out]; exact HPB.out) HLT.out)
            clear HPB
            go_wp2_with fail
            go_quiet ((go_at_call 67; with_reducible exact HT.out _))
            go_wp2_with fail
            clear HT
            have hW2 : ∃ W2 : World, W2 = W1.drewN nq := ⟨_, rfl⟩
            obtain ⟨W2, hW2⟩ := hW2
            have hz0 : W2.cell? ⟨wr.heap.size, 0, none⟩ = some (.string s) := by rw [hW2]; exact z0
            have hz1 : W2.cell? ⟨wr.heap.size, 1, none⟩ = some (.slice Ax L.length cx) := by rw [hW2]; exact z1
            have hG2 : W2.heap[w.heap.size]? = some (.cells #[.slice Ab k cb, .pointer none, .slice none 0 0] 106 (0, 0)) := by rw [hW2]; exact HX.out.2.2.1
            have ho2 : OwnP 0 W2 (w.heap.size + 1) (.slice Ab k cb) (ps.take k) := by rw [hW2]; exact HX.out.2.2.2
            have hrx2 : Rd W2 W2.heap.size (.slice Ax L.length cx) L := by rw [hW2]; exact HX.out.2.1
            have hb2 : Below w.heap.size w W2 := by rw [hW2]; exact below_drewN' HX.out.1 _
            have hl2 : w.heap.size < W2.heap.size := blk_lt hG2
            have hlz : wr.heap.size < W2.heap.size := by rw [hW2]; exact hlz1
            rw [← hW2]
            clear hW2 z0 z1 HX hlz1
            generalize ps.take k = K at *
            have hbE : Below W2.heap.size W2 (W2.alloc (.cells #[] 5)) := (Below.refl _ _).alloc (Nat.le_refl _) _
            have hED : Own (W2.alloc (.cells #[] 5)).drew W2.heap.size (.slice (some ⟨W2.heap.size, 0, none⟩) 0 0) [] := own_empty W2 (Nat.le_refl _)
            have hbD : Below W2.heap.size W2 (W2.alloc (.cells #[] 5)).drew := hbE.drew
            have HLE := Lib.hid (show W2.heap.size ≤ (W2.alloc (.cells #[] 5)).drew.heap.size by simp)
            have hrD := hrx2.up (Nat.le_refl _) hbD
            have hy0 : W2.drew.cell? ⟨wr.heap.size, 0, none⟩ = some (.string s) := hz0
            have hy1 : W2.drew.cell? ⟨wr.heap.size, 1, none⟩ = some (.slice Ax L.length cx) := hz1
            have hy2 : W2.drew.cell? ⟨w.heap.size, 0, none⟩ = some (.slice Ab k cb) := blk_cell hG2 0
            have hx0 : (W2.alloc (.cells #[] 5)).drew.cell? ⟨wr.heap.size, 0, none⟩ = some (.string s) := (hbD.cell (p := ⟨wr.heap.size, 0, none⟩) hlz).trans hz0
            have hx1 : (W2.alloc (.cells #[] 5)).drew.cell? ⟨wr.heap.size, 1, none⟩ = some (.slice Ax L.length cx) := (hbD.cell (p := ⟨wr.heap.size, 1, none⟩) hlz).trans hz1
            have hx2 : (W2.alloc (.cells #[] 5)).drew.cell? ⟨w.heap.size, 0, none⟩ = some (.slice Ab k cb) := (hbD.cell (p := ⟨w.heap.size, 0, none⟩) hl2).trans (blk_cell hG2 0)
            have HKl : Hid (K.length = k) := Lib.hid (by obtain ⟨_, _, h⟩ := ho2.form; injection h with _ h _; exact h.symm)
            go_region_law (first
              | (refine wp_append_rd (.tmp 44) (.tmp 46) _ rfl j0 Tryz.underlying27 hj0 hjz hjs hjb rfl hED rfl hrD (by simp; omega) HLE.out ?_; intro v5 w5 ho5 hg5 _; have hb5 : Below W2.heap.size W2 w5 := hbD.grown hg5 HLE.out (fun k hk => (hED.lt k hk).1); replace ho5 : Own w5 W2.heap.size v5 L := ho5; obtain ⟨A5, c5, rfl⟩ := ho5.form; have hx6 := hb5.alloc hb5.size (.cells #[.string s, .slice A5 L.length c5] 48); have hbx6 : Below w5.heap.size w5 (w5.alloc (.cells #[.string s, .slice A5 L.length c5] 48)) := (Below.refl _ _).alloc (Nat.le_refl _) _; have hgz6 := heap_alloc_new w5 (.cells #[.string s, .slice A5 L.length c5] 48); have hpc5 : PrC 0 w5 [.string s, .slice A5 L.length c5] (s, L) := ⟨_, rfl, ho5.rdS⟩; have hpc6 := hpc5.up hbx6; have hob6 := OwnP.up ho2 hx6; have hq6 := below_chain hb2 hb2.size hx6; have hws6 : w.heap.size + 1 ≤ (w5.alloc (.cells #[.string s, .slice A5 L.length c5] 48)).heap.size := (Nat.le_trans hl2 hx6.size); have e50 := (hb5.cell (p := ⟨wr.heap.size, 0, none⟩) hlz).trans hz0; have e52 : w5.cell? ⟨w.heap.size, 0, none⟩ = some (.slice Ab k cb) := (hb5.cell (p := ⟨w.heap.size, 0, none⟩) hl2).trans (blk_cell hG2 0); have e62 := (hbx6.cell (p := ⟨w.heap.size, 0, none⟩) (Nat.lt_of_lt_of_le hl2 hb5.size)).trans e52; have e60 := (hbx6.cell (p := ⟨wr.heap.size, 0, none⟩) (Nat.lt_of_lt_of_le hlz hb5.size)).trans e50)
              | (refine wp_append_x (B0 := 0) (b := w5.heap.size) (off := 0) (.tmp 41) (.tmp 49) _ rfl i0 _ 40 Tryz.underlying22 hi0 hz hsz hby rfl (by decide) rfl hob6 rfl _ hpc6.len (fun j hj => (by rw [Nat.zero_add]; exact pairCells_get hgz6 j hj)) hpc6.one hpc6 (fun w' c a hc hg => hc.grow hg (by decide)) (Nat.zero_le _) (by unfold maxLen; have := HKl.out; omega) (by have := HKl.out; omega) hws6 ?_; intro v7 w7 ho7 hg7; have hG7 := (hg7.block w.heap.size (Nat.lt_of_lt_of_le hl2 hx6.size) (fun e => by have := (OwnX.lt hob6 _ e.symm).1; omega)).trans ((hx6.block w.heap.size hl2).trans hG2); have hbo := OwnX.below (B := w.heap.size) (OwnX.more hob6 (Nat.le_succ _)) hq6 (Nat.le_trans (Nat.le_succ _) hws6) hg7; have e70 : w7.cell? ⟨w.heap.size, 0, none⟩ = some (.slice Ab k cb) := blk_cell hG7 0; have e7f := blk_free hG7 0; obtain ⟨A7, c7, hv7⟩ : ∃ A c, v7 = .slice A (k + 1) c := (by obtain ⟨A, c, h⟩ := ho7.form; exact ⟨A, c, by rw [h, List.length_append, HKl.out]; rfl⟩); subst hv7))
            all_goals (
              have hgs := grown_set (World.grownBy.refl w7 (some w.heap.size)) 0 (.slice A7 (k + 1) c7)
              have hgr := grow_of (B0 := 0) hgs (Nat.zero_le _) hG7
              have ho8 : OwnP 0 (w7.setCell ⟨w.heap.size, 0, none⟩ (.slice A7 (k + 1) c7)) (w.heap.size + 1) (.slice A7 (k + 1) c7) (K ++ [(s, L)]) := OwnX.grow ho7 hgr (by decide) (fun c a h => h.grow hgr (by decide))
              have hG8 : (w7.setCell ⟨w.heap.size, 0, none⟩ (.slice A7 (k + 1) c7)).heap[w.heap.size]? = some (.cells #[.slice A7 (k + 1) c7, .pointer none, .slice none 0 0] 106 (0, 0)) := by simpa using blk_set hG7 0 (.slice A7 (k + 1) c7)
              have hb8 := hbo.setCell (p := ⟨w.heap.size, 0, none⟩) (Nat.le_refl _) (.slice A7 (k + 1) c7)
              have H8 := Lib.hid (And.intro ho8 (And.intro hG8 hb8))
              clear hgs hgr ho8 hG8 hb8 ho7 hg7 hG7 hbo e70 e7f hgz6 hob6 hpc6 hpc5 hq6 hx6 hbx6 hb5 ho5 hg5 e50 e52 e60 e62 hws6
              generalize (w7.setCell ⟨w.heap.size, 0, none⟩ (.slice A7 (k + 1) c7)) = W9 at *
              go_wp2_with fail
              exact ⟨⟨k + 1, by omega, by go_num, H8.out.2.2, HG, Lib.hid ⟨A7, c7, H8.out.2.1, by rw [HTK.out, HPS.out]; exact H8.out.1⟩⟩, by simp [intOf]; omega⟩)
    · have i2 : ¬ (k : Int) < (n : Int) := by omega
      obtain rfl : k = n := by omega
      have HRt : Hid (ordR none ps = true) := Lib.hid (by rw [HR.out, HN.out]; exact ordR_end ps)
      have HD : Hid (DocS wr w.heap.size ps) := Lib.hid (by
        obtain ⟨Ab, cb, h1, h2⟩ := HO.out
        refine ⟨_, h1, ?_⟩
        have h3 := OwnP.rdP h2
        have e3 : ps.take k = ps := by rw [HN.out, List.take_length]
        rw [e3] at h3
        exact h3)
      clear HO
      go_wp2_with fail
      go_ret2
      exact ⟨Or.inr ⟨HRt.out, _, rfl, Nat.le_refl _, HD.out⟩, hb⟩
end Go.Proofs.YtpcoonnfaoakhaaGreatDoor
namespace Go.Proofs.YtpcoonnfaoakhaaGreatDoor
set_option maxRecDepth 100000
open Go Go.RowKit

end Go.Proofs.YtpcoonnfaoakhaaGreatDoor
namespace Go.Proofs.YtpcoonnfaoakhaaGreatDoor
set_option maxRecDepth 100000
open Go Go.RowKit

/-- four cells of each of two blocks -/
def Cells8 (g : Nat) (x y : U4) (W : World) : Prop :=
  (W.cell? ⟨g, 0, none⟩ = some (.int .u64 (x.a : Int)) ∧ W.cell? ⟨g, 1, none⟩ = some (.int .u64 (x.b : Int)) ∧ W.cell? ⟨g, 2, none⟩ = some (.int .u64 (x.c : Int)) ∧ W.cell? ⟨g, 3, none⟩ = some (.int .u64 (x.d : Int))) ∧
  W.cell? ⟨g + 1, 0, none⟩ = some (.int .u64 (y.a : Int)) ∧ W.cell? ⟨g + 1, 1, none⟩ = some (.int .u64 (y.b : Int)) ∧ W.cell? ⟨g + 1, 2, none⟩ = some (.int .u64 (y.c : Int)) ∧ W.cell? ⟨g + 1, 3, none⟩ = some (.int .u64 (y.d : Int))

end Go.Proofs.YtpcoonnfaoakhaaGreatDoor
namespace Go.Proofs.YtpcoonnfaoakhaaGreatDoor
set_option maxRecDepth 100000
open Go Go.RowKit

end Go.Proofs.YtpcoonnfaoakhaaGreatDoor
namespace Go.Proofs.YtpcoonnfaoakhaaGreatDoor
set_option maxRecDepth 100000
open Go Go.RowKit

end Go.Proofs.YtpcoonnfaoakhaaGreatDoor
