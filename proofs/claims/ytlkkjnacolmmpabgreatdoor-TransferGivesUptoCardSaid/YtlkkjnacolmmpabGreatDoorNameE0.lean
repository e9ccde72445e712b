
/- The walks of package name: apart, Base, Hops, Hop, Over. The walks of the document's names: Hops, Base, Hop, Over. -/
import Derived.Test.YtlkkjnacolmmpabGreatDoorNameC0
import Derived.Test.YtlkkjnacolmmpabGreatDoorNameG0
namespace Go.Proofs.YtlkkjnacolmmpabGreatDoor
set_option maxRecDepth 100000
open Go Go.RowKit

/-- what apart hands back -/
def apartV (l : List UInt8) : Value := if denomL l = true then .tuple #[.string ⟨(baseL l).toArray⟩, .int .i64 (hopsL l : Int)] else .tuple #[.string ByteArray.empty, .int .i64 0]

/-- what Base and Hops hand back -/
def baseD (l : List UInt8) : List UInt8 := if denomL l = true then baseL l else []
def hopsD (l : List UInt8) : Nat := if denomL l = true then hopsL l else 0
theorem apartV_eq (l : List UInt8) : apartV l = .tuple #[.string ⟨(baseD l).toArray⟩, .int .i64 (hopsD l : Int)] := by
  unfold apartV baseD hopsD
  by_cases h : denomL l = true
  · rw [if_pos h, if_pos h, if_pos h]
  · rw [if_neg h, if_neg h, if_neg h]; rfl

/-- what Hop hands back -/
def hopL (l : List UInt8) : Option (List UInt8 × List UInt8) := if denomL l = true then splitL l else none
def hopV (l : List UInt8) : Value := match hopL l with
  | some (h, r) => .tuple #[.string ⟨h.toArray⟩, .string ⟨r.toArray⟩, .bool true]
  | none => .tuple #[.string ByteArray.empty, .string ByteArray.empty, .bool false]

set_option maxHeartbeats 1000000 in
theorem hop_any (s : ByteArray) (w : World) (hs : s.size ≤ maxLen) :
    Calls Tryz.prog 15 #[.string s] w fun e w' => e = .returned (hopV s.data.toList) ∧ ∃ n, w' = w.drewN n := by
  unfold hopV hopL
  cases hd : denomL s.data.toList with
  | true =>
    rw [if_pos rfl]
    cases hsp : splitL s.data.toList with
    | none =>
      have hv := splitV_none hsp
      clear hsp
      go_enter Tryz.func15, Tryz.ntmps15
      go_wp2_with (first | (go_at_call 41; refine (denom_any _ _ hs).mono ?_; rintro e w' ⟨rfl, n, rfl⟩; rw [hd]) | (go_at_call 50; refine (split_any _ _ hs).mono ?_; rintro e w' ⟨rfl, m, rfl⟩; rw [hv]))
      go_ret3
      exact ⟨rfl, n + m, rfl⟩
    | some p =>
      obtain ⟨h, r⟩ := p
      have hv := splitV_some hsp
      clear hsp
      go_enter Tryz.func15, Tryz.ntmps15
      go_wp2_with (first | (go_at_call 41; refine (denom_any _ _ hs).mono ?_; rintro e w' ⟨rfl, n, rfl⟩; rw [hd]) | (go_at_call 50; refine (split_any _ _ hs).mono ?_; rintro e w' ⟨rfl, m, rfl⟩; rw [hv]))
      go_ret3
      exact ⟨rfl, n + m, rfl⟩
  | false =>
    rw [if_neg (by simp)]
    go_enter Tryz.func15, Tryz.ntmps15
    go_wp2_with (go_at_call 41; refine (denom_any _ _ hs).mono ?_; rintro e w' ⟨rfl, n, rfl⟩; rw [hd])
    go_ret3
    exact ⟨rfl, n, rfl⟩

theorem app_mk (a b : ByteArray) : a ++ b = ⟨(a.data.toList ++ b.data.toList).toArray⟩ := by
  apply ByteArray.ext
  rw [ByteArray.data_append]
  apply Array.ext'
  simp
theorem app3 (h s : List UInt8) : (⟨(trL ++ h ++ 47 :: s).toArray⟩ : ByteArray) = ⟨#[116, 114, 97, 110, 115, 102, 101, 114, 47]⟩ ++ ⟨h.toArray⟩ ++ ⟨#[47]⟩ ++ ⟨s.toArray⟩ := by
  rw [app_mk, app_mk, app_mk]
  simp [trL]

end Go.Proofs.YtlkkjnacolmmpabGreatDoor
namespace Go.Proofs.YtlkkjnacolmmpabGreatDoor
set_option maxRecDepth 100000
open Go Go.RowKit

theorem rdenom_to (s : ByteArray) (b : Bool) (w : World) (hs : s.size ≤ maxLen) (e : denomL s.data.toList = b) :
    Calls Tryz.prog 158 #[.string s] w fun e w' => e = .returned (.bool b) ∧ Below w.heap.size w w' := by
  have := rdenom_any s w hs
  rw [e] at this
  exact this

/-- the words of a denomination, in memory -/
theorem words_den (s : ByteArray) (w : World) (hd : denomL s.data.toList = true) :
    Calls Tryz.prog 187 #[.string s] w fun e w' => ∃ g cap, e = .returned (.slice (some ⟨g, 0, none⟩) (2 * hopsL s.data.toList + 1) cap) ∧ Below w.heap.size w w' ∧
      (∀ k, k < 2 * hopsL s.data.toList + 1 → w'.cell? ⟨g, k, none⟩ = some (.string ⟨((wordsL s.data.toList).getD k []).toArray⟩)) ∧ w'.cell? ⟨g, 2 * hopsL s.data.toList, none⟩ = some (.string ⟨(baseL s.data.toList).toArray⟩) := by
  have hl := denom_len hd
  obtain ⟨h1, h2⟩ := words_denom _ s.data.toList (Nat.le_refl _) (denom_ident hd)
  refine (words_any s w (by rw [Lib.size_eq]; exact hl)).mono ?_
  rintro e w1 ⟨v, rfl, ho, hb⟩
  have hpos := words_pos s.data.toList
  obtain ⟨g, cap, rfl, hg, hglt⟩ := ho.form hpos
  have hcell : ∀ k, k < (wordsL s.data.toList).length → w1.cell? ⟨g, k, none⟩ = some (.string ⟨((wordsL s.data.toList).getD k []).toArray⟩) := fun k hk => by
    rw [ho.cellAt k (by omega), strs_at _ k hk]
  refine ⟨g, cap, by rw [h1], hb, fun k hk => hcell k (by omega), ?_⟩
  rw [hcell _ (by omega), h2]

end Go.Proofs.YtlkkjnacolmmpabGreatDoor
