/- The law's fixed answers, and the walk of the law: a hop more is as much longer. -/
import Derived.Test.YtaplncibadggaaaNameE
namespace Go.Proofs.Ytaplncibadggaaa
open Go Go.RowKit

def fxA : ByteArray := ⟨#[116, 114, 97, 110, 115, 102, 101, 114, 47, 99, 104, 97, 110, 45, 48, 47, 116, 114, 97, 110, 115, 102, 101, 114, 47, 99, 104, 97, 110, 45, 49, 47, 97, 116, 111, 109]⟩
theorem fx_hop : hopL fxA.data.toList = some ([99, 104, 97, 110, 45, 48], [116, 114, 97, 110, 115, 102, 101, 114, 47, 99, 104, 97, 110, 45, 49, 47, 97, 116, 111, 109]) := by decide +kernel
theorem fx_hopV : hopV fxA.data.toList = .tuple #[.string ⟨#[99, 104, 97, 110, 45, 48]⟩, .string ⟨#[116, 114, 97, 110, 115, 102, 101, 114, 47, 99, 104, 97, 110, 45, 49, 47, 97, 116, 111, 109]⟩, .bool true] := by unfold hopV; rw [fx_hop]
theorem fx_over : overL (⟨#[99, 104, 97, 110, 45, 50]⟩ : ByteArray).data.toList (⟨#[97, 116, 111, 109]⟩ : ByteArray).data.toList = ([116, 114, 97, 110, 115, 102, 101, 114, 47, 99, 104, 97, 110, 45, 50, 47, 97, 116, 111, 109], 0) := by decide +kernel
theorem fx_ident : identL (⟨#[48, 97]⟩ : ByteArray).data.toList = false := by decide +kernel
theorem fx_denom : denomL (⟨#[116, 114, 97, 110, 115, 102, 101, 114]⟩ : ByteArray).data.toList = true := by decide +kernel

set_option maxRecDepth 100000 in
set_option maxHeartbeats 1000000 in
theorem fixed_any (w : World) : Calls Try.prog 10 #[] w fun e w' => e = .returned (.bool true) ∧ ∃ n, w' = w.drewN n := by
  have hc1 : ∀ W, Calls Try.prog 8 #[.string ⟨#[116, 114, 97, 110, 115, 102, 101, 114, 47, 99, 104, 97, 110, 45, 48, 47, 116, 114, 97, 110, 115, 102, 101, 114, 47, 99, 104, 97, 110, 45, 49, 47, 97, 116, 111, 109]⟩] W fun e w' => e = .returned (.tuple #[.string ⟨#[99, 104, 97, 110, 45, 48]⟩, .string ⟨#[116, 114, 97, 110, 115, 102, 101, 114, 47, 99, 104, 97, 110, 45, 49, 47, 97, 116, 111, 109]⟩, .bool true]) ∧ ∃ n, w' = W.drewN n := by
    intro W; rw [← fx_hopV]; exact hop_any fxA W (by decide)
  have hc2 : ∀ W, Calls Try.prog 19 #[.string ⟨#[99, 104, 97, 110, 45, 50]⟩, .string ⟨#[97, 116, 111, 109]⟩] W fun e w' => e = .returned (.tuple #[.string ⟨#[116, 114, 97, 110, 115, 102, 101, 114, 47, 99, 104, 97, 110, 45, 50, 47, 97, 116, 111, 109]⟩, .int .i64 0]) ∧ ∃ n, w' = W.drewN n := by
    intro W
    have := over_any ⟨#[99, 104, 97, 110, 45, 50]⟩ ⟨#[97, 116, 111, 109]⟩ W (by decide) (by decide)
    rw [fx_over] at this
    exact this
  have hc3 : ∀ W, Calls Try.prog 11 #[.string ⟨#[48, 97]⟩] W fun e w' => e = .returned (.bool false) ∧ W = w' := by
    intro W; rw [← fx_ident]; exact ident_any _ W (by decide)
  have hc4 : ∀ W, Calls Try.prog 13 #[.string ⟨#[116, 114, 97, 110, 115, 102, 101, 114]⟩] W fun e w' => e = .returned (.bool true) ∧ ∃ n, w' = W.drewN n := by
    intro W; rw [← fx_denom]; exact denom_any _ W (by decide)
  have H1 := Lib.hid hc1
  have H2 := Lib.hid hc2
  have H3 := Lib.hid hc3
  have H4 := Lib.hid hc4
  clear hc1 hc2 hc3 hc4
  go_enter Try.func10, Try.ntmps10
  go_wp2_with fail
  refine (H1.out _).mono ?_
  rintro e w' ⟨rfl, n, rfl⟩
  go_wp2_with fail
  refine (H2.out _).mono ?_
  rintro e w' ⟨rfl, n2, rfl⟩
  go_wp2_with fail
  refine (H3.out _).mono ?_
  rintro e w' ⟨rfl, rfl⟩
  go_wp2_with fail
  refine (H4.out _).mono ?_
  rintro e w' ⟨rfl, n4, rfl⟩
  go_wp2_with fail
  go_ret
  exact ⟨rfl, _, rfl⟩
end Go.Proofs.Ytaplncibadggaaa
