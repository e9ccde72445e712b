
/- The walks of node.read, node.marked, node.split. -/
import Derived.Test.YtbbpkenbeenocaaNodeM
import Derived.Test.YtbbpkenbeenocaaRowR
import Derived.Test.YtbbpkenbeenocaaPart
import Derived.Test.YtbbpkenbeenocaaWireR
import Derived.Test.YtbbpkenbeenocaaDiskD
namespace Go.Proofs.Ytbbpkenbeenocaa
set_option maxRecDepth 100000
open Go Go.RowKit
set_option linter.unusedVariables false
variable {w : World} {F : Nat → Prop} {d : Nat} {m : DM}

theorem read_split (m : DM) (s : ByteArray) : (readM m s = ([], 51) ∧ m.off = true ∧ readN m s = ([], false, 51)) ∨ (readM m s = ([], 50) ∧ m.off = false ∧ readN m s = ([], false, 0)) ∨ (∃ l, readM m s = (l, 0) ∧ m.off = false ∧ readN m s = (l, true, 0)) := by
  unfold readM readN
  by_cases ho : m.off = true
  · left; simp [ho]
  · right
    have ho' : m.off = false := by simpa using ho
    rw [if_neg ho, if_neg ho]
    cases m.files[placeF m.files s]? with
    | none => left; simp [ho']
    | some f => right; exact ⟨f.data, rfl, ho', rfl⟩

theorem nread_any (h : DiskAt w F d m) (s : ByteArray) (hlen : ∀ f ∈ m.files, f.data.length ≤ 140737488355320) :
    Calls Try.prog 35 #[.pointer (some ⟨d, 0, none⟩), .string s] w fun e w' => ∃ v, e = .returned (.tuple #[v, .bool (readN m s).2.1, .int .i64 (readN m s).2.2]) ∧ Own w' w.heap.size v (readN m s).1 ∧ Below w.heap.size w w' := by
  have HR := Lib.hid (read_any h s hlen)
  clear h hlen
  rcases read_split m s with ⟨e1, _, e2⟩ | ⟨e1, _, e2⟩ | ⟨l, e1, _, e2⟩
  all_goals
    rw [e2]
    rw [e1] at HR
    clear e1 e2
    go_enter Try.func35, Try.ntmps35
    go_wp2_with fail
    refine HR.out.mono ?_
    rintro e w1 ⟨v1, rfl, ho, hb⟩
    go_wp2_with fail
    go_ret3
    first
      | exact ⟨_, rfl, ho, hb⟩
      | exact ⟨_, rfl, Own.nil _ _, hb⟩

theorem marked_any (w : World) (v : Value) (l : List UInt8) (hr : Rd w w.heap.size v l) (hl : l.length ≤ 140737488355320) :
    Calls Try.prog 36 #[v] w fun e w' => e = .returned (.int .i64 (marked l : Int)) ∧ w = w' := by
  have hml := marked_le l
  have HS := Lib.hid (marked_step l)
  obtain ⟨A, c, rfl, hc, hm, hp⟩ := hr
  unfold maxLen at hm
  obtain ⟨n, hn⟩ : ∃ n, n = l.length := ⟨_, rfl⟩
  obtain ⟨M, hM⟩ : ∃ M, M = marked l := ⟨_, rfl⟩
  rw [← hM] at hml HS ⊢
  have HP := Lib.hid hp
  have HN := Lib.hid hn
  rw [← hn] at hc hml hl ⊢
  clear hp hn hM
  go_enter Try.func36, Try.ntmps36
  go_wp2_with fail
  go_loopw [3] (fun i wr => ∃ k : Nat, k ≤ M ∧ i = .int .i64 (k : Int) ∧ w = wr)
    (fun i _ => n - (intOf i).toNat)
  case atStart => exact ⟨0, Nat.zero_le _, rfl, rfl⟩
  case round =>
    obtain ⟨k, hk, rfl, rfl⟩ := hrel
    have hs := HS.out k hk
    by_cases hlt : k < n
    · have hkl : k < l.length := by have := HN.out; omega
      obtain ⟨b, o, rfl, hb, hcell⟩ := HP.out (by omega)
      have hck := hcell k hkl
      unfold bval at hck
      have i1 : (k : Int) < (n : Int) := by omega
      have i0 : (0 : Int) ≤ (k : Int) := by omega
      have i3 : decide ((k : Int) < (n : Int)) = true := by simp [i1]
      by_cases hx : l[k] = 1
      · have hkM : k < M := hs.2 ⟨hkl, hx⟩
        rw [hx] at hck
        have hck' : w.cell? ⟨b, o + k, none⟩ = some (.int .u8 1) := hck
        clear hck hcell hs
        go_wp2_with fail
        exact ⟨⟨k + 1, by omega, by go_num, by first | rfl | trivial⟩, by simp [intOf]; omega⟩
      · have hkM : k = M := by
          rcases Nat.lt_or_ge k M with h | h
          · obtain ⟨_, h'⟩ := hs.1 h; exact absurd h' hx
          · omega
        subst hkM
        have hne : ¬ ((l[k].toNat : Int) = 1) := fun e => hx (by
          have : l[k].toNat = 1 := by omega
          exact UInt8.toNat_inj.1 this)
        generalize l[k].toNat = q at *
        clear hcell hs hx
        go_wp2_with fail
        go_ret
        exact ⟨rfl, rfl⟩
    · have i1 : ¬ (k : Int) < (n : Int) := by omega
      have i3 : decide ((k : Int) < (n : Int)) = false := by simp [i1]
      obtain rfl : k = M := by omega
      clear hs
      go_wp2_with fail
      go_ret
      exact ⟨rfl, rfl⟩
end Go.Proofs.Ytbbpkenbeenocaa
