
/- The walk of the law: the bytes, hashes and keys of any packet. -/
import Derived.Test.YtlkkjnacolmmpaaDoorRPktB
import Derived.Test.YtlkkjnacolmmpaaDoorHeldBy
namespace Go.Proofs.YtlkkjnacolmmpaaDoor
set_option maxRecDepth 100000
open Go Go.RowKit
set_option linter.unusedVariables false

def PktV.ok (p : PktV) : Prop := p.src.size ≤ maxLen ∧ p.dst.size ≤ maxLen ∧ p.seq < 18446744073709551616 ∧ p.ht < 18446744073709551616 ∧ p.tm < 18446744073709551616
theorem readP_some {l : List UInt8} {p : PktV} (h : readP l = some p) : pktB p = l ∧ p.ok := by
  unfold readP at h
  have a1 := @rB_ok l 0
  have b1 := rB_le l 0
  generalize rB l 0 = Q at *
  obtain ⟨sa, l1, f1⟩ := Q
  dsimp only at h a1 b1
  have a2 := @rB_ok l1 f1
  have b2 := rB_le l1 f1
  generalize rB l1 f1 = Q at *
  obtain ⟨sb, l2, f2⟩ := Q
  dsimp only at h a2 b2
  have a3 := @rN_ok l2 f2
  have b3 := rN_ltP l2 f2
  generalize rN l2 f2 = Q at *
  obtain ⟨sq, l3, f3⟩ := Q
  dsimp only at h a3 b3
  have a4 := @rB_ok l3 f3
  generalize rB l3 f3 = Q at *
  obtain ⟨dt, l4, f4⟩ := Q
  dsimp only at h a4
  have a5 := @rN_ok l4 f4
  have b5 := rN_ltP l4 f4
  generalize rN l4 f4 = Q at *
  obtain ⟨ht, l5, f5⟩ := Q
  dsimp only at h a5 b5
  have a6 := @rN_ok l5 f5
  have b6 := rN_ltP l5 f5
  generalize rN l5 f5 = Q at *
  obtain ⟨tm, l6, f6⟩ := Q
  dsimp only at h a6 b6
  split at h
  · next hh =>
    obtain ⟨e6, e7⟩ := rEnd_zero hh
    obtain ⟨e5, x6⟩ := a6 e6
    obtain ⟨e4, x5⟩ := a5 e5
    obtain ⟨e3, x4⟩ := a4 e4
    obtain ⟨e2, x3⟩ := a3 e3
    obtain ⟨e1, x2⟩ := a2 e2
    obtain ⟨e0, x1⟩ := a1 e1
    have hv := Option.some.inj h
    subst hv
    refine ⟨?_, ?_, ?_, b3, b5, b6⟩
    · unfold pktB encS
      dsimp only
      rw [x1, x2, x3, x4, x5, x6, e7]
      simp [strBytes_mk]
    · show sa.length ≤ _; unfold maxLen; omega
    · show sb.length ≤ _; unfold maxLen; omega
  · cases h
theorem str_backP (s : ByteArray) (h : s.size ≤ 65535) : (⟨((strBytes s).take 65535).toArray⟩ : ByteArray) = s := by
  rw [List.take_of_length_le (by rw [strBytes_length]; exact h)]
  unfold strBytes
  simp
theorem readP_pktB (p : PktV) (h : p.ok) (h1 : p.src.size ≤ 65535) (h2 : p.dst.size ≤ 65535) (h3 : p.data.length ≤ 65535) : readP (pktB p) = some p := by
  obtain ⟨-, -, o3, o4, o5⟩ := h
  obtain ⟨src, dst, seq, data, ht, tm⟩ := p
  dsimp only at *
  unfold readP pktB encS
  dsimp only
  rw [List.append_assoc, List.append_assoc, List.append_assoc, List.append_assoc, rB_enc]
  dsimp only
  rw [rB_enc]
  dsimp only
  rw [rN_enc _ _ o3]
  dsimp only
  rw [rB_enc]
  dsimp only
  rw [rN_enc _ _ o4]
  dsimp only
  have e := rN_enc tm [] o5
  rw [List.append_nil] at e
  rw [e, str_backP src h1, str_backP dst h2, List.take_of_length_le h3]
  rfl
theorem pparse_u (v : Value) (l : List UInt8) (w : World) (hr : Rd w w.heap.size v l) (hl : l.length ≤ 140737488355320) :
    Calls Tryd.prog 31 #[v] w fun e w' => (∃ A n c, n = ((readP l).getD PktV.none).data.length ∧ e = .returned (.tuple #[((readP l).getD PktV.none).val (.slice A n c), .int .i64 (if (readP l).isSome = true then 0 else 140)]) ∧ Rd w' w'.heap.size (.slice A n c) ((readP l).getD PktV.none).data) ∧ Below w.heap.size w w' := by
  refine (pparse_any v l w hr hl).mono ?_
  rintro e w' ⟨⟨p, vd, h1, rfl, h2⟩ | ⟨h1, rfl⟩, hb⟩
  · rw [h1]
    obtain ⟨A, c, hv⟩ := h2.form
    subst hv
    exact ⟨⟨A, _, c, rfl, rfl, h2.rd⟩, hb⟩
  · rw [h1]
    exact ⟨⟨none, 0, 0, rfl, rfl, Rd.nil _ _⟩, hb⟩
theorem rpparse_u (v : Value) (l : List UInt8) (w : World) (hr : Rd w w.heap.size v l) (hl : l.length ≤ 140737488355320) :
    Calls Tryd.prog 32 #[v] w fun e w' => (∃ A n c, n = ((readP l).getD PktV.none).data.length ∧ e = .returned (.tuple #[((readP l).getD PktV.none).val (.slice A n c), .int .i64 (if (readP l).isSome = true then 0 else 140)]) ∧ Rd w' w'.heap.size (.slice A n c) ((readP l).getD PktV.none).data) ∧ Below w.heap.size w w' := by
  refine (rpparse_any v l w hr hl).mono ?_
  rintro e w' ⟨⟨p, vd, h1, rfl, h2⟩ | ⟨h1, rfl⟩, hb⟩
  · rw [h1]
    obtain ⟨A, c, hv⟩ := h2.form
    subst hv
    exact ⟨⟨A, _, c, rfl, rfl, h2.rd⟩, hb⟩
  · rw [h1]
    exact ⟨⟨none, 0, 0, rfl, rfl, Rd.nil _ _⟩, hb⟩
theorem readP_ok (l : List UInt8) : ((readP l).getD PktV.none).ok := by
  cases e : readP l with
  | none => exact ⟨by decide, by decide, by decide, by decide, by decide⟩
  | some v => exact (readP_some e).2
theorem pktB_len (p : PktV) : (pktB p).length ≤ 1000000 := by
  unfold pktB encS
  have h1 := encB_lenP (strBytes p.src)
  have h2 := encB_lenP (strBytes p.dst)
  have h3 := encB_lenP p.data
  simp [be_length]
  omega

end Go.Proofs.YtlkkjnacolmmpaaDoor
