/- The connection of a pair, as law 15 reads it; how often a step may turn one. -/
import Derived.Test.YtmphegeiclgjbaaGreatDoorM20
namespace Go.Proofs.YtmphegeiclgjbaaGreatDoor
set_option maxRecDepth 100000
open Go Go.RowKit
set_option linter.unusedVariables false

theorem conn_cut (d : ByteArray) : (kConn d).extract 9 (kConn d).size = d := by
  have h : ((kConn d).extract 9 (kConn d).size).data.toList = d.data.toList := by
    rw [← Lib.toList_data, Lib.extract_toList, kConn_list, Lib.size_eq, kConn_list]
    simp
    exact List.take_of_length_le (by rw [← Lib.size_eq]; exact Nat.le_refl _)
  generalize (kConn d).extract 9 (kConn d).size = a at *
  cases a with | mk a => cases d with | mk d =>
  have : a = d := by simpa using h
  rw [this]
theorem getCn_one {id : ByteArray} {val : List UInt8} {c : CnV} (hi : identB id = true) (h : readCn val = some c) : getCn [(kConn id, val)] id = some c := by
  unfold getCn
  rw [if_pos hi, getL_cons, if_pos rfl]
  exact h
set_option maxHeartbeats 8000000 in
theorem cnstored_any (id : ByteArray) (A : Option Addr) (val : List UInt8) (c : Nat) (w : World) (hr : Rd w w.heap.size (.slice A val.length c) val) (hid : id.size ≤ 100000000) (hp : pairB (kConn id, val) = true) :
    Calls Tryz.prog 32 #[.agg #[.string (kConn id), .slice A val.length c]] w fun e w' => e = .returned (.tuple #[(gotN (getCn [(kConn id, val)] id)).val, .bool (getCn [(kConn id, val)] id).isSome]) ∧ Below w.heap.size w w' := by
  have hcut := conn_cut id
  have hsz := kConn_size id
  have hb1 : Below w.heap.size w (w.alloc (.cells #[.string (kConn id), .slice A val.length c] 74)) := (Below.refl _ _).alloc (Nat.le_refl _) _
  have hb2 := hb1.alloc hb1.size (.cells #[.int .u64 0, .string ⟨#[]⟩, .string ⟨#[]⟩, .string ⟨#[]⟩] 78)
  have g1 := heap_alloc_new w (.cells #[.string (kConn id), .slice A val.length c] 74)
  have g2 := heap_alloc_new (w.alloc (.cells #[.string (kConn id), .slice A val.length c] 74)) (.cells #[.int .u64 0, .string ⟨#[]⟩, .string ⟨#[]⟩, .string ⟨#[]⟩] 78)
  replace g1 := (Below.heap_alloc (w.alloc (.cells #[.string (kConn id), .slice A val.length c] 74)) (.cells #[.int .u64 0, .string ⟨#[]⟩, .string ⟨#[]⟩, .string ⟨#[]⟩] 78) _ (blk_lt g1)).trans g1
  rw [show (w.alloc (.cells #[.string (kConn id), .slice A val.length c] 74)).heap.size = w.heap.size + 1 by simp] at g2
  have hr2 := (hr.below hb2).more hb2.size
  have hro := rdp_one _ (kConn id) _ val hr2
  generalize hW2 : (w.alloc (.cells #[.string (kConn id), .slice A val.length c] 74)).alloc (.cells #[.int .u64 0, .string ⟨#[]⟩, .string ⟨#[]⟩, .string ⟨#[]⟩] 78) = W2 at *
  have hb3 := hb2.alloc hb2.size (.cells #[.string (kConn id), .slice A val.length c] 74)
  have HNW := Lib.hid (new_any _ _ [(kConn id, val)] hro (fun p hq => by rw [List.mem_singleton.1 hq]; show (kConn id).size ≤ _; unfold maxLen; omega))
  have hor : ordR none [(kConn id, val)] = true := by unfold ordR; rw [hp]; rfl
  rw [hor] at HNW
  have g1' := (Below.heap_alloc W2 (.cells #[.string (kConn id), .slice A val.length c] 74) _ (blk_lt g1)).trans g1
  have g2' := (Below.heap_alloc W2 (.cells #[.string (kConn id), .slice A val.length c] 74) _ (blk_lt g2)).trans g2
  have c0 := blk_cell g1 0
  have c1 := blk_cell g1 1
  have i9 : (9 : Int) ≤ ((kConn id).size : Int) := by omega
  have HBX := Lib.hid (And.intro g1' (And.intro g2' hb3))
  have hsm : ∀ p ∈ [(kConn id, val)], p.1.size ≤ maxLen := fun p hq => by rw [List.mem_singleton.1 hq]; show (kConn id).size ≤ _; unfold maxLen; omega
  have HSM := Lib.hid hsm
  have HID := Lib.hid hid
  obtain ⟨ok, hOK⟩ : ∃ b, b = (getCn [(kConn id, val)] id).isSome := ⟨_, rfl⟩
  obtain ⟨V, hV⟩ : ∃ v, v = gotN (getCn [(kConn id, val)] id) := ⟨_, rfl⟩
  rw [← hOK, ← hV]
  have HOV := Lib.hid (And.intro hOK hV)
  clear hOK hV
  obtain ⟨st, cl, cc, ct⟩ := V
  unfold CnV.val
  dsimp only
  clear hr hid hp hr2 hro hor hb1 hb2 hb3 g1 g2 g1' g2' hsm hsz
  generalize hkk : kConn id = key at *
  clear hkk
  go_enter Tryz.func32, Tryz.ntmps32
  go_wp2_with fail
  try rw [hW2]
  clear hW2
  refine HNW.out.mono ?_
  rintro e w1 ⟨⟨h, -⟩ | ⟨-, y, rfl, hyb, hym, hyn, hly, hri, hp1⟩, hb4⟩
  · cases h
  have A1 := At.made hp1 hly hri HSM.out
  have HG := Lib.hid (cnget_any A1 id HID.out)
  rw [cnV_got, ← HOV.out.1, ← HOV.out.2] at HG
  unfold CnV.val at HG
  dsimp only at HG
  have hq4 := HBX.out.2.2.trans (hb4.mono HBX.out.2.2.size)
  have e1 := (hb4.block _ (blk_lt HBX.out.1)).trans HBX.out.1
  have e2 := (hb4.block _ (blk_lt HBX.out.2.1)).trans HBX.out.2.1
  have HB4 := Lib.hid (And.intro hq4 e2)
  clear c0 c1
  have c0 := blk_cell e1 0
  clear hyb hym hyn hly hri hp1 hb4 A1 hq4 e1 e2 HNW HBX
  go_wp2_with fail
  refine HG.out.mono ?_
  rintro e w2 ⟨rfl, hb5⟩
  have hq5 := HB4.out.1.trans (hb5.mono HB4.out.1.size)
  have e2 := (hb5.block _ (blk_lt HB4.out.2)).trans HB4.out.2
  have r0 := blk_cell e2 0
  have r1 := blk_cell e2 1
  have r2 := blk_cell e2 2
  have r3 := blk_cell e2 3
  have f0 := blk_free e2 0
  have f1 := blk_free e2 1
  have f2 := blk_free e2 2
  have f3 := blk_free e2 3
  have d := set4P e2 (.int .u64 (st : Int)) (.string cl) (.string cc) (.string ct)
  have d0 := blk_cell d 0
  have d1 := blk_cell d 1
  have d2 := blk_cell d 2
  have d3 := blk_cell d 3
  have HD := Lib.hid (And.intro d0 (And.intro d1 (And.intro d2 d3)))
  have HQ := Lib.hid hq5
  clear c0 HG hb5 hq5 e2 d d0 d1 d2 d3 hcut i9
  go_wp2_with fail
  refine bodyPost_ret (v := .tuple #[.agg #[.int .u64 (st : Int), .string cl, .string cc, .string ct], .bool ok]) ?_ rfl ⟨rfl, ?_⟩
  · obtain ⟨d0, d1, d2, d3⟩ := HD.out
    simp at d0 d1 d2 d3
    simp [results, Tryz.results32, go_sem, d0, d1, d2, d3]
  · have hg : w.heap.size ≤ w.heap.size + 1 := by omega
    exact (((HQ.out.setCell hg _).setCell hg _).setCell hg _).setCell hg _
/-! ### how many pairs -/
theorem setL_lenC (key : ByteArray) (v : List UInt8) (R : List Pr) : (setL key v R).length ≤ R.length + 1 := by
  unfold setL putL
  split
  · exact putG_length _ _ _
  · omega
theorem createR_len (R : List Pr) (h : HdV) (pe : Nat) : (createR R h pe).length ≤ R.length + 3 := by
  unfold createR newR
  refine Nat.le_trans (setL_lenC _ _ _) ?_
  have h1 := setL_lenC (kCli (newID R sClient)) (clB ⟨h.ch, h.ht, pe, false⟩) (setL (kNum sClient) (be ((numN R sClient + 1) % 18446744073709551616) 8) R)
  have h2 := setL_lenC (kNum sClient) (be ((numN R sClient + 1) % 18446744073709551616) 8) R
  omega
theorem updM_len (R : List Pr) (id : ByteArray) (u : NwW) (now : Nat) : (updM R id u now).2.length ≤ R.length + 3 := by
  unfold updM
  split
  · split
    · split
      · dsimp only
        split
        · exact Nat.le_trans (setL_lenC _ _ _) (by omega)
        · omega
      · dsimp only
        refine Nat.le_trans (setL_lenC _ _ _) ?_
        have := setL_lenC (kCons id u.h.ht) (csB ⟨u.h.tm, u.h.rt, u.h.nx⟩) R
        omega
    · dsimp only; omega
  · dsimp only; omega
theorem misM_len (R : List Pr) (id : ByteArray) (u v : NwW) (now : Nat) : (misM R id u v now).2.length ≤ R.length + 3 := by
  unfold misM
  split
  · split
    · split
      · dsimp only; omega
      · split
        · split
          · exact Nat.le_trans (setL_lenC _ _ _) (by omega)
          · dsimp only; omega
        · dsimp only; omega
    · dsimp only; omega
  · dsimp only; omega
theorem madeCn_len (R : List Pr) (c : CnV) : (madeCn R c).length ≤ R.length + 2 := by
  unfold madeCn newR
  refine Nat.le_trans (setL_lenC _ _ _) ?_
  have := setL_lenC (kNum sConn) (be ((numN R sConn + 1) % 18446744073709551616) 8) R
  omega
theorem step15_len (R : List Pr) (x : StepV) : (stepM15 R x).2.length ≤ R.length + 3 := by
  unfold stepM15
  split
  · dsimp only
    split
    · exact createR_len _ _ _
    · omega
  split
  · exact updM_len _ _ _ _
  split
  · exact misM_len _ _ _ _ _
  split
  · unfold cnBeginP
    dsimp only
    split
    · exact Nat.le_trans (madeCn_len _ _) (by omega)
    · omega
  split
  · unfold cnTryP
    dsimp only
    split
    · exact Nat.le_trans (madeCn_len _ _) (by omega)
    · omega
  split
  · unfold cnAckP
    dsimp only
    split
    · exact Nat.le_trans (setL_lenC _ _ _) (by omega)
    · omega
  split
  · unfold cnConP
    dsimp only
    split
    · exact Nat.le_trans (setL_lenC _ _ _) (by omega)
    · omega
  dsimp only
  omega
/-! ### how often a step may turn a connection -/
def TurnR (L : List Pr) (nm : ByteArray) (q t : Nat) : Prop := t = 0 ∨ (t = 1 ∧ ∃ (i : Nat) (h : i < L.length), i < q ∧ L[i].1 = kConn nm)
theorem TurnR.next {L : List Pr} {nm : ByteArray} {q t : Nat} (h : TurnR L nm q t) : TurnR L nm (q + 1) t := by
  rcases h with h | ⟨h1, i, h2, h3, h4⟩
  · exact .inl h
  · exact .inr ⟨h1, i, h2, by omega, h4⟩
theorem TurnR.turn {L : List Pr} (hr : Rise L) {nm : ByteArray} {q t : Nat} (h : TurnR L nm q t) (hq : q < L.length) (e : L[q].1 = kConn nm) : t = 0 ∧ TurnR L nm (q + 1) 1 := by
  rcases h with h | ⟨h1, i, h2, h3, h4⟩
  · exact ⟨h, .inr ⟨rfl, q, hq, by omega, e⟩⟩
  · have := List.pairwise_iff_getElem.1 hr i q h2 hq h3
    exact absurd (h4.trans e.symm) (ltS_ne this)
theorem TurnR.le {L : List Pr} {nm : ByteArray} {q t : Nat} (h : TurnR L nm q t) : t ≤ 1 := by
  rcases h with h | ⟨h, -⟩ <;> omega
/-- the pairs of connections, one by one -/
theorem cn_row {R : List Pr} (hr : Rise R) {q : Nat} (hq : q < (R.filter (fun p => begB connP p.1)).length) : ∃ id, (R.filter (fun p => begB connP p.1))[q].1 = kConn id ∧ getL R (kConn id) = some (R.filter (fun p => begB connP p.1))[q].2 := by
  have hm := List.getElem_mem hq
  obtain ⟨h1, h2⟩ := List.mem_filter.1 hm
  obtain ⟨id, he⟩ := beg_conn h2
  exact ⟨id, he, by rw [← he]; exact hr.get h1⟩
end Go.Proofs.YtmphegeiclgjbaaGreatDoor
