/- The channel of a pair, as law 16 reads it; what is read of one of two stores. -/
import Derived.Test.YtmphegeiclgjbaaGreatDoorM21
import Derived.Test.YtmphegeiclgjbaaGreatDoorM23
import Derived.Test.YtmphegeiclgjbaaGreatDoorM24
namespace Go.Proofs.YtmphegeiclgjbaaGreatDoor
set_option maxRecDepth 100000
open Go Go.RowKit
set_option linter.unusedVariables false

theorem set7Q {w : World} {g : Nat} {x0 x1 x2 x3 x4 x5 x6 : Value} {t : TypeId} (h : w.heap[g]? = some (.cells #[x0, x1, x2, x3, x4, x5, x6] t (0, 0))) (y0 y1 y2 y3 y4 y5 y6 : Value) : (((((((w.setCell ⟨g, 0, none⟩ y0).setCell ⟨g, 1, none⟩ y1).setCell ⟨g, 2, none⟩ y2).setCell ⟨g, 3, none⟩ y3).setCell ⟨g, 4, none⟩ y4).setCell ⟨g, 5, none⟩ y5).setCell ⟨g, 6, none⟩ y6).heap[g]? = some (.cells #[y0, y1, y2, y3, y4, y5, y6] t (0, 0)) := by
  simpa using (blk_set (blk_set (blk_set (blk_set (blk_set (blk_set (blk_set h 0 y0) 1 y1) 2 y2) 3 y3) 4 y4) 5 y5) 6 y6)
def gotH (o : Option ChV) : ChV := o.getD ChV.none
theorem chV_got (o : Option ChV) : chV o = .tuple #[(gotH o).val, .bool o.isSome] := by cases o <;> rfl
theorem chan_cut (d : ByteArray) : (kChn d).extract 9 (kChn d).size = d := by
  have h : ((kChn d).extract 9 (kChn d).size).data.toList = d.data.toList := by
    rw [← Lib.toList_data, Lib.extract_toList, kChn_list, Lib.size_eq, kChn_list]
    simp
    exact List.take_of_length_le (by rw [← Lib.size_eq]; exact Nat.le_refl _)
  generalize (kChn d).extract 9 (kChn d).size = a at *
  cases a with | mk a => cases d with | mk d =>
  have : a = d := by simpa using h
  rw [this]
theorem getCh_one {id : ByteArray} {val : List UInt8} {c : ChV} (hi : identB id = true) (h : readCh val = some c) : getCh [(kChn id, val)] id = some c := by
  unfold getCh
  rw [if_pos hi, getL_cons, if_pos rfl]
  exact h
theorem Sts.getv {w Z : World} {b m b' m' N : Nat} {R R' : List Pr} (h : Sts w b m b' m' R R' N Z) (key : ByteArray) (hk : key.size ≤ maxLen) {val : List UInt8} (e : getL R key = some val) :
    Calls Tryz.prog 31 #[.pointer (some ⟨b, 0, none⟩), .string key] Z fun e w' => ∃ v, e = .returned (.tuple #[v, .bool true]) ∧ Own w' Z.heap.size v val ∧ Below Z.heap.size Z w' := by
  obtain ⟨n, f, hn, A⟩ := h.at
  have := A.get key hk
  rw [e] at this
  exact this
set_option maxHeartbeats 8000000 in
theorem chstored_any (id : ByteArray) (A : Option Addr) (val : List UInt8) (c : Nat) (w : World) (hr : Rd w w.heap.size (.slice A val.length c) val) (hid : id.size ≤ 100000000) (hp : pairB (kChn id, val) = true) :
    Calls Tryz.prog 40 #[.agg #[.string (kChn id), .slice A val.length c]] w fun e w' => e = .returned (.tuple #[(gotH (getCh [(kChn id, val)] id)).val, .bool (getCh [(kChn id, val)] id).isSome]) ∧ Below w.heap.size w w' := by
  have hcut := chan_cut id
  have hsz := kChn_size id
  have hb1 : Below w.heap.size w (w.alloc (.cells #[.string (kChn id), .slice A val.length c] 74)) := (Below.refl _ _).alloc (Nat.le_refl _) _
  have hb2 := hb1.alloc hb1.size (.cells #[.int .u64 0, .bool false, .string ⟨#[]⟩, .string ⟨#[]⟩, .string ⟨#[]⟩, .string ⟨#[]⟩, .string ⟨#[]⟩] 85)
  have g1 := heap_alloc_new w (.cells #[.string (kChn id), .slice A val.length c] 74)
  have g2 := heap_alloc_new (w.alloc (.cells #[.string (kChn id), .slice A val.length c] 74)) (.cells #[.int .u64 0, .bool false, .string ⟨#[]⟩, .string ⟨#[]⟩, .string ⟨#[]⟩, .string ⟨#[]⟩, .string ⟨#[]⟩] 85)
  replace g1 := (Below.heap_alloc (w.alloc (.cells #[.string (kChn id), .slice A val.length c] 74)) (.cells #[.int .u64 0, .bool false, .string ⟨#[]⟩, .string ⟨#[]⟩, .string ⟨#[]⟩, .string ⟨#[]⟩, .string ⟨#[]⟩] 85) _ (blk_lt g1)).trans g1
  rw [show (w.alloc (.cells #[.string (kChn id), .slice A val.length c] 74)).heap.size = w.heap.size + 1 by simp] at g2
  have hr2 := (hr.below hb2).more hb2.size
  have hro := rdp_one _ (kChn id) _ val hr2
  generalize hW2 : (w.alloc (.cells #[.string (kChn id), .slice A val.length c] 74)).alloc (.cells #[.int .u64 0, .bool false, .string ⟨#[]⟩, .string ⟨#[]⟩, .string ⟨#[]⟩, .string ⟨#[]⟩, .string ⟨#[]⟩] 85) = W2 at *
  have hb3 := hb2.alloc hb2.size (.cells #[.string (kChn id), .slice A val.length c] 74)
  have HNW := Lib.hid (new_any _ _ [(kChn id, val)] hro (fun p hq => by rw [List.mem_singleton.1 hq]; show (kChn id).size ≤ _; unfold maxLen; omega))
  have hor : ordR none [(kChn id, val)] = true := by unfold ordR; rw [hp]; rfl
  rw [hor] at HNW
  have g1' := (Below.heap_alloc W2 (.cells #[.string (kChn id), .slice A val.length c] 74) _ (blk_lt g1)).trans g1
  have g2' := (Below.heap_alloc W2 (.cells #[.string (kChn id), .slice A val.length c] 74) _ (blk_lt g2)).trans g2
  have c0 := blk_cell g1 0
  have c1 := blk_cell g1 1
  have i9 : (9 : Int) ≤ ((kChn id).size : Int) := by omega
  have HBX := Lib.hid (And.intro g1' (And.intro g2' hb3))
  have hsm : ∀ p ∈ [(kChn id, val)], p.1.size ≤ maxLen := fun p hq => by rw [List.mem_singleton.1 hq]; show (kChn id).size ≤ _; unfold maxLen; omega
  have HSM := Lib.hid hsm
  have HID := Lib.hid hid
  obtain ⟨ok, hOK⟩ : ∃ b, b = (getCh [(kChn id, val)] id).isSome := ⟨_, rfl⟩
  obtain ⟨V, hV⟩ : ∃ v, v = gotH (getCh [(kChn id, val)] id) := ⟨_, rfl⟩
  rw [← hOK, ← hV]
  have HOV := Lib.hid (And.intro hOK hV)
  clear hOK hV
  obtain ⟨st, od, po, cp, cn, cc, ve⟩ := V
  unfold ChV.val
  dsimp only
  clear hr hid hp hr2 hro hor hb1 hb2 hb3 g1 g2 g1' g2' hsm hsz
  generalize hkk : kChn id = key at *
  clear hkk
  go_enter Tryz.func40, Tryz.ntmps40
  go_wp2_with fail
  try rw [hW2]
  clear hW2
  refine HNW.out.mono ?_
  rintro e w1 ⟨⟨h, -⟩ | ⟨-, y, rfl, hyb, hym, hyn, hly, hri, hp1⟩, hb4⟩
  · cases h
  have A1 := At.made hp1 hly hri HSM.out
  have HG := Lib.hid (chget_any A1 id HID.out)
  rw [chV_got, ← HOV.out.1, ← HOV.out.2] at HG
  unfold ChV.val at HG
  dsimp only at HG
  have hq4 := HBX.out.2.2.trans (hb4.mono HBX.out.2.2.size)
  have e1 := (hb4.block _ (blk_lt HBX.out.1)).trans HBX.out.1
  have e2 := (hb4.block _ (blk_lt HBX.out.2.1)).trans HBX.out.2.1
  have HB4 := Lib.hid (And.intro hq4 e2)
  clear c0 c1
  have c0 := blk_cell e1 0
  clear hyb hym hyn hly hri hp1 hb4 A1 hq4 e1 e2 HNW HBX
  go_wp2_with fail
  refine HG.out.mono ?_
  rintro e w2 ⟨rfl, hb5⟩
  have hq5 := HB4.out.1.trans (hb5.mono HB4.out.1.size)
  have e2 := (hb5.block _ (blk_lt HB4.out.2)).trans HB4.out.2
  have r0 := blk_cell e2 0
  have r1 := blk_cell e2 1
  have r2 := blk_cell e2 2
  have r3 := blk_cell e2 3
  have r4 := blk_cell e2 4
  have r5 := blk_cell e2 5
  have r6 := blk_cell e2 6
  have f0 := blk_free e2 0
  have f1 := blk_free e2 1
  have f2 := blk_free e2 2
  have f3 := blk_free e2 3
  have f4 := blk_free e2 4
  have f5 := blk_free e2 5
  have f6 := blk_free e2 6
  have d := set7Q e2 (.int .u64 (st : Int)) (.bool od) (.string po) (.string cp) (.string cn) (.string cc) (.string ve)
  have d0 := blk_cell d 0
  have d1 := blk_cell d 1
  have d2 := blk_cell d 2
  have d3 := blk_cell d 3
  have d4 := blk_cell d 4
  have d5 := blk_cell d 5
  have d6 := blk_cell d 6
  have HD := Lib.hid (And.intro d0 (And.intro d1 (And.intro d2 (And.intro d3 (And.intro d4 (And.intro d5 d6))))))
  have HQ := Lib.hid hq5
  clear c0 HG hb5 hq5 e2 d d0 d1 d2 d3 d4 d5 d6 hcut i9
  go_wp2_with fail
  refine bodyPost_ret (v := .tuple #[.agg #[.int .u64 (st : Int), .bool od, .string po, .string cp, .string cn, .string cc, .string ve], .bool ok]) ?_ rfl ⟨rfl, ?_⟩
  · obtain ⟨d0, d1, d2, d3, d4, d5, d6⟩ := HD.out
    simp at d0 d1 d2 d3 d4 d5 d6
    simp [results, Tryz.results40, go_sem, d0, d1, d2, d3, d4, d5, d6]
  · have hg : w.heap.size ≤ w.heap.size + 1 := by omega
    exact ((((((HQ.out.setCell hg _).setCell hg _).setCell hg _).setCell hg _).setCell hg _).setCell hg _).setCell hg _
end Go.Proofs.YtmphegeiclgjbaaGreatDoor
