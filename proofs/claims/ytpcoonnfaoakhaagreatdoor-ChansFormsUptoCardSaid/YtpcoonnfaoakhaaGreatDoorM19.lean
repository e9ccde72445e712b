/- Texts joined: RBankC1, AuthA1, BankP0. -/
import Derived.Test.YtpcoonnfaoakhaaGreatDoorM18
import Derived.Test.YtpcoonnfaoakhaaGreatDoorM17
import Derived.Test.YtpcoonnfaoakhaaGreatDoorM16
import Derived.Test.YtpcoonnfaoakhaaGreatDoorM14
import Derived.Test.YtpcoonnfaoakhaaGreatDoorM10
import Derived.Test.YtpcoonnfaoakhaaGreatDoorM02
import Derived.Test.YtpcoonnfaoakhaaGreatDoorM13
import Derived.Test.YtpcoonnfaoakhaaGreatDoorM04
import Derived.Test.YtpcoonnfaoakhaaGreatDoorM12
namespace Go.Proofs.YtpcoonnfaoakhaaGreatDoor
set_option maxRecDepth 100000
open Go Go.RowKit
set_option linter.unusedVariables false

/-- a document's store of which values are short -/
structure DocR (w : World) (b : Nat) (R : List Pr) : Prop where
  s : DocS w b R
  n : R.length ≤ 100000000
  v : ∀ p ∈ R, p.2.length ≤ 2000000
theorem DocS.up {w w' : World} {b : Nat} {R : List Pr} (h : DocS w b R) (hb : Below w.heap.size w w') : DocS w' b R := by
  obtain ⟨v, h1, h2⟩ := h
  exact ⟨v, (hb.block b (blk_lt h1)).trans h1, h2.kept (Kept.of_below hb)⟩
theorem DocS.kept {w w' : World} {b : Nat} {R : List Pr} (h : DocS w b R) (hk : Kept w w') : DocS w' b R := by
  obtain ⟨v, h1, h2⟩ := h
  obtain ⟨F, k1, k2⟩ := id hk
  have hn : ¬ F b := fun k => by
    obtain ⟨es, c, e⟩ := k2 _ k
    rw [h1] at e; cases e
  exact ⟨v, (k1.block b (blk_lt h1) hn).trans h1, h2.kept hk⟩
theorem DocR.up {w w' : World} {b : Nat} {R : List Pr} (h : DocR w b R) (hb : Below w.heap.size w w') : DocR w' b R := ⟨h.s.up hb, h.n, h.v⟩
theorem DocR.kept {w w' : World} {b : Nat} {R : List Pr} (h : DocR w b R) (hk : Kept w w') : DocR w' b R := ⟨h.s.kept hk, h.n, h.v⟩
end Go.Proofs.YtpcoonnfaoakhaaGreatDoor
namespace Go.Proofs.YtpcoonnfaoakhaaGreatDoor
set_option maxRecDepth 100000
open Go Go.RowKit
set_option linter.unusedVariables false

/-- one pair more, at an operation: the pair lies in the newest block -/
theorem wpList_push {ops : Array Oper} {rest : List Oper} {o : Oper} {a : Act} {Q : Exit → Act → World → Prop} {W : World} {B g : Nat} {v x : Value} {L : List Pr} {s : ByteArray} {l : List UInt8} (hgd : o.guard = none) (sv sx : Operand)
    (ho : o.op = .call { callee := .builtin .append, args := #[sv, sx], argTypes := #[22, 22] })
    (hs : a.eval sv = v) (hxe : a.eval sx = .slice (some ⟨g, 0, none⟩) 1 1) (hg0 : g = W.heap.size) (hown : OwnP B W B v L) (hx : Rd W B x l) (hm : L.length + 1 ≤ 1000000000) (hB : B ≤ W.heap.size)
    (h : ∀ v' w', OwnP B w' B v' (L ++ [(s, l)]) → Below B W w' → (∀ k, k < W.heap.size → v.ownBlock ≠ some k → w'.heap[k]? = W.heap[k]?) → W.heap.size ≤ w'.heap.size → wpList Tryz.prog ops Q rest (a.put o.dst v') w') :
    wpList Tryz.prog ops Q (o :: rest) a (W.alloc (.cells #[.string s, x] 48)) := by
  obtain ⟨i0, hi0, hiz, hisz, hiby⟩ := info_parts Tryz.infoPairL
  have hbz : Below W.heap.size W (W.alloc (.cells #[.string s, x] 48)) := (Below.refl _ _).alloc (Nat.le_refl _) _
  have hgz := heap_alloc_new W (.cells #[.string s, x] 48)
  have hobz := OwnP.up hown hbz
  have hpc : PrC B (W.alloc (.cells #[.string s, x] 48)) [.string s, x] (s, l) := ⟨_, rfl, RdS.old (hx.keep fun p hp => hbz.cell (Nat.lt_of_lt_of_le hp hB)) (Nat.le_trans hB hbz.size)⟩
  refine wpList_append_x (B0 := B) (b := g) (off := 0) hgd sv sx _ ho i0 _ 40 Tryz.underlying22 hi0 hiz hisz hiby rfl (by decide) hs hobz hxe _ hpc.len (fun j hj => (by rw [Nat.zero_add, hg0]; exact pairCells_get hgz j hj)) hpc.one hpc (fun w' c a hc hg => hc.grow hg (by decide)) (Nat.le_refl _) (by unfold maxLen; omega) (by omega) (Nat.le_trans hB hbz.size) ?_
  intro v7 w7 ho7 hg7
  have hbo := OwnX.below (B := B) hobz ((Below.refl B W).alloc hB (.cells #[.string s, x] 48)) (Nat.le_trans hB hbz.size) hg7
  exact h v7 w7 ho7 hbo (fun k hk hn => (hg7.block k (Nat.lt_of_lt_of_le hk hbz.size) (fun e => hn e.symm)).trans (hbz.block k hk)) (Nat.le_trans hbz.size hg7.size)

theorem putL_length (c : Chn) (R : List Pr) : (putL c R).length ≤ R.length + 1 := putG_length c _ R

set_option maxHeartbeats 8000000 in
theorem rput_any {w : World} {v : Value} {R : List Pr} (hr : RdP w w.heap.size v R) (hn : R.length ≤ 100000000) (c : Chn) (cv : Value) (hcv : Rd w w.heap.size cv (c.2.getD [])) :
    Calls Tryz.prog 148 #[v, .agg #[.string c.1, cv, .bool c.2.isNone]] w fun e w' => ∃ v', e = .returned v' ∧ RdP w' w'.heap.size v' (putL c R) ∧ Below w.heap.size w w' := by
  obtain ⟨A, cp, rfl, hc, hm, hp⟩ := hr
  unfold maxLen at hm
  obtain ⟨n, hnn⟩ : ∃ n, n = R.length := ⟨_, rfl⟩
  rw [← hnn] at hc hn ⊢
  obtain ⟨key, cx⟩ := c
  obtain ⟨val, hval⟩ : ∃ val, val = cx.getD [] := ⟨_, rfl⟩
  obtain ⟨gone, hgone⟩ : ∃ gone, gone = cx.isNone := ⟨_, rfl⟩
  dsimp only at hcv ⊢
  rw [← hval] at hcv
  rw [← hgone]
  have HPD : Hid (putL (key, cx) R = putG (key, some val) gone R ∧ n = R.length) := Lib.hid ⟨by
    unfold putL
    rw [hgone]
    cases cx with
    | none => show putG (key, none) true R = putG (key, some val) true R; rw [putG_true, putG_true]
    | some z => rw [hval]; rfl, hnn⟩
  have HPL := Lib.hid (putL_length (key, cx) R)
  generalize putL (key, cx) R = PL at *
  clear hval hgone hnn
  obtain ⟨Ac, cc, rfl⟩ := hcv.form
  have ha0 : Below w.heap.size w (w.alloc (.cells #[.string key, .slice Ac val.length cc, .bool gone] 186)) := (Below.refl _ _).alloc (Nat.le_refl _) _
  have hg0 := heap_alloc_new w (.cells #[.string key, .slice Ac val.length cc, .bool gone] 186)
  have hcv0 := (hcv.below ha0).more ha0.size
  have HB : Hid (∀ W, Below (w.alloc (.cells #[.string key, .slice Ac val.length cc, .bool gone] 186)).heap.size (w.alloc (.cells #[.string key, .slice Ac val.length cc, .bool gone] 186)) W →
      Below w.heap.size w W ∧ Rd W (w.alloc (.cells #[.string key, .slice Ac val.length cc, .bool gone] 186)).heap.size (.slice Ac val.length cc) val ∧ W.cell? ⟨w.heap.size, 0, none⟩ = some (.string key) ∧ W.cell? ⟨w.heap.size, 1, none⟩ = some (.slice Ac val.length cc) ∧ W.cell? ⟨w.heap.size, 2, none⟩ = some (.bool gone)) := Lib.hid fun W hb => by
    have hb0 := hb.block w.heap.size (blk_lt hg0)
    have h1 := hb0.trans hg0
    exact ⟨below_chain ha0 ha0.size hb, hcv0.below hb, blk_cell h1 0, blk_cell h1 1, blk_cell h1 2⟩
  have HP : Hid (0 < R.length → ∃ b o, A = some ⟨b, o, none⟩ ∧ b < (w.alloc (.cells #[.string key, .slice Ac val.length cc, .bool gone] 186)).heap.size ∧ ∀ j (h : j < R.length), ∀ W, Below (w.alloc (.cells #[.string key, .slice Ac val.length cc, .bool gone] 186)).heap.size (w.alloc (.cells #[.string key, .slice Ac val.length cc, .bool gone] 186)) W →
      W.cell? ⟨b, o + j * 2, none⟩ = some (.string R[j].1) ∧ ∃ x, W.cell? ⟨b, o + j * 2 + 1, none⟩ = some x ∧ Rd W (w.alloc (.cells #[.string key, .slice Ac val.length cc, .bool gone] 186)).heap.size x R[j].2) := Lib.hid fun h0 => by
    obtain ⟨b, o, hA, hbl, hcell⟩ := hp h0
    refine ⟨b, o, hA, Nat.lt_of_lt_of_le hbl ha0.size, fun j hj W hb => ?_⟩
    obtain ⟨q1, x, q2, q3⟩ := hcell j hj
    have hq := below_chain ha0 ha0.size hb
    exact ⟨(hq.cell (p := ⟨b, o + j * 2, none⟩) hbl).trans q1, x, (hq.cell (p := ⟨b, o + j * 2 + 1, none⟩) hbl).trans q2, (q3.below hq).more ha0.size⟩
  clear ha0 hg0 hcv0 hp hcv
  go_enter Tryz.func148, Tryz.ntmps148
  go_wp2_with fail
  generalize w.alloc (.cells #[.string key, .slice Ac val.length cc, .bool gone] 186) = W0 at *
  go_loopw [5, 6, 13] (fun out dn i wr => ∃ (k : Nat) (L : List Pr) (d : Bool), k ≤ n ∧ i = .int .i64 (k : Int) ∧ dn = .bool d ∧ OwnP W0.heap.size wr W0.heap.size out L ∧ Hid (L ++ putG (key, some val) d (R.drop k) = PL) ∧ Below W0.heap.size W0 wr)
    (fun _ _ i _ => n - (intOf i).toNat)
  case atStart => exact ⟨0, [], gone, Nat.zero_le _, rfl, rfl, OwnX.nil _ _, Lib.hid (by rw [HPD.out.1]; rfl), Below.refl _ _⟩
  case round =>
    rename World => W
    obtain ⟨k, L, d, hkn, rfl, rfl, hob, HE, hb⟩ := hrel
    obtain ⟨hqW, hcvW, e0, e1, e2⟩ := HB.out W hb
    have hLl : L.length ≤ n + 1 := by
      have h1 := congrArg List.length HE.out
      have h2 := HPL.out
      rw [List.length_append] at h1
      have h3 := HPD.out.2
      omega
    by_cases hlt : k < n
    · have hkl : k < R.length := by have := HPD.out.2; omega
      obtain ⟨b0, o, rfl, hbl, hcell⟩ := HP.out (by omega)
      obtain ⟨a1, x, a2, hxr⟩ := hcell k hkl W hb
      obtain ⟨Ax, cxx, rfl⟩ := hxr.form
      have i1 : (0 : Int) ≤ (k : Int) := by omega
      have i2 : (k : Int) < (n : Int) := by omega
      have hdr : R.drop k = R[k] :: R.drop (k + 1) := List.drop_eq_getElem_cons hkl
      have HR := HE.out
      rw [hdr, putG] at HR
      have HR' := Lib.hid HR
      clear HR hcell hdr HE
      obtain ⟨Ab, cb, hv⟩ := hob.form
      subst hv
      generalize R[k] = pk at *
      obtain ⟨s, l⟩ := pk
      dsimp only at a1 a2 hxr HR'
      have hbz : Below W.heap.size W (W.alloc (.cells #[.string s, .slice Ax l.length cxx] 48)) := (Below.refl _ _).alloc (Nat.le_refl _) _
      have hgz := heap_alloc_new W (.cells #[.string s, .slice Ax l.length cxx] 48)
      have hsz1 : (W.alloc (.cells #[.string s, .slice Ax l.length cxx] 48)).heap.size = W.heap.size + 1 := by simp
      have z0 : (W.alloc (.cells #[.string s, .slice Ax l.length cxx] 48)).cell? ⟨W.heap.size, 0, none⟩ = some (.string s) := blk_cell hgz 0
      have z1 : (W.alloc (.cells #[.string s, .slice Ax l.length cxx] 48)).cell? ⟨W.heap.size, 1, none⟩ = some (.slice Ax l.length cxx) := blk_cell hgz 1
      have hob1 := OwnP.up hob hbz
      have hb1 := below_chain hb hb.size hbz
      have hxr1 : Rd (W.alloc (.cells #[.string s, .slice Ax l.length cxx] 48)) W0.heap.size (.slice Ax l.length cxx) l := hxr.keep fun p hp => hbz.cell (Nat.lt_of_lt_of_le hp hb.size)
      obtain ⟨hqW1, hcvW1, f0, f1, f2⟩ := HB.out _ hb1
      have hne0 : ∀ q, (Value.slice Ab L.length cb).ownBlock = some q → q < W.heap.size := fun q hq => (OwnX.lt hob q hq).2
      have hsW : W0.heap.size ≤ W.heap.size := hb.size
      have HX := Lib.hid (And.intro hob1 (And.intro hb1 (And.intro hxr1 (And.intro hcvW1 (And.intro hgz (And.intro hne0 hsz1))))))
      clear hob hbz hxr e0 e1 e2 hcvW hqW hb hob1 hb1 hxr1 hcvW1 hgz hne0 hqW1
      cases d with
      | true =>
        have HR2 : Hid (L ++ ((if s = key then [] else [(s, l)]) ++ putG (key, some val) true (R.drop (k + 1))) = PL) := Lib.hid (by simpa using HR'.out)
        by_cases hs : s = key
        · have HE : Hid (L ++ putG (key, some val) true (R.drop (k + 1)) = PL) := Lib.hid (by simpa [hs] using HR2.out)
          subst hs
          clear HR2 HR'
          go_wp2_with fail
          exact ⟨⟨k + 1, L, true, by omega, by go_num, rfl, HX.out.1, HE, HX.out.2.1⟩, by simp [intOf]; omega⟩
        · have HE : Hid ((L ++ [(s, l)]) ++ putG (key, some val) true (R.drop (k + 1)) = PL) := Lib.hid (by simpa [hs] using HR2.out)
          have hne : (s.toList == key.toList) = false := beq_toList_ne hs
          clear HR2 HR' hs
          go_wp2_with (at_builtin; refine wpList_push (L := L) (s := s) (l := l) rfl (.tmp 39) (.tmp 41) rfl rfl rfl HX.out.2.2.2.2.2.2.symm HX.out.1 HX.out.2.2.1 (by omega) HX.out.2.1.size ?_; intro v3 w3 ho3 hb3 hk3 hs3)
          exact ⟨⟨k + 1, L ++ [(s, l)], true, by omega, by go_num, rfl, ho3, HE, HX.out.2.1.trans hb3⟩, by simp [intOf]; omega⟩
      | false =>
        cases hl : ltS s key with
        | true =>
          have hs : ¬ s = key := ltS_ne hl
          have HE : Hid ((L ++ [(s, l)]) ++ putG (key, some val) false (R.drop (k + 1)) = PL) := Lib.hid (by simpa [hs, hl] using HR'.out)
          have hl' : Op.bytesLess s.toList key.toList = true := hl
          have hne : (s.toList == key.toList) = false := beq_toList_ne hs
          clear HR' hs hl
          go_wp2_with (at_builtin; refine wpList_push (L := L) (s := s) (l := l) rfl (.tmp 39) (.tmp 41) rfl rfl rfl HX.out.2.2.2.2.2.2.symm HX.out.1 HX.out.2.2.1 (by omega) HX.out.2.1.size ?_; intro v3 w3 ho3 hb3 hk3 hs3)
          exact ⟨⟨k + 1, L ++ [(s, l)], false, by omega, by go_num, rfl, ho3, HE, HX.out.2.1.trans hb3⟩, by simp [intOf]; omega⟩
        | false =>
          have hl' : Op.bytesLess s.toList key.toList = false := hl
          by_cases hs : s = key
          · have HE : Hid ((L ++ [(key, val)]) ++ putG (key, some val) true (R.drop (k + 1)) = PL) := Lib.hid (by simpa [hs, hl, ltS_irrefl] using HR'.out)
            subst hs
            clear HR' hl
            go_wp2_with (at_builtin; refine wpList_push (L := L) (l := val) rfl (.tmp 26) (.tmp 32) rfl rfl rfl HX.out.2.2.2.2.2.2.symm HX.out.1 HX.out.2.2.2.1 (by omega) HX.out.2.1.size ?_; intro v3 w3 ho3 hb3 hk3 hs3; obtain ⟨-, -, g0, g1, g2⟩ := HB.out _ (HX.out.2.1.trans hb3); have hy0 : w3.cell? ⟨W.heap.size, 0, none⟩ = some (.string s) := blk_cell ((hk3 W.heap.size (by simp) (fun e => by have := HX.out.2.2.2.2.2.1 _ e; omega)).trans HX.out.2.2.2.2.1) 0)
            exact ⟨⟨k + 1, L ++ [(s, val)], true, by omega, by go_num, rfl, ho3, HE, HX.out.2.1.trans hb3⟩, by simp [intOf]; omega⟩
          · have HE : Hid ((L ++ [(key, val)] ++ [(s, l)]) ++ putG (key, some val) true (R.drop (k + 1)) = PL) := Lib.hid (by simpa [hs, hl] using HR'.out)
            have hne : (s.toList == key.toList) = false := beq_toList_ne hs
            clear HR' hl hs
            go_wp2_with (first
              | (at_builtin; refine wpList_push (L := L) (s := key) (l := val) rfl (.tmp 26) (.tmp 32) rfl rfl rfl HX.out.2.2.2.2.2.2.symm HX.out.1 HX.out.2.2.2.1 (by omega) HX.out.2.1.size ?_; intro v3 w3 ho3 hb3 hk3 hs3; obtain ⟨-, -, g0, g1, g2⟩ := HB.out _ (HX.out.2.1.trans hb3); have hbk := (hk3 W.heap.size (by simp) (fun e => by have := HX.out.2.2.2.2.2.1 _ e; omega)).trans HX.out.2.2.2.2.1; have hy0 : w3.cell? ⟨W.heap.size, 0, none⟩ = some (.string s) := blk_cell hbk 0; have hy1 : w3.cell? ⟨W.heap.size, 1, none⟩ = some (.slice Ax l.length cxx) := blk_cell hbk 1)
              | (at_builtin; have hq3 := ho3; refine wpList_push (L := L ++ [(key, val)]) (s := s) (l := l) rfl (.tmp 39) (.tmp 41) rfl rfl rfl rfl hq3 (HX.out.2.2.1.below hb3) (by simp; omega) (Nat.le_trans HX.out.2.1.size hb3.size) ?_; intro v4 w4 ho4 hb4 hk4 hs4))
            exact ⟨⟨k + 1, L ++ [(key, val)] ++ [(s, l)], true, by omega, by go_num, rfl, ho4, HE, (HX.out.2.1.trans hb3).trans hb4⟩, by simp [intOf]; omega⟩
    · have i2 : ¬ (k : Int) < (n : Int) := by omega
      have hdr : R.drop k = [] := List.drop_eq_nil_of_le (by have := HPD.out.2; omega)
      have HR := HE.out
      rw [hdr, putG] at HR
      obtain ⟨Ab, cb, hv⟩ := hob.form
      subst hv
      cases d with
      | true =>
        have HF := Lib.hid (by simpa using HR : L = PL)
        clear HR HE hdr
        go_wp2_with fail
        go_ret
        exact ⟨_, rfl, by rw [← HF.out]; exact OwnP.rdP hob, hqW⟩
      | false =>
        have HF := Lib.hid (by simpa using HR : L ++ [(key, val)] = PL)
        clear HR HE hdr
        go_wp2_with (at_builtin; refine wpList_push (W := W) (L := L) (s := key) (l := val) rfl (.tmp 46) (.tmp 52) rfl rfl rfl rfl hob hcvW (by omega) hb.size ?_; intro v3 w3 ho3 hb3 hk3 hs3)
        go_ret
        exact ⟨_, rfl, by rw [← HF.out]; exact OwnP.rdP ho3, (HB.out _ (hb.trans hb3)).1⟩
end Go.Proofs.YtpcoonnfaoakhaaGreatDoor
namespace Go.Proofs.YtpcoonnfaoakhaaGreatDoor
set_option maxRecDepth 100000
open Go Go.RowKit
set_option linter.unusedVariables false

theorem Chg.cellB {w w' : World} {b : Nat} (h : Chg w w' (fun k => k = b)) {g i : Nat} {v : Value} (hne : g ≠ b) (e : w.cell? ⟨g, i, none⟩ = some v) : w'.cell? ⟨g, i, none⟩ = some v :=
  (cell_same (p := ⟨g, i, none⟩) (h.block g (World.block_lt_of_cell? w ⟨g, i, none⟩ e) hne)).trans e

theorem RdP.form {w : World} {B : Nat} {v : Value} {ps : List Pr} (h : RdP w B v ps) : ∃ A c, v = .slice A ps.length c := by obtain ⟨A, c, h, _⟩ := h; exact ⟨A, c, h⟩
theorem not_own {w : World} {b g i : Nat} {A : Option Addr} {n c : Nat} {t : TypeId} (hb : w.heap[b]? = some (.cells #[.slice A n c, .pointer none, .slice none 0 0] t (0, 0))) {u : Value} (e : w.cell? ⟨g, i, none⟩ = some u) (h1 : ∀ A n c, u ≠ .slice A n c) (h2 : u ≠ .pointer none) : g ≠ b := fun h => by
  subst h
  rw [blk_cell hb i] at e
  match i, e with
  | 0, e => exact h1 _ _ _ (Option.some.inj e).symm
  | 1, e => exact h2 (Option.some.inj e).symm
  | 2, e => exact h1 _ _ _ (Option.some.inj e).symm
  | i + 3, e => cases e
theorem Rd.setB {w : World} {b B : Nat} {A : Option Addr} {n c : Nat} {t : TypeId} (hb : w.heap[b]? = some (.cells #[.slice A n c, .pointer none, .slice none 0 0] t (0, 0))) (u : Value) {x : Value} {l : List UInt8} (h : Rd w B x l) : Rd (w.setCell ⟨b, 0, none⟩ u) B x l := by
  obtain ⟨A', c', hv, hc, hm, hp⟩ := h
  refine ⟨A', c', hv, hc, hm, fun h0 => ?_⟩
  obtain ⟨g, o, hA, hl, hcell⟩ := hp h0
  refine ⟨g, o, hA, hl, fun j hj => ?_⟩
  have e := hcell j hj
  have hne := not_own hb e (fun _ _ _ h => by cases h) (fun h => by cases h)
  exact (World.cell?_setCell_far w ⟨b, 0, none⟩ ⟨g, o + j, none⟩ u (fun h => hne h.symm)).trans e
theorem RdP.setB {w : World} {b B : Nat} {A : Option Addr} {n c : Nat} {t : TypeId} (hb : w.heap[b]? = some (.cells #[.slice A n c, .pointer none, .slice none 0 0] t (0, 0))) (u : Value) {x : Value} {ps : List Pr} (h : RdP w B x ps) : RdP (w.setCell ⟨b, 0, none⟩ u) B x ps := by
  obtain ⟨A', c', hv, hc, hm, hp⟩ := h
  refine ⟨A', c', hv, hc, hm, fun h0 => ?_⟩
  obtain ⟨g, o, hA, hl, hcell⟩ := hp h0
  refine ⟨g, o, hA, hl, fun j hj => ?_⟩
  obtain ⟨q1, z, q2, q3⟩ := hcell j hj
  have hne := not_own hb q1 (fun _ _ _ h => by cases h) (fun h => by cases h)
  exact ⟨(World.cell?_setCell_far w ⟨b, 0, none⟩ ⟨g, o + j * 2, none⟩ u (fun h => hne h.symm)).trans q1, z, (World.cell?_setCell_far w ⟨b, 0, none⟩ ⟨g, o + j * 2 + 1, none⟩ u (fun h => hne h.symm)).trans q2, q3.setB hb u⟩
set_option maxHeartbeats 4000000 in
theorem rdo_any {w : World} {b : Nat} {R : List Pr} (h : DocS w b R) (hn : R.length ≤ 100000000) (c : Chn) (cv : Value) (hcv : Rd w w.heap.size cv (c.2.getD [])) :
    Calls Tryz.prog 145 #[.pointer (some ⟨b, 0, none⟩), .agg #[.string c.1, cv, .bool c.2.isNone]] w fun e w' => e = .returned (.tuple #[]) ∧ DocS w' b (putL c R) ∧ Chg w w' (fun k => k = b) := by
  obtain ⟨v, hb, hr⟩ := h
  obtain ⟨key, cx⟩ := c
  obtain ⟨gone, hgone⟩ : ∃ gone, gone = cx.isNone := ⟨_, rfl⟩
  dsimp only at hcv ⊢
  obtain ⟨Ac, cc, hcf⟩ := hcv.form
  obtain ⟨A, cp, hvf⟩ : ∃ A c, v = .slice A R.length c := by obtain ⟨A, c, h, _⟩ := hr; exact ⟨A, c, h⟩
  have ha0 : Below w.heap.size w (w.alloc (.cells #[.string key, cv, .bool cx.isNone] 186)) := (Below.refl _ _).alloc (Nat.le_refl _) _
  have hg0 := heap_alloc_new w (.cells #[.string key, cv, .bool cx.isNone] 186)
  have hlt := blk_lt hb
  have HPUT : Hid (∀ W, Below w.heap.size w W → Calls Tryz.prog 148 #[v, .agg #[.string key, cv, .bool cx.isNone]] W fun e w' => ∃ v', e = .returned v' ∧ RdP w' w'.heap.size v' (putL (key, cx) R) ∧ Below W.heap.size W w') :=
    Lib.hid fun W hW => rput_any (hr.kept (Kept.of_below hW)) hn (key, cx) cv ((hcv.below hW).more hW.size)
  have HB : Hid (∀ W, Below w.heap.size w W → W.heap[b]? = some (.cells #[v, .pointer none, .slice none 0 0] 106 (0, 0))) := Lib.hid fun W hW => (hW.block b hlt).trans hb
  have HLT := Lib.hid hlt
  generalize putL (key, cx) R = PL at *
  rw [← hgone] at *
  clear hgone hr hb hcv
  subst hcf
  subst hvf
  generalize (cx.getD []).length = vl at *
  go_enter Tryz.func145, Tryz.ntmps145
  have hb0 := HB.out _ ha0
  have c0 := blk_cell hb0 0
  have c1 : (w.alloc (.cells #[.string key, .slice Ac vl cc, .bool gone] 186)).cell? ⟨b, 1, none⟩ = some (.pointer none) := blk_cell hb0 1
  go_wp2_with fail
  have g0 : (w.alloc (.cells #[.string key, .slice Ac vl cc, .bool gone] 186)).drew.cell? ⟨w.heap.size, 0, none⟩ = some (.string key) := blk_cell hg0 0
  have g1 : (w.alloc (.cells #[.string key, .slice Ac vl cc, .bool gone] 186)).drew.cell? ⟨w.heap.size, 1, none⟩ = some (.slice Ac vl cc) := blk_cell hg0 1
  have g2 : (w.alloc (.cells #[.string key, .slice Ac vl cc, .bool gone] 186)).drew.cell? ⟨w.heap.size, 2, none⟩ = some (.bool gone) := blk_cell hg0 2
  have c0' : (w.alloc (.cells #[.string key, .slice Ac vl cc, .bool gone] 186)).drew.cell? ⟨b, 0, none⟩ = some (.slice A R.length cp) := c0
  have had : Below w.heap.size w (w.alloc (.cells #[.string key, .slice Ac vl cc, .bool gone] 186)).drew := ha0.drew
  have HC := Lib.hid (HPUT.out _ had)
  clear c0 c1 hb0 hg0
  go_region_law (first
    | (go_simp; refine HC.out.mono ?_; rintro e w2 ⟨v2, rfl, hr2, hb2⟩; dsimp only; have hq2 := below_chain had had.size hb2; have hbk := HB.out _ hq2; have e0 : w2.cell? ⟨b, 0, none⟩ = some (.slice A R.length cp) := blk_cell hbk 0; have f0 := blk_free hbk 0; obtain ⟨A2, c2, hv2⟩ := RdP.form hr2; subst hv2)
    | fail)
  all_goals
    have hbk2 := blk_set hbk 0 (.slice A2 PL.length c2)
    have hch : Chg w (w2.setCell ⟨b, 0, none⟩ (.slice A2 PL.length c2)) (fun k => k = b) := (Chg.of_below hq2 _).trans' (Chg.set w2 (p := ⟨b, 0, none⟩) (F := fun k => k = b) rfl _)
    have hrr := (hr2.setB hbk (.slice A2 PL.length c2))
    have hsz : (w2.setCell ⟨b, 0, none⟩ (.slice A2 PL.length c2)).heap.size = w2.heap.size := by simp [World.setCell]
    rw [← hsz] at hrr
    go_wp2_with fail
    refine bodyPost_ret (results_none rfl _ _ _) rfl ?_
    exact ⟨rfl, ⟨_, by simpa using hbk2, hrr⟩, hch⟩

theorem built_chg (key : ByteArray) (A : Option Addr) (n c : Nat) : Tryz.prog.built 186 [(0, .string key), (1, .slice A n c)] = some #[.string key, .slice A n c, .bool false] := by rfl
theorem _root_.Go.wp_build_too {P : Program} {o : Oper} {a : Act} {w : World} {K : Act → World → Prop} {Q : Exit → Act → World → Prop} (t : TypeId) (parts : Array (Nat × Operand)) (cells : Array Value) (ho : o.op = .build t parts)
    (hf : P.built t (parts.map fun (i, x) => (i, a.eval x)).toList = some cells)
    (h : K (a.put o.dst (.agg cells)) w) : o.wp P a w K Q := by
  unfold Oper.wp execOp
  simp only [ho, Sem.run_bind, run_build w t _ cells hf, Result.andThen_ok]
  exact h
set_option maxHeartbeats 4000000 in
theorem rset_any {w : World} {b : Nat} {R : List Pr} (h : DocS w b R) (hn : R.length ≤ 100000000) (key : ByteArray) (hk : key.size ≤ maxLen) (v : Value) (val : List UInt8) (hr : Rd w w.heap.size v val) (hp : pairB (key, val) = true) :
    Calls Tryz.prog 79 #[.pointer (some ⟨b, 0, none⟩), .string key, v] w fun e w' => e = .returned (.int .i64 0) ∧ DocS w' b (putL (key, some val) R) ∧ Chg w w' (fun k => k = b) := by
  obtain ⟨j0, hj0, hjz, hjs, hjb⟩ := info_parts Tryz.infoByte
  have HT := Lib.hid (rtakes_any key v val w hk hr)
  rw [hp] at HT
  have hpl : val.length ≤ 65535 := by
    simp only [pairB, Bool.and_eq_true, decide_eq_true_eq] at hp
    exact hp.2
  have hbe : Below w.heap.size w (w.alloc (.cells #[] 5)) := (Below.refl _ _).alloc (Nat.le_refl _) _
  have hrE : Rd (w.alloc (.cells #[] 5)) w.heap.size v val := hr.below hbe
  have HD := Lib.hid (fun (W : World) (hb : Below w.heap.size w W) (cv : Value) (hcv : Rd W W.heap.size cv val) => rdo_any (h.up hb) hn (key, some val) cv hcv)
  obtain ⟨A, c, rfl⟩ := hr.form
  clear h hr hp
  go_enter Tryz.func79, Tryz.ntmps79
  go_wp2_with fail
  refine HT.out.mono ?_
  rintro e w1 ⟨rfl, rfl⟩
  go_wp2_with (first
    | (at_builtin; refine wpList_append_rd rfl (.tmp 13) (.tmp 14) _ rfl j0 Tryz.underlying27 hj0 hjz hjs hjb rfl (own_empty w (Nat.le_refl _)) rfl hrE (by simp; omega) hbe.size ?_; intro v3 w3 ho3 hg3 _; have hb3 : Below w.heap.size w w3 := Own.below_grown hbe (own_empty w (Nat.le_refl _)) (Nat.le_refl _) hbe.size hg3; replace ho3 : Own w3 w.heap.size v3 val := ho3; have HC := Lib.hid (HD.out w3 hb3 v3 ho3.rd); obtain ⟨A3, c3, hv3⟩ := ho3.form; subst hv3)
    | (with_reducible refine at_build 186 ?_
       have hcc := HC
       refine wpList_plain rfl fun K hK => wp_build_too 186 _ _ rfl ?_ (hK _ _ ?_)
       · simp only [List.map_toArray, List.map_cons, List.map_nil]
         exact built_chg key A3 val.length c3))
  refine HC.out.mono ?_
  rintro e w4 ⟨rfl, hd, hc⟩
  go_wp2_with fail
  go_ret
  exact ⟨rfl, hd, (Chg.of_below hb3 _).trans' hc⟩
end Go.Proofs.YtpcoonnfaoakhaaGreatDoor
namespace Go.Proofs.YtpcoonnfaoakhaaGreatDoor
set_option maxRecDepth 100000
open Go Go.RowKit
set_option linter.unusedVariables false

/-- a document's store behind calls: R of at most N pairs is kept in it -/
structure Doc (w : World) (b : Nat) (R : List Pr) (N : Nat) (W : World) : Prop where
  s : DocS W b R
  n : R.length ≤ N
  v : ∀ p ∈ R, p.2.length ≤ 2000000
  c : Chg w W (fun k => k = b)
section
variable {w W W2 : World} {b N : Nat} {R : List Pr}
theorem Doc.up (h : Doc w b R N W) (hb : Below W.heap.size W W2) : Doc w b R N W2 := ⟨h.s.up hb, h.n, h.v, h.c.trans' (.of_below hb _)⟩
theorem Doc.r (h : Doc w b R N W) (hN : N ≤ 100000000) : DocR W b R := ⟨h.s, Nat.le_trans h.n hN, h.v⟩
theorem Doc.more {N' : Nat} (h : Doc w b R N W) (hN : N ≤ N') : Doc w b R N' W := ⟨h.s, Nat.le_trans h.n hN, h.v, h.c⟩
end
theorem DocS.ne {W : World} {b g : Nat} {R : List Pr} {cs : Array Value} (h : DocS W b R) (hU : LBlk W g cs) : g ≠ b := fun e => by
  subst e
  obtain ⟨v, h1, _⟩ := h
  have h2 := h1.symm.trans hU
  injection h2 with h2
  injection h2 with h3 h4 h5
  exact absurd h4 (by decide)
end Go.Proofs.YtpcoonnfaoakhaaGreatDoor
namespace Go.Proofs.YtpcoonnfaoakhaaGreatDoor
set_option maxRecDepth 100000
open Go Go.RowKit
set_option linter.unusedVariables false

theorem rbegins_any (s pfx : ByteArray) (w : World) (hs : s.size ≤ maxLen) (hp : pfx.size ≤ maxLen) : Calls Tryz.prog 83 #[.string s, .string pfx] w fun e w' => e = .returned (.bool (begB pfx s)) ∧ w = w' := by
  unfold maxLen at hs hp
  by_cases h : pfx.size ≤ s.size
  · have j1 : (pfx.size : Int) ≤ (s.size : Int) := by omega
    have hcut := begB_cut h
    cases hb0 : begB pfx s with
    | true =>
      rw [hb0] at hcut
      have hcut' := hcut.symm
      clear hb0 hcut
      go_enter Tryz.func83, Tryz.ntmps83
      go_wp2
      go_ret
      exact ⟨rfl, rfl⟩
    | false =>
      rw [hb0] at hcut
      have hcut' := hcut.symm
      clear hb0 hcut
      go_enter Tryz.func83, Tryz.ntmps83
      go_wp2
      go_ret
      exact ⟨rfl, rfl⟩
  · have j1 : ¬ (pfx.size : Int) ≤ (s.size : Int) := by omega
    rw [begB_long h]
    go_enter Tryz.func83, Tryz.ntmps83
    go_wp2
    go_ret
    exact ⟨rfl, rfl⟩
set_option maxHeartbeats 1000000 in
theorem rall_any {w : World} {b : Nat} {v : Value} (hb : w.heap[b]? = some (.cells #[v, .pointer none, .slice none 0 0] 106 (0, 0))) (hv : ∃ A n c, v = .slice A n c) :
    Calls Tryz.prog 82 #[.pointer (some ⟨b, 0, none⟩)] w fun e w' => e = .returned v ∧ w = w' := by
  obtain ⟨A, n, c, rfl⟩ := hv
  have c0 : w.cell? ⟨b, 0, none⟩ = some (.slice A n c) := blk_cell hb 0
  have c1 : w.cell? ⟨b, 1, none⟩ = some (.pointer none) := blk_cell hb 1
  go_enter Tryz.func82, Tryz.ntmps82
  go_wp2_with fail
  go_ret
  exact ⟨rfl, rfl⟩
theorem filter_take_next {ps : List Pr} (b : Pr → Bool) (k : Nat) (h : k < ps.length) : (ps.take (k + 1)).filter b = (ps.take k).filter b ++ (if b ps[k] = true then [ps[k]] else []) := by
  rw [← List.take_append_getElem h, List.filter_append]
  congr 1
  by_cases e : b ps[k] = true <;> simp [e]
set_option maxHeartbeats 8000000 in
theorem rpairs_any {w : World} {b : Nat} {R : List Pr} (h : DocR w b R) (pfx : ByteArray) (hpf : pfx.size ≤ maxLen) (hks : ∀ p ∈ R, p.1.size ≤ maxLen) :
    Calls Tryz.prog 25 #[.pointer (some ⟨b, 0, none⟩), .string pfx] w fun e w' => ∃ v, e = .returned v ∧ RdP w' w'.heap.size v (R.filter (fun p => begB pfx p.1)) ∧ Below w.heap.size w w' := by
  obtain ⟨i0, hi0, hiz, hisz, hiby⟩ := info_parts Tryz.infoPairL
  obtain ⟨j0, hj0, hjz, hjs, hjb⟩ := info_parts Tryz.infoByte
  obtain ⟨⟨v, hb, hr⟩, hn, hvl⟩ := h
  have HA := Lib.hid (rall_any hb (by obtain ⟨A, c, h⟩ := RdP.form hr; exact ⟨A, _, c, h⟩))
  have HBG := Lib.hid (fun (s : ByteArray) (W : World) (hs : s.size ≤ maxLen) => rbegins_any s pfx W hs hpf)
  obtain ⟨A, c, rfl, hc, hm, hp⟩ := hr
  unfold maxLen at hm
  obtain ⟨n, hnn⟩ : ∃ n, n = R.length := ⟨_, rfl⟩
  rw [← hnn] at hc hn HA
  have HN := Lib.hid hnn
  have HP := Lib.hid hp
  have HV := Lib.hid hvl
  have HK := Lib.hid hks
  clear hp hnn hvl hks hb hpf
  go_enter Tryz.func25, Tryz.ntmps25
  go_wp2_with fail
  refine HA.out.mono ?_
  rintro e w0 ⟨rfl, rfl⟩
  clear HA
  go_wp2_with fail
  go_loopw [5, 11] (fun out i wr => ∃ k : Nat, k ≤ n ∧ i = .int .i64 (k : Int) ∧ OwnP 0 wr w.heap.size out ((R.take k).filter (fun p => begB pfx p.1)) ∧ Below w.heap.size w wr)
    (fun _ i _ => n - (intOf i).toNat)
  case atStart => exact ⟨0, Nat.zero_le _, rfl, by simpa using OwnX.nil _ _, Below.refl _ _⟩
  case round =>
    rename World => W
    obtain ⟨k, hkn, rfl, hob, hb⟩ := hrel
    by_cases hlt : k < n
    · have hkl : k < R.length := by have := HN.out; omega
      obtain ⟨g, o, rfl, hgl, hcell⟩ := HP.out (by omega)
      obtain ⟨q1, x, q2, q3⟩ := hcell k hkl
      have a1 := (hb.cell (p := ⟨g, o + k * 2, none⟩) hgl).trans q1
      have a2 := (hb.cell (p := ⟨g, o + k * 2 + 1, none⟩) hgl).trans q2
      have hvk := HV.out _ (List.getElem_mem hkl)
      have hkk := HK.out _ (List.getElem_mem hkl)
      have i1 : (0 : Int) ≤ (k : Int) := by omega
      have i2 : (k : Int) < (n : Int) := by omega
      obtain ⟨Ax, cx, rfl⟩ := q3.form
      have hlb : ((R.take k).filter (fun p => begB pfx p.1)).length ≤ n := by
        have h1 := List.length_filter_le (fun p : Pr => begB pfx p.1) (R.take k)
        rw [List.length_take] at h1
        omega
      have HSN := Lib.hid (filter_take_next (fun p => begB pfx p.1) k hkl)
      have hal : Below W.heap.size W (W.alloc (.cells #[.string R[k].1, .slice Ax R[k].2.length cx] 48)) := (Below.refl _ _).alloc (Nat.le_refl _) _
      have hcs := heap_alloc_new W (.cells #[.string R[k].1, .slice Ax R[k].2.length cx] 48)
      have hq1 := below_chain hb hb.size hal
      have hob1 := OwnP.up hob hal
      have hne := OwnX.lt hob
      have hr1 := (q3.below hq1).more hq1.size
      generalize (R.take k).filter (fun p => begB pfx p.1) = L at *
      clear hcell q1 q2 q3 hob
      generalize R[k] = pk at *
      obtain ⟨s, l⟩ := pk
      dsimp only at a1 a2 hal hcs hq1 hob1 hr1 hvk hkk HSN
      obtain ⟨Ab, cb, rfl⟩ := hob1.form
      have HNE := Lib.hid hne
      clear hne
      have HB := Lib.hid (fun W => HBG.out s W hkk)
      have d0 : (W.alloc (.cells #[.string s, .slice Ax l.length cx] 48)).cell? ⟨W.heap.size, 0, none⟩ = some (.string s) := blk_cell hcs 0
      have d1 : (W.alloc (.cells #[.string s, .slice Ax l.length cx] 48)).cell? ⟨W.heap.size, 1, none⟩ = some (.slice Ax l.length cx) := blk_cell hcs 1
      have hlz : W.heap.size < (W.alloc (.cells #[.string s, .slice Ax l.length cx] 48)).heap.size := by simp
      have HX := Lib.hid (And.intro hq1 (And.intro hob1 (And.intro hr1 (And.intro d0 (And.intro d1 hlz)))))
      clear hal hcs hq1 hob1 hr1 d1 hlz hb
      cases hbg : begB pfx s with
      | false =>
        rw [hbg] at HB HSN
        simp only [Bool.false_eq_true, if_false, List.append_nil] at HSN
        clear hbg
        go_wp2_with fail
        refine (HB.out _).mono ?_
        rintro e w1 ⟨rfl, rfl⟩
        go_wp2_with fail
        exact ⟨⟨k + 1, by omega, by go_num, by rw [HSN.out]; exact HX.out.2.1, HX.out.1⟩, by simp [intOf]; omega⟩
      | true =>
        rw [hbg] at HB HSN
        simp only [if_true] at HSN
        clear hbg
        go_wp2_with fail
        generalize hW1 : W.alloc (.cells #[.string s, .slice Ax l.length cx] 48) = W1 at *
        clear hW1 d0
        refine (HB.out _).mono ?_
        rintro e w1 ⟨rfl, rfl⟩
        obtain ⟨hq1, hob1, hr1, d0, d1, hlz⟩ := HX.out
        have hbE : Below W1.heap.size W1 (W1.alloc (.cells #[] 5)) := (Below.refl _ _).alloc (Nat.le_refl _) _
        have hED : Own (W1.alloc (.cells #[] 5)).drew W1.heap.size (.slice (some ⟨W1.heap.size, 0, none⟩) 0 0) [] := own_empty W1 (Nat.le_refl _)
        have hbD : Below W1.heap.size W1 (W1.alloc (.cells #[] 5)).drew := hbE.drew
        have HLE := Lib.hid (show W1.heap.size ≤ (W1.alloc (.cells #[] 5)).drew.heap.size by simp)
        have hrD := hr1.up (Nat.le_refl _) hbD
        have HCL : Hid (∀ Z, Below W1.heap.size W1 Z → Z.cell? ⟨W.heap.size, 0, none⟩ = some (.string s) ∧ Z.cell? ⟨W.heap.size, 1, none⟩ = some (.slice Ax l.length cx)) := Lib.hid fun Z hz => ⟨(hz.cell (p := ⟨W.heap.size, 0, none⟩) hlz).trans d0, (hz.cell (p := ⟨W.heap.size, 1, none⟩) hlz).trans d1⟩
        have hz0 : Below W1.heap.size W1 W1.drew := (Below.refl _ _).drew
        have HG := Lib.hid hlz
        clear d0 d1 HX hbE hlz
        go_wp2_with fail
        go_region_held_law (fun Z => Z.cell? ⟨W.heap.size, 0, none⟩ = some (.string s) ∧ Z.cell? ⟨W.heap.size, 1, none⟩ = some (.slice Ax l.length cx))
          (with_reducible first | exact hcl7 | exact HCL.out _ hbx6 | exact HCL.out _ hb5 | exact HCL.out _ hbD | exact HCL.out _ hz0)
          (first
            | (refine wp_append_rd (.tmp 22) (.tmp 24) _ rfl j0 Tryz.underlying27 hj0 hjz hjs hjb rfl hED rfl hrD (by simp; omega) HLE.out ?_; intro v5 w5 ho5 hg5 _; have hb5 : Below W1.heap.size W1 w5 := hbD.grown hg5 HLE.out (fun k hk => (hED.lt k hk).1); replace ho5 : Own w5 W1.heap.size v5 l := ho5; obtain ⟨A5, c5, hv5⟩ := ho5.form; subst hv5; have hbx6 := hb5.alloc hb5.size (.cells #[.string s, .slice A5 l.length c5] 48); have hbz6 : Below w5.heap.size w5 (w5.alloc (.cells #[.string s, .slice A5 l.length c5] 48)) := (Below.refl _ _).alloc (Nat.le_refl _) _; have hgz6 := heap_alloc_new w5 (.cells #[.string s, .slice A5 l.length c5] 48); have hpc5 : PrC 0 w5 [.string s, .slice A5 l.length c5] (s, l) := ⟨_, rfl, ho5.rdS⟩; have hpc6 := hpc5.up hbz6; have hob6 := OwnP.up hob1 hbx6; have hq6 := below_chain hq1 hq1.size hbx6; have hws6 : w.heap.size ≤ (w5.alloc (.cells #[.string s, .slice A5 l.length c5] 48)).heap.size := Nat.le_trans hq1.size hbx6.size)
            | (have hob6' := hob6; refine wp_append_x (B0 := 0) (b := w5.heap.size) (off := 0) (.tmp 19) (.tmp 27) _ rfl i0 _ 40 Tryz.underlying22 hi0 hiz hisz hiby rfl (by decide) rfl hob6' rfl _ hpc6.len (fun j hj => (by rw [Nat.zero_add]; exact pairCells_get hgz6 j hj)) hpc6.one hpc6 (fun w' c a hc hg => hc.grow hg (by decide)) (Nat.zero_le _) (by unfold maxLen; omega) (by omega) hws6 ?_; intro v7 w7 ho7 hg7; have hb7 := OwnX.below hob6' hq6 hws6 hg7; have hcl6 := HCL.out _ hbx6; have hbk7 := hg7.block W.heap.size (Nat.lt_of_lt_of_le HG.out hbx6.size) (fun e => by have := (HNE.out _ e.symm).2; omega); have hcl7 : w7.cell? ⟨W.heap.size, 0, none⟩ = some (.string s) ∧ w7.cell? ⟨W.heap.size, 1, none⟩ = some (.slice Ax l.length cx) := ⟨(cell_same (p := ⟨W.heap.size, 0, none⟩) hbk7).trans hcl6.1, (cell_same (p := ⟨W.heap.size, 1, none⟩) hbk7).trans hcl6.2⟩))
        all_goals
          go_wp2_with fail
          exact ⟨⟨k + 1, by omega, by go_num, by rw [HSN.out]; exact ho7, hb7⟩, by simp [intOf]; omega⟩
    · have i2 : ¬ (k : Int) < (n : Int) := by omega
      have hdr : R.take k = R := List.take_of_length_le (by have := HN.out; omega)
      rw [hdr] at hob
      obtain ⟨Ab, cb, hv⟩ := hob.form
      have HO := Lib.hid (OwnP.rdP hob)
      subst hv
      clear hdr hob
      go_wp2_with fail
      go_ret
      exact ⟨_, rfl, HO.out, hb⟩
end Go.Proofs.YtpcoonnfaoakhaaGreatDoor
namespace Go.Proofs.YtpcoonnfaoakhaaGreatDoor
set_option maxRecDepth 100000
open Go Go.RowKit
set_option linter.unusedVariables false

end Go.Proofs.YtpcoonnfaoakhaaGreatDoor
namespace Go.Proofs.YtpcoonnfaoakhaaGreatDoor
set_option maxRecDepth 100000
open Go Go.RowKit
set_option linter.unusedVariables false

end Go.Proofs.YtpcoonnfaoakhaaGreatDoor
namespace Go.Proofs.YtpcoonnfaoakhaaGreatDoor
set_option maxRecDepth 100000
open Go Go.RowKit
set_option linter.unusedVariables false

end Go.Proofs.YtpcoonnfaoakhaaGreatDoor
namespace Go.Proofs.YtpcoonnfaoakhaaGreatDoor
set_option maxRecDepth 100000
open Go
set_option linter.unusedVariables false
/-- what a call of the bank makes of a store -/
def stepM (R : List Pr) (kd : Int) (a c d : ByteArray) (x : U4) : List Pr := if kd = 1 then (mintM R a d x).2 else if kd = 2 then (burnM R a d x).2 else if kd = 3 then (sendM R a c d x).2 else R
theorem addU_okm (x y : U4) : (addU x y).1.ok := by
  unfold addU
  split
  · exact ofN_ok _
  · exact zero_ok
theorem subU_okm (x y : U4) : (subU x y).1.ok := by
  unfold subU
  split
  · exact ofN_ok _
  · exact zero_ok
section
variable {R : List Pr} {a b c d : ByteArray} {x : U4}
theorem CanonL.nil : CanonL [] := fun p hp => by cases hp
theorem CanonL.change {op : U4 → U4 → U4 × Bool} {u : Int} (h : CanonL R) (ho : ∀ x y, (op x y).1.ok) : CanonL (changeM op u R a d x).2 := by
  unfold changeM
  split
  · split
    · exact (h.keep _ (ho _ _)).keep _ (ho _ _)
    · exact h
  · exact h
theorem CanonL.send (h : CanonL R) : CanonL (sendM R a b d x).2 := by
  unfold sendM
  split
  · split
    · split
      · split
        · exact h
        · split
          · exact (h.keep _ (subU_okm _ _)).keep _ (addU_okm _ _)
          · exact h
      · exact h
    · exact h
  · exact h
end
end Go.Proofs.YtpcoonnfaoakhaaGreatDoor
namespace Go.Proofs.YtpcoonnfaoakhaaGreatDoor
set_option maxRecDepth 100000
open Go Go.RowKit
set_option linter.unusedVariables false

/-- one call of a script -/
structure BOp where
  kd : Int
  a : ByteArray
  c : ByteArray
  d : ByteArray
  x : U4
def BOp.cells (o : BOp) : List Value := [.int .i64 o.kd, .string o.a, .string o.c, .string o.d, .int .u64 (o.x.a : Int), .int .u64 (o.x.b : Int), .int .u64 (o.x.c : Int), .int .u64 (o.x.d : Int)]
def BOp.fine (o : BOp) : Prop := o.x.ok ∧ o.a.size ≤ 100000000 ∧ o.c.size ≤ 100000000 ∧ o.d.size ≤ 100000000
/-- a row of calls, read -/
def RdB (w : World) (B : Nat) (v : Value) (ops : List BOp) : Prop :=
  ∃ A c, v = .slice A ops.length c ∧ ops.length ≤ c ∧ c ≤ maxLen ∧ (0 < ops.length → ∃ b o, A = some ⟨b, o, none⟩ ∧ b < B ∧ ∀ j (h : j < ops.length), ∀ i, i < 8 → w.cell? ⟨b, o + j * 8 + i, none⟩ = (ops[j]).cells[i]?)
end Go.Proofs.YtpcoonnfaoakhaaGreatDoor
namespace Go.Proofs.YtpcoonnfaoakhaaGreatDoor
set_option maxRecDepth 100000
open Go Go.RowKit
set_option linter.unusedVariables false

end Go.Proofs.YtpcoonnfaoakhaaGreatDoor
namespace Go.Proofs.YtpcoonnfaoakhaaGreatDoor
set_option maxRecDepth 100000
open Go Go.RowKit
set_option linter.unusedVariables false

def accP : ByteArray := ⟨#[97, 99, 99, 47]⟩
def kAcc (a : ByteArray) : ByteArray := accP ++ a
/-- an account's bytes -/
def accB (r : List UInt8) (b s : Nat) : List UInt8 := (encB r ++ be b 8) ++ be s 8
/-- an account, read -/
def readA (l : List UInt8) : Option (List UInt8 × Nat × Nat) :=
  if rEnd (rN (rN (rB l 0).2.1 (rB l 0).2.2).2.1 (rN (rB l 0).2.1 (rB l 0).2.2).2.2).2.1 (rN (rN (rB l 0).2.1 (rB l 0).2.2).2.1 (rN (rB l 0).2.1 (rB l 0).2.2).2.2).2.2 = 0 then
    some ((rB l 0).1, (rN (rB l 0).2.1 (rB l 0).2.2).1, (rN (rN (rB l 0).2.1 (rB l 0).2.2).2.1 (rN (rB l 0).2.1 (rB l 0).2.2).2.2).1)
  else none
/-- the account at an address -/
def getA (R : List Pr) (a : ByteArray) : Option (List UInt8 × Nat × Nat) := (getL R (kAcc a)).bind readA
/-- a row put in -/
def putA (R : List Pr) (a : ByteArray) (r : List UInt8) (b s : Nat) : List Pr := putL (kAcc a, some (accB r b s)) R
def createM (R : List Pr) (a : ByteArray) (r : List UInt8) : Int × List Pr :=
  if identB a = true then (if r.length = 32 then (if (getL R (kAcc a)).isSome = true then (111, R) else (0, putA R a r 0 0)) else (31, R)) else (40, R)
def rekeyM (R : List Pr) (a : ByteArray) (r : List UInt8) : Int × List Pr :=
  match getA R a with
  | none => (80, R)
  | some x => if r.length = 32 then (0, putA R a r x.2.2 x.2.2) else (31, R)
theorem Rise.putA {R : List Pr} (h : Rise R) {a : ByteArray} {r : List UInt8} {b s : Nat} : Rise (putA R a r b s) := h.put _
end Go.Proofs.YtpcoonnfaoakhaaGreatDoor
namespace Go.Proofs.YtpcoonnfaoakhaaGreatDoor
set_option maxRecDepth 100000
open Go Go.RowKit
set_option linter.unusedVariables false

theorem SeenL.put {y : Lyr} {l : List Lyr} {R : List Pr} (h : SeenL ⟨#[]⟩ (y :: l) R) {key : ByteArray} (hk : key.size ≤ maxLen) (v : List UInt8) : SeenL ⟨#[]⟩ (y.put key (some v) :: l) (putL (key, some v) R) where
  rise := h.rise.put _
  small := fun p hp => by
    rcases List.mem_append.1 ((putL_perm key _ R).mem_iff.1 hp) with hp | hp
    · rw [List.mem_singleton.1 hp]; exact hk
    · exact h.small p (List.mem_filter.1 hp).1
  get := fun s hs => by
    have h0 := h.get s hs
    rw [begB_empty, if_pos rfl] at h0 ⊢
    rw [getL_putL]
    unfold visV at h0 ⊢
    rw [visD_cons] at h0 ⊢
    have hv : (y.put key (some v)).f s = if s = key then some (some v) else y.f s := rfl
    rw [hv]
    by_cases e : s = key
    · rw [if_pos e, if_pos e]; rfl
    · rw [if_neg e, if_neg e]; exact h0
section
variable {W W' W2 : World} {y : Lyr} {R R2 : List Pr} {k : Nat} {B : Nat}
theorem Acc.get (h : Acc W y R k W') (key : ByteArray) (hk : key.size ≤ maxLen) :
    Calls Tryz.prog 18 #[.pointer (some ⟨y.b, 0, none⟩), .string key] W' fun e w' => ∃ v, e = .returned (.tuple #[v, .bool (getL R key).isSome]) ∧ Own w' W'.heap.size v ((getL R key).getD []) ∧ Below W'.heap.size W' w' := by
  obtain ⟨n, f, h1, h2, h3, h4⟩ := h.b
  have e := h2.get key hk
  rw [begB_empty, if_pos rfl] at e
  rw [e]
  exact get_any h1 key hk
/-- what is there stands under a key that fits, and is not too long -/
theorem Acc.fits (h : Acc W y R k W') {key : ByteArray} {v : List UInt8} (e : getL R key = some v) : keyB key = true ∧ v.length ≤ 65535 := by
  obtain ⟨n, f, h1, h2, h3, h4⟩ := h.b
  have hs := h2.small _ (getL_mem e)
  have e2 := h2.get key hs
  rw [begB_empty, if_pos rfl, e] at e2
  unfold visV at e2
  rw [visD_cons] at e2
  have hok := h1.1.ok
  dsimp only at e2 hok
  cases hf : f key with
  | none => rw [hf] at e2; simp [visD] at e2
  | some x =>
    rw [hf] at e2
    simp at e2
    exact hok key v (by rw [hf, ← e2])
theorem Acc.set (h : Acc W y R k W') (hn : y.n + k < maxLen) (key : ByteArray) (hk : key.size ≤ maxLen) (v : Value) (val : List UInt8) (hr : Rd W' W'.heap.size v val) (hp : pairB (key, val) = true) :
    Calls Tryz.prog 43 #[.pointer (some ⟨y.b, 0, none⟩), .string key, v] W' fun e w' => e = .returned (.int .i64 0) ∧ Acc W y (putL (key, some val) R) (k + 1) w' ∧ Kept W' w' := by
  obtain ⟨n, f, h1, h2, h3, h4⟩ := h.b
  refine (set_yes h1 (show n < maxLen by omega) key hk v val hr hp).mono ?_
  rintro e w' ⟨he, hq, hc⟩
  exact ⟨he, ⟨⟨n + 1, _, hq, h2.put hk val, by omega, h4.trans' hc⟩, h.p⟩, ⟨_, hc, h1.1.maps⟩⟩
end
end Go.Proofs.YtpcoonnfaoakhaaGreatDoor
namespace Go.Proofs.YtpcoonnfaoakhaaGreatDoor
set_option maxRecDepth 100000
open Go Go.RowKit
set_option linter.unusedVariables false

section
variable {w w' : World} {b B : Nat} {R : List Pr}
theorem DocS.ne_cell (h : DocS w b R) {g i : Nat} {u : Value} (e : w.cell? ⟨g, i, none⟩ = some u) (h1 : ∀ A n c, u ≠ .slice A n c) (h2 : u ≠ .pointer none) : g ≠ b := by
  obtain ⟨v, hb, hr⟩ := h
  obtain ⟨A, c, rfl⟩ := RdP.form hr
  exact not_own hb e h1 h2
theorem Rd.chgB (hd : DocS w b R) {v : Value} {l : List UInt8} (h : Rd w B v l) (hc : Chg w w' (fun k => k = b)) (hB : B ≤ w.heap.size) : Rd w' B v l := by
  obtain ⟨A, c, hv, h1, h2, hp⟩ := h
  refine ⟨A, c, hv, h1, h2, fun h0 => ?_⟩
  obtain ⟨g, o, hA, hl, hcell⟩ := hp h0
  refine ⟨g, o, hA, hl, fun j hj => ?_⟩
  have e := hcell j hj
  exact hc.cellB (hd.ne_cell e (fun _ _ _ h => by cases h) (fun h => by cases h)) e
theorem EntryIs.chgB (hd : DocS w b R) {e : Value} {x : Option (List UInt8)} (h : EntryIs w e x) (hc : Chg w w' (fun k => k = b)) : EntryIs w' e x := by
  cases x with
  | none => exact h
  | some l =>
    obtain ⟨sl, h1, h2⟩ := h
    exact ⟨sl, h1, (Rd.chgB hd h2 hc (Nat.le_refl _)).more hc.size⟩
theorem SaysF.chgB (hd : DocS w b R) {g : ByteArray → Option Value} {f : ByteArray → Option (Option (List UInt8))} (h : SaysF w g f) (hc : Chg w w' (fun k => k = b)) : SaysF w' g f := by
  intro s hs
  rcases h s hs with h | ⟨e, x, h1, h2, h3⟩
  · exact .inl h
  · exact .inr ⟨e, x, h1, h2, EntryIs.chgB hd h3 hc⟩
theorem LayS.chgB (hd : DocS w b R) {y : Lyr} {p : Value} (h : LayS w y p) (hc : Chg w w' (fun k => k = b)) : LayS w' y p := by
  obtain ⟨v, hb, hr⟩ := id hd
  have n1 : y.b ≠ b := fun e => by
    have h2 := h.cells.symm.trans ((congrArg (fun k => w.heap[k]?) e).trans hb)
    injection h2 with h2
    injection h2 with h3 h4 h5
    exact absurd h4 (by decide)
  obtain ⟨g, h1, h2⟩ := h.own
  have n2 : y.m ≠ b := fun e => by
    obtain ⟨es, c, e'⟩ := h1.isMap
    rw [e, hb] at e'; cases e'
  exact ⟨(hc.block _ h.lt.1 n1).trans h.cells, ⟨g, h1.chg hc n2, SaysF.chgB hd h2 hc⟩, h.ok⟩
theorem PileS.chgB (hd : DocS w b R) {l : List Lyr} (h : PileS w l) (hc : Chg w w' (fun k => k = b)) : PileS w' l := by
  induction l with
  | nil => trivial
  | cons y l ih =>
    obtain ⟨h1, h2, h3⟩ := h
    exact ⟨h1.chgB hd hc, h2, ih h3⟩
end

/-- the program's store at y, the document's at b -/
structure Two (B : Nat) (y : Lyr) (b : Nat) (Rp Rd : List Pr) (k : Nat) (W : World) : Prop where
  p : ∃ n f, PileS W [⟨y.b, y.m, n, f⟩] ∧ SeenL ⟨#[]⟩ [⟨y.b, y.m, n, f⟩] Rp ∧ n ≤ y.n + k
  d : DocS W b Rd
  n : Rd.length ≤ y.n + k
  v : ∀ p ∈ Rd, p.2.length ≤ 2000000
  hy : B ≤ y.m
  hb : B ≤ b
  hW : B ≤ W.heap.size
def FT (y : Lyr) (b : Nat) : Nat → Prop := fun k => k = y.m ∨ k = b
section
variable {B : Nat} {y : Lyr} {b k : Nat} {Rp Rd : List Pr} {W W' : World}
theorem Two.up (h : Two B y b Rp Rd k W) (hb : Below W.heap.size W W') : Two B y b Rp Rd k W' := by
  obtain ⟨n, f, h1, h2, h3⟩ := h.p
  exact ⟨⟨n, f, h1.up hb, h2, h3⟩, h.d.up hb, h.n, h.v, h.hy, h.hb, Nat.le_trans h.hW hb.size⟩
theorem Two.more {k' : Nat} (h : Two B y b Rp Rd k W) (hk : k ≤ k') : Two B y b Rp Rd k' W := by
  obtain ⟨n, f, h1, h2, h3⟩ := h.p
  exact ⟨⟨n, f, h1, h2, by omega⟩, h.d, by have := h.n; omega, h.v, h.hy, h.hb, h.hW⟩
theorem Two.lt (h : Two B y b Rp Rd k W) : y.m < W.heap.size ∧ b < W.heap.size := by
  obtain ⟨n, f, h1, -, -⟩ := h.p
  obtain ⟨v, hb, -⟩ := h.d
  exact ⟨h1.1.lt.2, blk_lt hb⟩
theorem Two.below (h : Two B y b Rp Rd k W) (hc : Chg W W' (FT y b)) : Below B W W' := hc.below (fun q e => by rcases e with e | e <;> rw [e]; exact h.hy; exact h.hb) h.hW
theorem Two.bankS (h : Two B y b Rp Rd k W) {R' : List Pr} {n : Nat} {f : LF} {W2 : World} (hn : n ≤ y.n + k) (hp : PileS W [⟨y.b, y.m, n, f⟩]) (hq : BankS W ⟨y.b, y.m, n, f⟩ [] R' 2 W2) : Two B y b R' Rd (k + 2) W2 ∧ Chg W W2 (FT y b) := by
  obtain ⟨n', f', g1, g2, g3, g4⟩ := hq
  dsimp only at g1 g2 g3 g4
  have hk : Kept W W2 := ⟨_, g4, hp.1.maps⟩
  exact ⟨⟨⟨n', f', g1, g2, by omega⟩, h.d.kept hk, by have := h.n; omega, h.v, h.hy, h.hb, Nat.le_trans h.hW g4.size⟩, g4.mono fun _ _ e => Or.inl e⟩
theorem Two.doc (h : Two B y b Rp Rd k W) : Doc W b Rd (y.n + k) W := ⟨h.d, h.n, h.v, Chg.refl _ _⟩
theorem Two.send (h : Two B y b Rp Rd k W) (hn : y.n + k + 2 ≤ 100000000) (a c d : ByteArray) (x : U4) (hx : x.ok) (ha : a.size ≤ 100000000) (hc : c.size ≤ 100000000) (hd : d.size ≤ 100000000) :
    Calls Tryz.prog 52 #[.pointer (some ⟨y.b, 0, none⟩), .string a, .string c, .string d, x.val] W fun e w' => e = .returned (.int .i64 (sendM Rp a c d x).1) ∧ Two B y b (sendM Rp a c d x).2 Rd (k + 2) w' ∧ Chg W w' (FT y b) := by
  obtain ⟨n, f, h1, h2, h3⟩ := h.p
  refine (send_any h1 h2 (show n + 2 ≤ maxLen by unfold maxLen; omega) a c d x hx ha hc hd).mono ?_
  rintro e w' ⟨he, hq⟩
  exact ⟨he, h.bankS h3 h1 hq⟩
theorem Two.docR (h : Two B y b Rp Rd k W) (hn : y.n + k ≤ 100000000) : DocR W b Rd := ⟨h.d, Nat.le_trans h.n hn, h.v⟩
end
end Go.Proofs.YtpcoonnfaoakhaaGreatDoor
namespace Go.Proofs.YtpcoonnfaoakhaaGreatDoor
set_option maxRecDepth 100000
open Go Go.RowKit
set_option linter.unusedVariables false

end Go.Proofs.YtpcoonnfaoakhaaGreatDoor
namespace Go.Proofs.YtpcoonnfaoakhaaGreatDoor
set_option maxRecDepth 100000
open Go Go.RowKit
set_option linter.unusedVariables false

def BOp.step (R : List Pr) (o : BOp) : List Pr := stepM R o.kd o.a o.c o.d o.x
section
variable {R : List Pr} {a b c d : ByteArray} {x : U4}
theorem CanonL.step (h : CanonL R) (o : BOp) : CanonL (o.step R) := by
  unfold BOp.step stepM
  split
  · exact h.change addU_ok'
  · split
    · exact h.change subU_ok'
    · split
      · exact h.send
      · exact h
end
theorem Two.acc {B : Nat} {y : Lyr} {b k : Nat} {Rp Rd : List Pr} {W : World} (h : Two B y b Rp Rd k W) : ∃ n f, n ≤ y.n + k ∧ Rise Rp ∧ Acc W ⟨y.b, y.m, n, f⟩ Rp 0 W := by
  obtain ⟨n, f, h1, h2, h3⟩ := h.p
  exact ⟨n, f, h3, h2.rise, ⟨BankS.refl h1 h2, h1⟩⟩
end Go.Proofs.YtpcoonnfaoakhaaGreatDoor
