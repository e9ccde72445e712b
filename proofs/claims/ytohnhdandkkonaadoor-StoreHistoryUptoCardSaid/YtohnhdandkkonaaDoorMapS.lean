
/- Maps whose keys are texts and whose elements are any values: what lies under each key, as a function. -/
import Derived.Maps.RangeWalk
import Derived.Test.YtohnhdandkkonaaDoorInfo
namespace Go.Proofs.YtohnhdandkkonaaDoor
set_option maxRecDepth 100000
open Go Go.RowKit Go.Maps
open Go.WideMaps (keyOf_string_mk)
set_option linter.unusedVariables false

/-- an element reads as itself -/
def rawR (v : Value) : Option (DataW Value × List MemPlace) := some (.held v, [])
theorem rawR_inv {v : Value} {y : DataW Value × List MemPlace} (h : rawR v = some y) : y = (.held v, []) := by
  unfold rawR at h; exact (Option.some.inj h).symm

def litS (s : ByteArray) : Lit := .string s.data.toList
theorem litS_inj {a b : ByteArray} (h : litS a = litS b) : a = b := by
  unfold litS at h
  injection h with h
  cases a with | mk a => cases b with | mk b =>
  simpa using h
theorem litS_key (s : ByteArray) : WideAt.IsKeyLit (litS s) := trivial

def AsF (D : DataW Value) (f : ByteArray → Option Value) : Prop :=
  ∀ s : ByteArray, s.size ≤ maxLen → (f s = none ∧ has D (litS s) = false) ∨ ∃ v, f s = some v ∧ has D (litS s) = true ∧ ∀ z, D.atKey (litS s) z = .held v

theorem AsF.nil : AsF (.map []) (fun _ => none) := fun s _ => .inl ⟨rfl, rfl⟩

theorem AsF.put {D : DataW Value} {f : ByteArray → Option Value} (h : AsF D f) (hD : IsMap D) (key : ByteArray) (v : Value) : AsF (D.put (litS key) (.held v)) (fun s => if s = key then some v else f s) := by
  intro s hs
  by_cases e : s = key
  · subst e
    exact .inr ⟨v, by simp, has_put_same hD (litS_key _) _, fun z => atKey_put_same hD (litS_key _) _ _⟩
  · have hne : litS s ≠ litS key := fun e' => e (litS_inj e')
    rcases h s hs with ⟨h1, h2⟩ | ⟨x, h1, h2, h3⟩
    · exact .inl ⟨by simp [e, h1], by rw [has_put_other hne]; exact h2⟩
    · exact .inr ⟨x, by simp [e, h1], by rw [has_put_other hne]; exact h2, fun z => by rw [atKey_put_other hne]; exact h3 z⟩

theorem AsF.del {D : DataW Value} {f : ByteArray → Option Value} (h : AsF D f) (key : ByteArray) : AsF (D.del (litS key)) (fun s => if s = key then none else f s) := by
  intro s hs
  by_cases e : s = key
  · subst e
    exact .inl ⟨by simp, has_del_same⟩
  · have hne : litS s ≠ litS key := fun e' => e (litS_inj e')
    rcases h s hs with ⟨h1, h2⟩ | ⟨x, h1, h2, h3⟩
    · exact .inl ⟨by simp [e, h1], by rw [has_del_other hne]; exact h2⟩
    · exact .inr ⟨x, by simp [e, h1], by rw [has_del_other hne]; exact h2, fun z => by rw [atKey_del_other hne]; exact h3 z⟩

section
variable {P : Program} {k : TypeId} {w : World} {b n : Nat} {f : ByteArray → Option Value}

/-- block b is a map of at most n entries: under the text s lies f s -/
def MapS (P : Program) (k : TypeId) (w : World) (b n : Nat) (f : ByteArray → Option Value) : Prop :=
  ∃ D : DataW Value, w.ownsMap P k rawR b n D ∧ AsF D f

theorem MapS.made (w : World) : MapS P k (w.alloc (.map #[] 0)) w.heap.size 0 (fun _ => none) := ⟨_, World.ownsMap_made _ _ _ _, AsF.nil⟩
theorem MapS.mono (h : MapS P k w b n f) {m : Nat} (hn : n ≤ m) : MapS P k w b m f := by
  obtain ⟨D, h1, h2⟩ := h; exact ⟨D, h1.mono hn, h2⟩
theorem MapS.lt (h : MapS P k w b n f) : b < w.heap.size := by
  obtain ⟨D, h1, _⟩ := h; exact h1.lt
theorem MapS.kept {w' : World} {row : Option Nat} (h : MapS P k w b n f) (hg : w.grownBy w' row) (hne : some b ≠ row) : MapS P k w' b n f := by
  obtain ⟨D, h1, h2⟩ := h; exact ⟨D, h1.kept hg hne, h2⟩
theorem MapS.congr (h : MapS P k w b n f) {g : ByteArray → Option Value} (e : ∀ s, s.size ≤ maxLen → f s = g s) : MapS P k w b n g := by
  obtain ⟨D, h1, h2⟩ := h; exact ⟨D, h1, fun s hs => by rw [← e s hs]; exact h2 s hs⟩

/-- 'v, ok := m[key]' -/
theorem MapS.look {t e : TypeId} (h : MapS P k w b n f) (hk : P.underlying k = some .string) (ht : P.underlying t = some (.map k e)) {z : Value} (hz : (zeroValue e).run P w = .ok z w) {key : ByteArray} (hl : key.size ≤ maxLen) :
    (Instr.lookup t (.map (some b)) (.string key) true).run P w = .ok (.tuple #[(f key).getD z, .bool (f key).isSome]) w := by
  obtain ⟨D, ⟨es, clock, hb, F, _, rfl⟩, hF⟩ := h
  have hkey : keyOf P k (.string key) = some (litS key) := keyOf_string_mk hk hl
  rcases Maps.fit_look true (string_keyed hk) ht hz hb F hkey with ⟨hrun, _, hat⟩ | ⟨e0, y, _, _, hrun, hRv, hat, _⟩
  · have hh := Maps.has_false_of_atKey hat
    rcases hF key hl with ⟨h1, h2⟩ | ⟨v, h1, h2, h3⟩
    · rw [h1]; exact hrun
    · rw [hh] at h2; cases h2
  · have hh := Maps.has_true_of_atKey hat
    rcases hF key hl with ⟨h1, h2⟩ | ⟨v, h1, h2, h3⟩
    · rw [hh] at h2; cases h2
    · have e1 := rawR_inv hRv
      have e2 := (h3 .nil).symm.trans (hat .nil)
      rw [e1] at e2
      have e3 : v = e0.val := by injection e2
      rw [h1, e3]; exact hrun

/-- 'm[key] = v' -/
theorem MapS.store {t e : TypeId} (h : MapS P k w b n f) (hk : P.underlying k = some .string) (ht : P.underlying t = some (.map k e)) (hn : n < maxLen) {key : ByteArray} (hl : key.size ≤ maxLen) (v : Value) :
    ∃ w', (Instr.mapUpdate t (.map (some b)) (.string key) v).run P w = .ok () w' ∧ MapS P k w' b (n + 1) (fun s => if s = key then some v else f s) ∧ w.mapTurned w' b := by
  obtain ⟨D, h1, hF⟩ := h
  have hkey : keyOf P k (.string key) = some (litS key) := keyOf_string_mk hk hl
  obtain ⟨w', hrun, h2, h3⟩ := h1.store (string_keyed hk) ht hn hkey (rfl : rawR v = some (.held v, []))
  exact ⟨w', hrun, ⟨_, h2, hF.put h1.isMap key v⟩, h3⟩

/-- 'delete(m, key)' -/
theorem MapS.drop {t e : TypeId} (h : MapS P k w b n f) (hk : P.underlying k = some .string) (ht : P.underlying t = some (.map k e)) {key : ByteArray} (hl : key.size ≤ maxLen) (ty : TypeId) :
    ∃ w', (Builtin.delete_ #[t, k] ty #[.map (some b), .string key]).run P w = .ok (.tuple #[]) w' ∧ MapS P k w' b n (fun s => if s = key then none else f s) ∧ w.mapTurned w' b := by
  obtain ⟨D, h1, hF⟩ := h
  have hkey : keyOf P k (.string key) = some (litS key) := keyOf_string_mk hk hl
  obtain ⟨w', hrun, h2, h3⟩ := h1.drop (string_keyed hk) ht hkey ty
  exact ⟨w', hrun, ⟨_, h2, hF.del key⟩, h3⟩

/-- 'clear(m)' -/
theorem MapS.clear {t e : TypeId} (h : MapS P k w b n f) (ht : P.underlying t = some (.map k e)) (ty : TypeId) :
    ∃ w', (Builtin.clear_ #[t] ty #[.map (some b)]).run P w = .ok (.tuple #[]) w' ∧ MapS P k w' b 0 (fun _ => none) ∧ w.mapTurned w' b := by
  obtain ⟨D, ⟨es, clock, hb, F, hs, rfl⟩, hF⟩ := h
  refine ⟨Go.ChangeMaps.setBlock w b (.map #[] clock), ?_, ⟨.map [], ⟨#[], clock, Go.ChangeMaps.heap_setBlock_same hb _, ⟨by simp, ?_, fun x hx => by simp at hx⟩, by simp, rfl⟩, AsF.nil⟩, ⟨es, clock, #[], clock, hb, rfl⟩⟩
  · simp [Builtin.clear_, run_underlying ht, MapKept.run_getObj_map hb, MapKept.run_setObj_map _ hb, Result.andThen, Go.ChangeMaps.setBlock]
  · exact ⟨by simp, by simp⟩
end

/-! ### at the operation, for the walk -/
section
variable {P : Program} (w : World) {ops : Array Oper} {rest : List Oper} {o : Oper} {a : Act} {Q : Exit → Act → World → Prop}

theorem wpList_look_s (hg : o.guard = none) (m x : Operand) (t : TypeId) (hop : o.op = Op.lookup t m x true) (k e : TypeId) (hk : P.underlying k = some .string) (ht : P.underlying t = some (.map k e)) {z : Value} (hz : (zeroValue e).run P w = .ok z w) (b n : Nat) (f : ByteArray → Option Value)
    (hm : a.eval m = .map (some b)) (h : MapS P k w b n f) (key : ByteArray) (hx : a.eval x = .string key) (hl : key.size ≤ maxLen)
    (hK : wpList P ops Q rest (a.put o.dst (.tuple #[(f key).getD z, .bool (f key).isSome])) w) :
    wpList P ops Q (o :: rest) a w := by
  refine wpList_plain hg fun K' hK' => ?_
  have hrun := h.look hk ht hz hl
  unfold Oper.wp
  simp [execOp, hop, hm, hx, hrun, Result.andThen]
  exact hK' _ _ hK

theorem wpList_drop_s (hg : o.guard = none) (m x : Operand) (t k : TypeId) (hop : o.op = Op.call { callee := Callee.builtin Builtin.delete, args := #[m, x], argTypes := #[t, k] }) (e : TypeId) (hk : P.underlying k = some .string) (ht : P.underlying t = some (.map k e)) (b n : Nat) (f : ByteArray → Option Value)
    (hm : a.eval m = .map (some b)) (h : MapS P k w b n f) (key : ByteArray) (hx : a.eval x = .string key) (hl : key.size ≤ maxLen)
    (hK : ∀ w', MapS P k w' b n (fun s => if s = key then none else f s) → w.mapTurned w' b → wpList P ops Q rest (a.put o.dst (.tuple #[])) w') :
    wpList P ops Q (o :: rest) a w := by
  refine wpList_plain hg fun K' hK' => ?_
  obtain ⟨w', hrun, r1, r2⟩ := h.drop hk ht hl o.type
  unfold Oper.wp
  simp [execOp, hop, resolve, invoke, builtin, hm, hx, hrun, Result.andThen]
  exact hK' _ _ (hK w' r1 r2)

theorem wpList_store_s (hg : o.guard = none) (m x v : Operand) (t : TypeId) (hop : o.op = Op.mapUpdate t m x v) (k e : TypeId) (hk : P.underlying k = some .string) (ht : P.underlying t = some (.map k e)) (b n : Nat) (f : ByteArray → Option Value)
    (hm : a.eval m = .map (some b)) (h : MapS P k w b n f) (hn : n < maxLen) (key : ByteArray) (val : Value) (hx : a.eval x = .string key) (hv : a.eval v = val) (hl : key.size ≤ maxLen)
    (hK : ∀ w', MapS P k w' b (n + 1) (fun s => if s = key then some val else f s) → w.mapTurned w' b → wpList P ops Q rest (a.put o.dst undef) w') :
    wpList P ops Q (o :: rest) a w := by
  refine wpList_plain hg fun K' hK' => ?_
  obtain ⟨w', hrun, r1, r2⟩ := h.store hk ht hn hl val
  unfold Oper.wp
  simp [execOp, hop, hm, hx, hv, hrun, Result.andThen]
  exact hK' _ _ (hK w' r1 r2)

theorem wpList_clear_s (hg : o.guard = none) (m : Operand) (t k : TypeId) (hop : o.op = Op.call { callee := Callee.builtin Builtin.clear, args := #[m], argTypes := #[t] }) (e : TypeId) (ht : P.underlying t = some (.map k e)) (b n : Nat) (f : ByteArray → Option Value)
    (hm : a.eval m = .map (some b)) (h : MapS P k w b n f)
    (hK : ∀ w', MapS P k w' b 0 (fun _ => none) → w.mapTurned w' b → wpList P ops Q rest (a.put o.dst (.tuple #[])) w') :
    wpList P ops Q (o :: rest) a w := by
  refine wpList_plain hg fun K' hK' => ?_
  obtain ⟨w', hrun, r1, r2⟩ := h.clear ht o.type
  unfold Oper.wp
  simp [execOp, hop, resolve, invoke, builtin, hm, hrun, Result.andThen]
  exact hK' _ _ (hK w' r1 r2)

/-- 'for key, x := range m' under way: which keys are still to come -/
def RangeS (P : Program) (k : TypeId) (w : World) (b r n : Nat) (f : ByteArray → Option Value) (left : ByteArray → Bool) (cnt : Nat) : Prop :=
  ∃ (D : DataW Value) (lf : Lit → Bool), w.ranges P k rawR b r n D lf cnt ∧ AsF D f ∧ ∀ s : ByteArray, s.size ≤ maxLen → lf (litS s) = left s

theorem RangeS.owns {k : TypeId} {w : World} {b r n : Nat} {f : ByteArray → Option Value} {left : ByteArray → Bool} {cnt : Nat} (h : RangeS P k w b r n f left cnt) : MapS P k w b n f := by
  obtain ⟨D, lf, h1, h2, h3⟩ := h; exact ⟨D, h1.owns, h2⟩
theorem RangeS.left_eq {k : TypeId} {w : World} {b r n : Nat} {f : ByteArray → Option Value} {left : ByteArray → Bool} {cnt : Nat} (h : RangeS P k w b r n f left cnt) : w.rangeLeft b r = cnt := by
  obtain ⟨D, lf, h1, h2, h3⟩ := h; exact h1.left_eq
theorem RangeS.kept {k : TypeId} {w w' : World} {b r n : Nat} {f : ByteArray → Option Value} {left : ByteArray → Bool} {cnt : Nat} {row : Option Nat} (h : RangeS P k w b r n f left cnt) (hg : w.grownBy w' row) (h1 : some b ≠ row) (h2 : some r ≠ row) : RangeS P k w' b r n f left cnt := by
  obtain ⟨D, lf, g1, g2, g3⟩ := h; exact ⟨D, lf, g1.kept hg h1 h2, g2, g3⟩

theorem wpList_range_s (hg : o.guard = none) (m : Operand) (t : TypeId) (hop : o.op = Op.range t m) (k e : TypeId) (hk : P.underlying k = some .string) (ht : P.underlying t = some (.map k e)) (b n : Nat) (f : ByteArray → Option Value)
    (hm : a.eval m = .map (some b)) (h : MapS P k w b n f)
    (hK : ∀ w' cnt, cnt ≤ n → RangeS P k w' b w.heap.size n f (fun s => (f s).isSome) cnt → w.grownBy w' none → w'.heap.size = w.heap.size + 1 → wpList P ops Q rest (a.put o.dst (.pointer (some ⟨w.heap.size, 0, none⟩))) w') :
    wpList P ops Q (o :: rest) a w := by
  obtain ⟨D, h1, hF⟩ := h
  refine wpList_range_own w hg m t hop k e (string_keyed hk) ht rawR b n D hm h1 ?_
  intro w' g1 g2 g3
  refine hK w' _ h1.size_le ⟨D, _, g1, hF, fun s hs => ?_⟩ g2 g3
  rcases hF s hs with ⟨e1, e2⟩ | ⟨v, e1, e2, _⟩ <;> simp [e1, e2]

theorem wpList_next_s (hg : o.guard = none) (it : Operand) (hop : o.op = Op.next it false) (k : TypeId) (hk : P.underlying k = some .string) (b r n : Nat) (f : ByteArray → Option Value) (left : ByteArray → Bool) (cnt : Nat)
    (hit : a.eval it = .pointer (some ⟨r, 0, none⟩)) (h : RangeS P k w b r n f left cnt)
    (hDone : (∀ s : ByteArray, s.size ≤ maxLen → left s = false) → wpList P ops Q rest (a.put o.dst (.tuple #[.bool false])) w)
    (hMore : ∀ (x : ByteArray) (c : Value) (w' : World) (cnt' : Nat), x.size ≤ maxLen → left x = true → f x = some c → RangeS P k w' b r n f (fun s => left s && !decide (s = x)) cnt' → cnt' < cnt →
      w.grownBy w' (some r) → w'.heap.size = w.heap.size → (Instr.entry (.pointer (some ⟨r, 0, none⟩))).run P w' = .ok (.tuple #[.string x, c]) w' → wpList P ops Q rest (a.put o.dst (.tuple #[.bool true, .string x, c])) w') :
    wpList P ops Q (o :: rest) a w := by
  obtain ⟨D, lf, h1, hF, hl⟩ := h
  refine wpList_next_ranges w hg it hop k (string_keyed hk) rawR Value.string id (fun key kl hkey => ?_) (fun v y hv => ⟨v, rfl⟩) b r n D lf cnt hit h1 ?_ ?_
  · rw [keyOf_string hk] at hkey
    cases key <;> simp [mapKey, hk] at hkey
    exact ⟨_, rfl⟩
  · intro hc hall
    exact hDone fun s hs => by rw [← hl s hs]; exact hall _
  · intro x c kl y w' cnt' hkey hlk hR hat hrg hlt hg1 hs1 hen
    have hkl : x.size ≤ maxLen ∧ kl = litS x := by
      rw [keyOf_string hk] at hkey
      simp [mapKey, hk] at hkey
      exact ⟨hkey.1, hkey.2.symm⟩
    obtain ⟨hx, rfl⟩ := hkl
    have e1 := rawR_inv hR
    rw [e1] at hat
    refine hMore x c w' cnt' hx (by rw [← hl x hx]; exact hlk) ?_ ⟨D, _, hrg, hF, fun s hs => ?_⟩ hlt hg1 hs1 hen
    · rcases hF x hx with ⟨h1, h2⟩ | ⟨v, h1, h2, h3⟩
      · rw [Maps.has_true_of_atKey hat] at h2; cases h2
      · have e2 := (h3 .nil).symm.trans (hat .nil)
        have e3 : v = c := by injection e2
        rw [h1, e3]
    · rw [hl s hs]
      congr 1
      by_cases e : s = x
      · subst e; simp [WideAt.sameKey_self (litS_key _)]
      · simp [e, Maps.sameKey_ne (fun e' => e (litS_inj e'))]
end
end Go.Proofs.YtohnhdandkkonaaDoor
