
/- The model of a disk: files, the power; what each call makes of it. Mathematics alone. -/
namespace Go.Proofs.Ytbbpkenbeenocaa
set_option maxRecDepth 100000

/-- a file: its bytes as seen, and how many of them are safe -/
structure FM where
  name : ByteArray
  data : List UInt8
  safe : Nat

/-- a disk: files; is the power off; operations till it goes (0: none is armed) -/
structure DM where
  files : List FM
  off : Bool
  left : Int

/-- the place of a name; the length where there is none -/
def placeF : List FM → ByteArray → Nat
  | [], _ => 0
  | f :: fs, s => if f.name = s then 0 else placeF fs s + 1

theorem placeF_le (fs : List FM) (s : ByteArray) : placeF fs s ≤ fs.length := by
  induction fs with
  | nil => simp [placeF]
  | cons f fs ih => unfold placeF; split <;> simp <;> omega
theorem placeF_hit (fs : List FM) (s : ByteArray) : ∀ (k : Nat) (h : k < fs.length), fs[k].name = s → (∀ j (hj : j < k), fs[j].name ≠ s) → placeF fs s = k := by
  induction fs with
  | nil => intro k h; simp at h
  | cons f fs ih =>
    intro k h h1 h2
    rcases k with _ | k
    · simp only [List.getElem_cons_zero] at h1
      simp [placeF, h1]
    · have h0 : f.name ≠ s := h2 0 (by omega)
      have := ih k (by simpa using h) (by simpa using h1) (fun j hj => by simpa using h2 (j + 1) (by omega))
      simp [placeF, h0, this]
theorem placeF_miss (fs : List FM) (s : ByteArray) (h2 : ∀ j (hj : j < fs.length), fs[j].name ≠ s) : placeF fs s = fs.length := by
  induction fs with
  | nil => rfl
  | cons f fs ih =>
    have h0 : f.name ≠ s := h2 0 (by simp)
    have := ih (fun j hj => h2 (j + 1) (by simp; omega))
    simp [placeF, h0, this]
/-- what find answers -/
def findI (fs : List FM) (s : ByteArray) : Int := if placeF fs s < fs.length then (placeF fs s : Int) else -1
theorem findI_cases (fs : List FM) (s : ByteArray) : (∃ k : Nat, k < fs.length ∧ placeF fs s = k ∧ findI fs s = (k : Int)) ∨ (placeF fs s = fs.length ∧ findI fs s = -1) := by
  unfold findI
  have := placeF_le fs s
  by_cases h : placeF fs s < fs.length
  · exact .inl ⟨_, h, rfl, by rw [if_pos h]⟩
  · exact .inr ⟨by omega, by rw [if_neg h]⟩

def namedB (s : ByteArray) : Bool := decide (1 ≤ s.size) && decide (s.size ≤ 32)

def goesM (m : DM) : Bool × DM :=
  if m.left ≤ 0 then (false, m) else if m.left = 1 then (true, { m with off := true, left := 0 }) else (false, { m with left := m.left - 1 })

def setF (fs : List FM) (k : Nat) (g : FM → FM) : List FM := fs.modify k g

def addM (m : DM) (s : ByteArray) (b : List UInt8) : Int × DM :=
  if placeF m.files s < m.files.length then (0, { m with files := m.files.modify (placeF m.files s) fun f => { f with data := f.data ++ b } })
  else if namedB s = false ∨ 16 ≤ m.files.length then (50, m)
  else (0, { m with files := m.files ++ [{ name := s, data := b, safe := 0 }] })

def appendM (m : DM) (s : ByteArray) (b : List UInt8) : Int × DM :=
  if m.off = true then (51, m) else
    (if (goesM m).1 = true then 51 else (addM (goesM m).2 s b).1, (addM (goesM m).2 s b).2)

/-- an operation that does nothing as the power goes -/
def opM (m : DM) (f : DM → Int × DM) : Int × DM :=
  if m.off = true then (51, m) else if (goesM m).1 = true then (51, (goesM m).2) else f (goesM m).2

def syncM (m : DM) (s : ByteArray) : Int × DM := opM m fun m =>
  if placeF m.files s < m.files.length then (0, { m with files := m.files.modify (placeF m.files s) fun f => { f with safe := f.data.length } }) else (50, m)

def truncM (m : DM) (s : ByteArray) (n : Int) : Int × DM := opM m fun m =>
  match m.files[placeF m.files s]? with
  | none => (50, m)
  | some f => if n < 0 ∨ (f.data.length : Int) < n then (2, m) else (0, { m with files := m.files.modify (placeF m.files s) fun f => { f with data := f.data.take n.toNat, safe := min f.safe n.toNat } })

def readM (m : DM) (s : ByteArray) : List UInt8 × Int :=
  if m.off = true then ([], 51) else match m.files[placeF m.files s]? with
  | none => ([], 50)
  | some f => (f.data, 0)

def armM (m : DM) (n : Int) : DM := if m.off = true then m else { m with left := max 0 n }

def waitM (fs : List FM) : Nat := (fs.map fun f => f.data.length - f.safe).sum

/-- bytes kept and lost: what is there, and how many lost ones behind it -/
def remStep (st : List UInt8 × Nat) (x : UInt8 × Bool) : List UInt8 × Nat := if x.2 = true then (st.1 ++ List.replicate st.2 0 ++ [x.1], 0) else (st.1, st.2 + 1)
def remS (f : FM) (keep : List Bool) : List UInt8 × Nat := ((f.data.drop f.safe).zip keep).foldl remStep (f.data.take f.safe, 0)
def remM (f : FM) (keep : List Bool) : List UInt8 := (remS f keep).1
def crashM : List FM → List Bool → List (ByteArray × List UInt8)
  | [], _ => []
  | f :: fs, keep => (f.name, remM f keep) :: crashM fs (keep.drop (f.data.length - f.safe))
/-- what is left of keep behind k files -/
def keepAt (fs : List FM) (keep : List Bool) (k : Nat) : List Bool := keep.drop (waitM (fs.take k))

theorem waitM_take_succ (fs : List FM) (k : Nat) (h : k < fs.length) : waitM (fs.take (k + 1)) = waitM (fs.take k) + (fs[k].data.length - fs[k].safe) := by
  unfold waitM; rw [List.take_succ_eq_append_getElem h, List.map_append, List.sum_append]; simp
theorem crashM_length (fs : List FM) (keep : List Bool) : (crashM fs keep).length = fs.length := by
  induction fs generalizing keep with
  | nil => rfl
  | cons f fs ih => simp [crashM, ih]
theorem crashM_get (fs : List FM) (keep : List Bool) (k : Nat) (h : k < fs.length) : (crashM fs keep)[k]? = some (fs[k].name, remM fs[k] (keepAt fs keep k)) := by
  induction fs generalizing keep k with
  | nil => simp at h
  | cons f fs ih =>
    rcases k with _ | k
    · simp [crashM, keepAt, waitM]
    · have := ih (keep.drop (f.data.length - f.safe)) k (by simpa using h)
      simp only [crashM, List.getElem?_cons_succ, this, List.getElem_cons_succ]
      simp [keepAt, waitM, List.drop_drop]
theorem crashM_take (fs : List FM) (keep : List Bool) (k : Nat) (h : k < fs.length) : (crashM fs keep).take (k + 1) = (crashM fs keep).take k ++ [(fs[k].name, remM fs[k] (keepAt fs keep k))] := by
  rw [List.take_add_one, crashM_get fs keep k h]; rfl
theorem keepAt_succ (fs : List FM) (keep : List Bool) (k : Nat) (h : k < fs.length) : keepAt fs keep (k + 1) = (keepAt fs keep k).drop (fs[k].data.length - fs[k].safe) := by
  unfold keepAt; rw [waitM_take_succ fs k h, List.drop_drop]
theorem zip_take (l : List UInt8) : ∀ (keep : List Bool) (n : Nat), l.length ≤ n → l.zip (keep.take n) = l.zip keep := by
  induction l with
  | nil => simp
  | cons x l ih =>
    intro keep n hl
    rcases n with _ | n
    · simp at hl
    · rcases keep with _ | ⟨y, keep⟩
      · simp
      · simp only [List.take_succ_cons, List.zip_cons_cons]
        rw [ih keep n (by simpa using hl)]
/-- of keep no more is used than there is waiting -/
theorem remM_cut (f : FM) (keep : List Bool) (n : Nat) (h : f.data.length - f.safe ≤ n) : remM f (keep.take n) = remM f keep := by
  unfold remM remS
  rw [zip_take _ keep n (by simp; omega)]

/-- all bytes of all files -/
def totM (fs : List FM) : Nat := (fs.map fun f => f.data.length).sum
theorem totM_mem {fs : List FM} {f : FM} (h : f ∈ fs) : f.data.length ≤ totM fs := by
  induction fs with
  | nil => cases h
  | cons x r ih =>
    unfold totM at ih ⊢
    simp only [List.map_cons, List.sum_cons]
    rcases List.mem_cons.1 h with e | e
    · subst e; omega
    · have := ih e; omega
theorem waitM_le (fs : List FM) : waitM fs ≤ totM fs := by
  induction fs with
  | nil => simp [waitM]
  | cons x r ih => unfold waitM totM at *; simp only [List.map_cons, List.sum_cons]; omega
theorem totM_take (fs : List FM) (k : Nat) : totM (fs.take k) ≤ totM fs := by
  induction fs generalizing k with
  | nil => simp [totM]
  | cons x r ih =>
    rcases k with _ | k
    · simp [totM]
    · have := ih k
      unfold totM at *
      simp only [List.take_succ_cons, List.map_cons, List.sum_cons]
      omega

theorem remFold_len (l : List (UInt8 × Bool)) : ∀ st : List UInt8 × Nat, (l.foldl remStep st).1.length + (l.foldl remStep st).2 = st.1.length + st.2 + l.length := by
  induction l with
  | nil => intro st; simp
  | cons x l ih =>
    intro st
    rw [List.foldl_cons, ih]
    unfold remStep
    split <;> simp <;> omega
theorem remStep_len (st : List UInt8 × Nat) (x : UInt8 × Bool) : (remStep st x).1.length + (remStep st x).2 = st.1.length + st.2 + 1 := by
  have := remFold_len [x] st
  simpa using this
theorem remM_le (f : FM) (keep : List Bool) (h : f.safe ≤ f.data.length) : (remM f keep).length ≤ f.data.length := by
  have := remFold_len ((f.data.drop f.safe).zip keep) (f.data.take f.safe, 0)
  simp at this
  unfold remM remS
  omega
end Go.Proofs.Ytbbpkenbeenocaa
