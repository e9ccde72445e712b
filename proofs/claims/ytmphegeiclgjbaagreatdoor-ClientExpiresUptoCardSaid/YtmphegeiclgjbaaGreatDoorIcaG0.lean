
/- The walks of connections and channels being read. The walks of connections and channels in bytes. New identifiers and channels as mathematics. The walks of a new identifier, of a channel's form, and of a connection that is wanted open. The walks of a new identifier, of a channel put, of a connection that is wanted open, of a channel's form. The walks of a channel put, of a connection that is wanted open. The walk of a new channel. The walks of a channel that is wanted in a state, and of a channel that is asked for. The law's fixed answers about channels, walked. The walks of an owner's account and channel; the law's fixed answers. The law's fixed answers about interchain accounts, walked. -/
import Derived.Test.YtmphegeiclgjbaaGreatDoorCliM
import Derived.Lib.ItoaNum
import Derived.Test.YtmphegeiclgjbaaGreatDoorSto1
namespace Go.Proofs.YtmphegeiclgjbaaGreatDoor
set_option maxRecDepth 100000
open Go Go.RowKit
set_option linter.unusedVariables false

end Go.Proofs.YtmphegeiclgjbaaGreatDoor
namespace Go.Proofs.YtmphegeiclgjbaaGreatDoor
set_option maxRecDepth 100000
open Go Go.RowKit
set_option linter.unusedVariables false

end Go.Proofs.YtmphegeiclgjbaaGreatDoor
namespace Go.Proofs.YtmphegeiclgjbaaGreatDoor
set_option maxRecDepth 100000
open Go Go.RowKit
set_option linter.unusedVariables false

def sTransfer : ByteArray := ⟨#[116, 114, 97, 110, 115, 102, 101, 114]⟩
def sControl : ByteArray := ⟨#[99, 111, 110, 116, 114, 111, 108]⟩
def sHost : ByteArray := ⟨#[104, 111, 115, 116]⟩
def sIcs20 : ByteArray := ⟨#[105, 99, 115, 50, 48]⟩
def sChan : ByteArray := ⟨#[99, 104, 97, 110]⟩
def sConn : ByteArray := ⟨#[99, 111, 110, 110]⟩
def sClient : ByteArray := ⟨#[99, 108, 105, 101, 110, 116]⟩
def dashB : ByteArray := ⟨#[45]⟩
def decB (n : Nat) : ByteArray := ⟨(Lib.decDigits n).toArray⟩
/-- the number of the next identifier of a kind -/
def numN (R : List Pr) (kind : ByteArray) : Nat := (rN ((getL R (kNum kind)).getD []) 0).1
def newID (R : List Pr) (kind : ByteArray) : ByteArray := (kind ++ dashB) ++ decB (numN R kind)
def newR (R : List Pr) (kind : ByteArray) : List Pr := setL (kNum kind) (be ((numN R kind + 1) % 18446744073709551616) 8) R
/-- the error of a channel's ports, order and version -/
def formM (a b : ByteArray) (od : Bool) (ve : ByteArray) : Int :=
  if a = sTransfer ∧ b = sTransfer then (if od = true then 122 else if ve = sIcs20 then 0 else 123)
  else if a = sControl ∧ b = sHost then (if od = true then (if identB ve = true then 0 else 123) else 122) else 121
/-- the error of a connection that is wanted open -/
def openE (R : List Pr) (via : ByteArray) : Int := match getCn R via with
  | none => 110
  | some c => if c.st = 3 then 0 else 111
def madeCh (R : List Pr) (c : ChV) : List Pr :=
  setL (ackedP ++ newID R sChan) (be 1 8) (setL (recvP ++ newID R sChan) (be 1 8) (setL (nextP ++ newID R sChan) (be 1 8) (setL (kChn (newID R sChan)) (chB c) (newR R sChan))))
def beginE (R : List Pr) (via po cp : ByteArray) (od : Bool) (ve : ByteArray) : Int := if openE R via = 0 then formM po cp od ve else openE R via
def beginR (R : List Pr) (via po cp : ByteArray) (od : Bool) (ve : ByteArray) : List Pr := if beginE R via po cp od ve = 0 then madeCh R ⟨1, od, po, cp, via, ⟨#[]⟩, ve⟩ else R
def beginI (R : List Pr) (via po cp : ByteArray) (od : Bool) (ve : ByteArray) : ByteArray := if beginE R via po cp od ve = 0 then newID R sChan else ⟨#[]⟩
end Go.Proofs.YtmphegeiclgjbaaGreatDoor
namespace Go.Proofs.YtmphegeiclgjbaaGreatDoor
set_option maxRecDepth 100000
open Go Go.RowKit
set_option linter.unusedVariables false

def digB : ByteArray := ⟨#[48, 49, 50, 51, 52, 53, 54, 55, 56, 57, 97, 98, 99, 100, 101, 102, 103, 104, 105, 106, 107, 108, 109, 110, 111, 112, 113, 114, 115, 116, 117, 118, 119, 120, 121, 122]⟩
theorem digB_cut : ∀ n : Fin 10, (digB.extract n.val (n.val + 1)) = decB n.val := by decide +kernel
theorem small_dig (n : Nat) (hn : n < 10) (w : World) : Calls Tryz.prog 156 #[.int .i64 (n : Int)] w fun e w' => e = .returned (.string (decB n)) ∧ w = w' := by
  have hsl : ∀ W, (Instr.slice 9 (.string digB) (some (.int .i64 (n : Int))) (some (.int .i64 ((n : Int) + 1))) none).run Tryz.prog W = .ok (.string (decB n)) W := fun W => by
    rw [run_slice_string W 9 digB .i64 .i64 _ _ Tryz.underlying9 (by omega) (by omega) (by rw [show digB.size = 36 from rfl]; omega), show ((n : Int)).toNat = n by omega, show ((n : Int) + 1).toNat = n + 1 by omega]
    rw [digB_cut ⟨n, hn⟩]
  generalize decB n = S at *
  unfold digB at hsl
  go_enter Tryz.func156, Tryz.ntmps156
  go_wp2
  go_ret
  exact ⟨rfl, rfl⟩
theorem fmt_dig (n : Nat) (hn : n < 10) (w : World) : Calls Tryz.prog 131 #[.int .u64 (n : Int), .int .i64 10] w fun e w' => e = .returned (.string (decB n)) ∧ w = w' := by
  have HS := Lib.hid (fun W => small_dig n hn W)
  have hi : ∀ W, Calls Tryz.prog 142 #[.int .u64 (n : Int), .int .i64 10] W fun e w' => e = .returned (.string (decB n)) ∧ W = w' := fun W => by
    generalize decB n = S at *
    go_enter Tryz.func142, Tryz.ntmps142
    go_wp2_with fail
    refine (HS.out _).mono ?_
    rintro e w' ⟨rfl, rfl⟩
    go_wp2_with fail
    go_ret
    exact ⟨rfl, rfl⟩
  have HI := Lib.hid hi
  clear hi HS
  generalize decB n = S at *
  go_enter Tryz.func131, Tryz.ntmps131
  go_wp2_with fail
  refine (HI.out _).mono ?_
  rintro e w' ⟨rfl, rfl⟩
  go_wp2_with fail
  go_ret
  exact ⟨rfl, rfl⟩
end Go.Proofs.YtmphegeiclgjbaaGreatDoor
namespace Go.Proofs.YtmphegeiclgjbaaGreatDoor
set_option maxRecDepth 100000
open Go Go.RowKit
set_option linter.unusedVariables false

theorem dash_size : dashB.size = 1 := rfl
set_option maxHeartbeats 4000000 in
theorem newid_gen {W w : World} {y : Lyr} {l : List Lyr} {R : List Pr} {k : Nat} (h : At W y l R k w) (hn : y.n + k < maxLen) (kind : ByteArray) (hk : kind.size ≤ 1000) (hd : (decB (numN R kind)).size ≤ 1000)
    (hf : ∀ Z, Kept w Z → Calls Tryz.prog 131 #[.int .u64 (numN R kind : Int), .int .i64 10] Z fun e w' => e = .returned (.string (decB (numN R kind))) ∧ Below Z.heap.size Z w') :
    Calls Tryz.prog 96 #[.pointer (some ⟨y.b, 0, none⟩), .string kind] w fun e w' => e = .returned (.string (newID R kind)) ∧ At W y l (newR R kind) (k + 1) w' ∧ Kept w w' := by
  have s1 : numP.size = 6 := rfl
  have z1 := kNum_size kind
  have hc1 := fun Z => txt_add numP kind (by rw [s1]; omega) Z
  have HG := Lib.hid (h.get (kNum kind) (by rw [z1]; unfold maxLen; omega))
  have HL : ((getL R (kNum kind)).getD []).length ≤ 65535 := by
    cases e : getL R (kNum kind) with
    | none => simp
    | some v => exact (h.fits e).2
  have hnn : numN R kind < 18446744073709551616 := rN_ltP _ _
  have hc2 := fun Z => txt_add kind dashB (by rw [dash_size]; omega) Z
  have hc3 := fun Z => txt_add (kind ++ dashB) (decB (numN R kind)) (by rw [ByteArray.size_append, dash_size]; omega) Z
  have HS : Hid (∀ (Z : World) (hz : Below w.heap.size w Z) (v : Value) (hr : Rd Z Z.heap.size v (be ((numN R kind + 1) % 18446744073709551616) 8)), Calls Tryz.prog 93 #[.pointer (some ⟨y.b, 0, none⟩), .string (kNum kind), v] Z fun e w' => (∃ c, e = .returned (.int .i64 c)) ∧ At W y l (setL (kNum kind) (be ((numN R kind + 1) % 18446744073709551616) 8) R) (k + 1) w' ∧ Kept Z w') :=
    Lib.hid fun Z hz v hr => ((h.up hz).set hn (kNum kind) (by rw [z1]; unfold maxLen; omega) v _ hr).mono fun e w' ⟨h1, h2, h3⟩ => ⟨⟨_, h1⟩, h2, h3⟩
  have HF := Lib.hid hf
  have hwrap : IntKind.u64.wrap ((numN R kind : Int) + 1) = (((numN R kind + 1) % 18446744073709551616 : Nat) : Int) := by
    unfold IntKind.wrap
    simp [IntKind.bits, IntKind.signed]
  have HN : Hid (∀ Z, Calls Tryz.prog 42 #[.slice none 0 0, .int .u64 (((numN R kind + 1) % 18446744073709551616 : Nat) : Int)] Z fun e w' => ∃ v', e = .returned v' ∧ Own w' Z.heap.size v' (be ((numN R kind + 1) % 18446744073709551616) 8) ∧ Below Z.heap.size Z w') := Lib.hid fun Z => by
    have := N_any (.slice none 0 0) [] ((numN R kind + 1) % 18446744073709551616) Z (Rd.nil _ _) (Nat.mod_lt _ (by decide)) (by simp)
    rwa [List.nil_append] at this
  have hfin : newR R kind = setL (kNum kind) (be ((numN R kind + 1) % 18446744073709551616) 8) R := rfl
  have hidf : newID R kind = (kind ++ dashB) ++ decB (numN R kind) := rfl
  rw [hfin, hidf]
  have hnum : numN R kind = (rN ((getL R (kNum kind)).getD []) 0).1 := rfl
  generalize setL (kNum kind) (be ((numN R kind + 1) % 18446744073709551616) 8) R = R2 at *
  generalize (kind ++ dashB) ++ decB (numN R kind) = IDv at *
  generalize decB (numN R kind) = DV at *
  generalize kind ++ dashB = kd at *
  generalize (numN R kind + 1) % 18446744073709551616 = m at *
  have hpos : kNum kind = numP ++ kind := rfl
  rw [← hpos] at hc1
  generalize kNum kind = key at *
  unfold numP at hc1
  unfold dashB at hc2
  generalize (getL R key).getD [] = L0 at *
  generalize (getL R key).isSome = B0 at *
  generalize numN R kind = n at *
  have HNUM := Lib.hid hnum
  clear hnum hfin hidf hpos hd hnn h hf z1
  go_enter Tryz.func96, Tryz.ntmps96
  go_wp2_with fail
  refine HG.out.mono ?_
  rintro e w1 ⟨v, rfl, hov, hb1⟩
  have HO := Lib.hid (open_rd v L0 w1 hov.rd (by omega))
  obtain ⟨A, c, rfl⟩ := hov.form
  generalize L0.length = n0 at *
  clear hov HG
  go_wp2_with fail
  refine HO.out.mono ?_
  rintro e w2 ⟨g, rfl, hr2, hb2⟩
  have hq2 := below_chain hb1 hb1.size hb2
  have hg := hr2.from_
  have HR := Lib.hid (rN_any hr2)
  rw [← HNUM.out] at HR
  clear HO hr2 hb2
  go_wp2_with fail
  refine HR.out.mono ?_
  rintro e w3 ⟨rfl, -, hg3⟩
  have hq3 := hq2.grown hg3 hq2.size (fun k hk => by injection hk with hk; have := hb1.size; omega)
  clear HR hg3 hg hb1 hq2
  go_wp2_with fail
  refine (HN.out _).mono ?_
  rintro e w4 ⟨v4, rfl, ho4, hb4⟩
  have hq4 := below_chain hq3 hq3.size hb4
  have HS4 := Lib.hid (HS.out _ hq4 v4 ho4.rd)
  obtain ⟨A4, c4, rfl⟩ := ho4.form
  generalize (be m 8).length = n4 at *
  clear ho4 HS HN hb4 hq3
  go_wp2_with fail
  refine HS4.out.mono ?_
  rintro e w5 ⟨⟨c5, rfl⟩, hA5, hk5⟩
  have hkk := (Kept.of_belowX hq4).transX hk5
  have HF5 := Lib.hid (HF.out _ hkk)
  clear HS4 HF
  go_wp2_with fail
  refine HF5.out.mono ?_
  rintro e w6 ⟨rfl, hb6⟩
  go_wp2_with fail
  go_ret
  exact ⟨rfl, hA5.up hb6, hkk.transX (Kept.of_belowX hb6)⟩
theorem decB_size (n : Nat) (hn : n < 10) : (decB n).size = 1 := by
  have : ∀ n : Fin 10, (decB n.val).size = 1 := by decide +kernel
  exact this ⟨n, hn⟩
theorem newid_any {W w : World} {y : Lyr} {l : List Lyr} {R : List Pr} {k : Nat} (h : At W y l R k w) (hn : y.n + k < maxLen) (kind : ByteArray) (hk : kind.size ≤ 1000) (hs : numN R kind < 10) :
    Calls Tryz.prog 96 #[.pointer (some ⟨y.b, 0, none⟩), .string kind] w fun e w' => e = .returned (.string (newID R kind)) ∧ At W y l (newR R kind) (k + 1) w' ∧ Kept w w' :=
  newid_gen h hn kind hk (by rw [decB_size _ hs]; decide) fun Z _ => (fmt_dig _ hs Z).mono fun e w' ⟨h1, h2⟩ => ⟨h1, by rw [← h2]; exact Below.refl _ _⟩

end Go.Proofs.YtmphegeiclgjbaaGreatDoor
namespace Go.Proofs.YtmphegeiclgjbaaGreatDoor
set_option maxRecDepth 100000
open Go Go.RowKit
set_option linter.unusedVariables false

def CnV.cells (v : CnV) : Array Value := #[.int .u64 (v.st : Int), .string v.cl, .string v.cc, .string v.ct]
/-- a connection that is wanted open -/
def openV (R : List Pr) (via : ByteArray) : CnV := if openE R via = 0 then (getCn R via).getD CnV.none else CnV.none
end Go.Proofs.YtmphegeiclgjbaaGreatDoor
namespace Go.Proofs.YtmphegeiclgjbaaGreatDoor
set_option maxRecDepth 100000
open Go Go.RowKit
set_option linter.unusedVariables false

/-- the numbers that a channel begins with -/
def oneR (ks : List ByteArray) (R : List Pr) : List Pr := ks.foldl (fun R s => setL s (be 1 8) R) R
theorem numN_small (R : List Pr) (kind : ByteArray) (h : numN R kind < 10) : (newID R kind).size = kind.size + 2 := by
  unfold newID
  rw [ByteArray.size_append, ByteArray.size_append, dash_size, decB_size _ h]
end Go.Proofs.YtmphegeiclgjbaaGreatDoor
namespace Go.Proofs.YtmphegeiclgjbaaGreatDoor
set_option maxRecDepth 100000
open Go Go.RowKit
set_option linter.unusedVariables false

def inStE (R : List Pr) (id : ByteArray) (st : Nat) : Int := match getCh R id with
  | none => 120
  | some c => if c.st = st then 0 else 111
def inStV (R : List Pr) (id : ByteArray) (st : Nat) : ChV := if inStE R id st = 0 then (getCh R id).getD ChV.none else ChV.none
end Go.Proofs.YtmphegeiclgjbaaGreatDoor
namespace Go.Proofs.YtmphegeiclgjbaaGreatDoor
set_option maxRecDepth 100000
open Go Go.RowKit
set_option linter.unusedVariables false

def sClient0 : ByteArray := ⟨#[99, 108, 105, 101, 110, 116, 45, 48]⟩
def sClient1 : ByteArray := ⟨#[99, 108, 105, 101, 110, 116, 45, 49]⟩
def sConn5 : ByteArray := ⟨#[99, 111, 110, 110, 45, 53]⟩
def sConn0 : ByteArray := ⟨#[99, 111, 110, 110, 45, 48]⟩
def sChan0 : ByteArray := ⟨#[99, 104, 97, 110, 45, 48]⟩
def fixCn : CnV := ⟨3, sClient0, sClient1, sConn5⟩
def fixCnR : List Pr := [(kConn sConn0, cnB fixCn)]
def fixChR : List Pr := beginR fixCnR sConn0 sTransfer sTransfer false sIcs20
end Go.Proofs.YtmphegeiclgjbaaGreatDoor
namespace Go.Proofs.YtmphegeiclgjbaaGreatDoor
set_option maxRecDepth 100000
open Go Go.RowKit
set_option linter.unusedVariables false

def icaP : ByteArray := ⟨#[105, 99, 97, 46]⟩
def dotB : ByteArray := ⟨#[46]⟩
def actP : ByteArray := ⟨#[105, 99, 97, 47, 97, 99, 116, 105, 118, 101, 47]⟩
/-- an owner's account; where the channel is kept that an owner asked for last -/
def kIca (a b : ByteArray) : ByteArray := ((icaP ++ a) ++ dotB) ++ b
def kAct (a b : ByteArray) : ByteArray := ((actP ++ a) ++ slB) ++ b
/-- is there a channel of that owner's already, that isn't closed? -/
def busyB (R : List Pr) (via owner : ByteArray) : Bool := match getL R (kAct via owner) with
  | none => false
  | some l => match getCh R ⟨l.toArray⟩ with
    | none => false
    | some c => !decide (c.st = 4)
def regE (R : List Pr) (owner via : ByteArray) : Int := if identB owner = true then (if identB via = true then (if busyB R via owner = true then 111 else beginE R via sControl sHost true owner) else 160) else 160
def regI (R : List Pr) (owner via : ByteArray) : ByteArray := if regE R owner via = 0 then newID R sChan else ⟨#[]⟩
def regR (R : List Pr) (owner via : ByteArray) : List Pr := if regE R owner via = 0 then setL (kAct via owner) (strBytes (newID R sChan)) (beginR R via sControl sHost true owner) else R
end Go.Proofs.YtmphegeiclgjbaaGreatDoor
namespace Go.Proofs.YtmphegeiclgjbaaGreatDoor
set_option maxRecDepth 100000
open Go Go.RowKit
set_option linter.unusedVariables false

def sAnn : ByteArray := ⟨#[97, 110, 110]⟩
def sBob : ByteArray := ⟨#[98, 111, 98]⟩
def fixIcaR : List Pr := regR fixCnR sAnn sConn0
end Go.Proofs.YtmphegeiclgjbaaGreatDoor
