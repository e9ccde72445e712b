
/- New identifiers and channels as mathematics. -/
import Derived.Test.YtlkkjnacolmmpaaDoorCliM
import Derived.Lib.ItoaNum
namespace Go.Proofs.YtlkkjnacolmmpaaDoor
set_option maxRecDepth 100000
open Go Go.RowKit
set_option linter.unusedVariables false

def sTransfer : ByteArray := ⟨#[116, 114, 97, 110, 115, 102, 101, 114]⟩
def sControl : ByteArray := ⟨#[99, 111, 110, 116, 114, 111, 108]⟩
def sHost : ByteArray := ⟨#[104, 111, 115, 116]⟩
def sIcs20 : ByteArray := ⟨#[105, 99, 115, 50, 48]⟩
def sChan : ByteArray := ⟨#[99, 104, 97, 110]⟩
def sConn : ByteArray := ⟨#[99, 111, 110, 110]⟩
def sClient : ByteArray := ⟨#[99, 108, 105, 101, 110, 116]⟩
def dashB : ByteArray := ⟨#[45]⟩
def decB (n : Nat) : ByteArray := ⟨(Lib.decDigits n).toArray⟩
/-- the number of the next identifier of a kind -/
def numN (R : List Pr) (kind : ByteArray) : Nat := (rN ((getL R (kNum kind)).getD []) 0).1
def newID (R : List Pr) (kind : ByteArray) : ByteArray := (kind ++ dashB) ++ decB (numN R kind)
def newR (R : List Pr) (kind : ByteArray) : List Pr := setL (kNum kind) (be ((numN R kind + 1) % 18446744073709551616) 8) R
/-- the error of a channel's ports, order and version -/
def formM (a b : ByteArray) (od : Bool) (ve : ByteArray) : Int :=
  if a = sTransfer ∧ b = sTransfer then (if od = true then 122 else if ve = sIcs20 then 0 else 123)
  else if a = sControl ∧ b = sHost then (if od = true then (if identB ve = true then 0 else 123) else 122) else 121
/-- the error of a connection that is wanted open -/
def openE (R : List Pr) (via : ByteArray) : Int := match getCn R via with
  | none => 110
  | some c => if c.st = 3 then 0 else 111
def madeCh (R : List Pr) (c : ChV) : List Pr :=
  setL (ackedP ++ newID R sChan) (be 1 8) (setL (recvP ++ newID R sChan) (be 1 8) (setL (nextP ++ newID R sChan) (be 1 8) (setL (kChn (newID R sChan)) (chB c) (newR R sChan))))
def beginE (R : List Pr) (via po cp : ByteArray) (od : Bool) (ve : ByteArray) : Int := if openE R via = 0 then formM po cp od ve else openE R via
def beginR (R : List Pr) (via po cp : ByteArray) (od : Bool) (ve : ByteArray) : List Pr := if beginE R via po cp od ve = 0 then madeCh R ⟨1, od, po, cp, via, ⟨#[]⟩, ve⟩ else R
def beginI (R : List Pr) (via po cp : ByteArray) (od : Bool) (ve : ByteArray) : ByteArray := if beginE R via po cp od ve = 0 then newID R sChan else ⟨#[]⟩
end Go.Proofs.YtlkkjnacolmmpaaDoor
