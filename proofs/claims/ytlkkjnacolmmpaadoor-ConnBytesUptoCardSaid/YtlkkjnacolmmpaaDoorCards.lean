/-
  DERIVED. GIVEN WITH THE SEED: THE CARDS: each row of YtlkkjnacolmmpaaDoorRows.lean that lists a variable, with what it lists TIED to the program's text (the seventh form; the later family's looks); each row that meets fmt, with fmt's text TOLD by the authors' own Lean function (tested against real Go, not proved from fmt's source: count such statements apart). THE CARD IS WHAT COUNTS. Prove the row's statement (the work); the ties are given (YtlkkjnacolmmpaaDoorTie.lean); close each card by the builder's one call (the guide's Derived/Test/ToyasCard.lean, 'card_holds'). Laid BY PROGRAM, IN A SANDBOX (cutbox-door.mjs). By AI agents, Wed Nov 11 2026. No macro, syntax, notation, axiom, sorry.
-/
import Derived.Test.YtlkkjnacolmmpaaDoorRows
import GoSem.ClaimSeven
namespace Go.Proofs.YtlkkjnacolmmpaaDoor
namespace Rows

/-- THE TIED CARD OF 'isthmuslaw15.ConnKeys'. -/
def connKeysCard : Claim7 := { stood := { row := connKeysRow, standIns := [], harness := (true, "88d485e8e0b6a7c0abb9b93f837949f901e8a29a4ecae62afc3e7925bebeef48"), looks := false }, kinds := [], alts := [], laidByText := true, laidKinds := [.data, .data, .data, .data], laidTests := true, laidLooks := .later }
def ConnKeysCardSaid : Prop := Claim7.holds Tryd.pinned (.plain (OpenSpec.ofChange connKeysSpec)) connKeysCard

/-- THE TIED CARD OF 'isthmuslaw15.ConnBytes'. -/
def connBytesCard : Claim7 := { stood := { row := connBytesRow, standIns := [], harness := (true, "88d485e8e0b6a7c0abb9b93f837949f901e8a29a4ecae62afc3e7925bebeef48"), looks := false }, kinds := [], alts := [], laidByText := true, laidKinds := [.data, .data, .data, .data], laidTests := true, laidLooks := .later }
def ConnBytesCardSaid : Prop := Claim7.holds Tryd.pinned (.plain (OpenSpec.ofChange connBytesSpec)) connBytesCard

/-- THE TIED CARD OF 'isthmuslaw16.ChansKeys'. -/
def chansKeysCard : Claim7 := { stood := { row := chansKeysRow, standIns := [], harness := (true, "88d485e8e0b6a7c0abb9b93f837949f901e8a29a4ecae62afc3e7925bebeef48"), looks := false }, kinds := [], alts := [], laidByText := true, laidKinds := [.data, .data, .data], laidTests := true, laidLooks := .later }
def ChansKeysCardSaid : Prop := Claim7.holds Tryd.pinned (.plain (OpenSpec.ofChange chansKeysSpec)) chansKeysCard

/-- THE TIED CARD OF 'isthmuslaw17.PacketKeys'. -/
def packetKeysCard : Claim7 := { stood := { row := packetKeysRow, standIns := [], harness := (true, "88d485e8e0b6a7c0abb9b93f837949f901e8a29a4ecae62afc3e7925bebeef48"), looks := false }, kinds := [], alts := [], laidByText := true, laidKinds := [.data], laidTests := true, laidLooks := .later }
def PacketKeysCardSaid : Prop := Claim7.holds Tryd.pinned (.plain (OpenSpec.ofChange packetKeysSpec)) packetKeysCard

/-- THE TIED CARD OF 'isthmuslaw17.PacketBytes'. -/
def packetBytesCard : Claim7 := { stood := { row := packetBytesRow, standIns := [], harness := (true, "88d485e8e0b6a7c0abb9b93f837949f901e8a29a4ecae62afc3e7925bebeef48"), looks := false }, kinds := [], alts := [], laidByText := true, laidKinds := [.data, .data], laidTests := true, laidLooks := .later }
def PacketBytesCardSaid : Prop := Claim7.holds Tryd.pinned (.plain (OpenSpec.ofChange packetBytesSpec)) packetBytesCard

/-- THE SECOND FORM's CARD OF 'isthmuslaw15.ConnKeys'. -/
def connKeysUptoCard : Claim7 := { stood := { row := connKeysUptoRow, standIns := [], harness := (true, "88d485e8e0b6a7c0abb9b93f837949f901e8a29a4ecae62afc3e7925bebeef48"), looks := false }, kinds := [], alts := [], laidByText := true, laidKinds := [.data, .data, .data, .data], laidTests := true, laidLooks := .later }
def ConnKeysUptoCardSaid : Prop := Claim7.holds Tryd.pinned (.plain (OpenSpec.upto connKeysSpec)) connKeysUptoCard

/-- THE SECOND FORM's CARD OF 'isthmuslaw15.ConnBytes'. -/
def connBytesUptoCard : Claim7 := { stood := { row := connBytesUptoRow, standIns := [], harness := (true, "88d485e8e0b6a7c0abb9b93f837949f901e8a29a4ecae62afc3e7925bebeef48"), looks := false }, kinds := [], alts := [], laidByText := true, laidKinds := [.data, .data, .data, .data], laidTests := true, laidLooks := .later }
def ConnBytesUptoCardSaid : Prop := Claim7.holds Tryd.pinned (.plain (OpenSpec.upto connBytesSpec)) connBytesUptoCard

/-- THE SECOND FORM's CARD OF 'isthmuslaw16.ChansKeys'. -/
def chansKeysUptoCard : Claim7 := { stood := { row := chansKeysUptoRow, standIns := [], harness := (true, "88d485e8e0b6a7c0abb9b93f837949f901e8a29a4ecae62afc3e7925bebeef48"), looks := false }, kinds := [], alts := [], laidByText := true, laidKinds := [.data, .data, .data], laidTests := true, laidLooks := .later }
def ChansKeysUptoCardSaid : Prop := Claim7.holds Tryd.pinned (.plain (OpenSpec.upto chansKeysSpec)) chansKeysUptoCard

/-- THE SECOND FORM's CARD OF 'isthmuslaw17.PacketKeys'. -/
def packetKeysUptoCard : Claim7 := { stood := { row := packetKeysUptoRow, standIns := [], harness := (true, "88d485e8e0b6a7c0abb9b93f837949f901e8a29a4ecae62afc3e7925bebeef48"), looks := false }, kinds := [], alts := [], laidByText := true, laidKinds := [.data], laidTests := true, laidLooks := .later }
def PacketKeysUptoCardSaid : Prop := Claim7.holds Tryd.pinned (.plain (OpenSpec.upto packetKeysSpec)) packetKeysUptoCard

/-- THE SECOND FORM's CARD OF 'isthmuslaw17.PacketBytes'. -/
def packetBytesUptoCard : Claim7 := { stood := { row := packetBytesUptoRow, standIns := [], harness := (true, "88d485e8e0b6a7c0abb9b93f837949f901e8a29a4ecae62afc3e7925bebeef48"), looks := false }, kinds := [], alts := [], laidByText := true, laidKinds := [.data, .data], laidTests := true, laidLooks := .later }
def PacketBytesUptoCardSaid : Prop := Claim7.holds Tryd.pinned (.plain (OpenSpec.upto packetBytesSpec)) packetBytesUptoCard
end Rows
end Go.Proofs.YtlkkjnacolmmpaaDoor
