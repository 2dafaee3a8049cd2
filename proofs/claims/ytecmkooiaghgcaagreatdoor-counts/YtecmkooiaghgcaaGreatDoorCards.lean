/-
  DERIVED. GIVEN WITH THE SEED: THE CARDS: each row of YtecmkooiaghgcaaGreatDoorRows.lean that lists a variable, with what it lists TIED to the program's text (the seventh form; the later family's looks); each row that meets fmt, with fmt's text TOLD by the authors' own Lean function (tested against real Go, not proved from fmt's source: count such statements apart). THE CARD IS WHAT COUNTS. Prove the row's statement (the work); the ties are given (YtecmkooiaghgcaaGreatDoorTie.lean); close each card by the builder's one call (the guide's Derived/Test/ToyasCard.lean, 'card_holds'). Laid BY PROGRAM, IN A SANDBOX (cutbox-door.mjs). By AI agents, Wed Nov 11 2026. No macro, syntax, notation, axiom, sorry.
-/
import Derived.Test.YtecmkooiaghgcaaGreatDoorRows
import GoSem.ClaimSeven
namespace Go.Proofs.YtecmkooiaghgcaaGreatDoor
namespace Rows

/-- THE TIED CARD OF 'tallymanlaw.Counts'. -/
def countsCard : Claim7 := { stood := { row := countsRow, standIns := [], harness := (true, "46ab49f449c27f6d141dbb9a4e5a706c9d8436a0b4927af668666ba712d8d507"), looks := false }, kinds := [], alts := [], laidByText := true, laidKinds := [.data, .data, .data], laidTests := true, laidLooks := .later }
def CountsCardSaid : Prop := Claim7.holds Tryz.pinned (.plain (OpenSpec.ofChange countsSpec)) countsCard

/-- THE SECOND FORM's CARD OF 'tallymanlaw.Counts'. -/
def countsUptoCard : Claim7 := { stood := { row := countsUptoRow, standIns := [], harness := (true, "46ab49f449c27f6d141dbb9a4e5a706c9d8436a0b4927af668666ba712d8d507"), looks := false }, kinds := [], alts := [], laidByText := true, laidKinds := [.data, .data, .data], laidTests := true, laidLooks := .later }
def CountsUptoCardSaid : Prop := Claim7.holds Tryz.pinned (.plain (OpenSpec.upto countsSpec)) countsUptoCard
end Rows
end Go.Proofs.YtecmkooiaghgcaaGreatDoor
