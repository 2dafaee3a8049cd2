/-
  DERIVED. GIVEN WITH THE SEED: THE CARDS: each row of YtcfdemhokbddiaaGreatDoorRows.lean that lists a variable, with what it lists TIED to the program's text (the seventh form; the later family's looks); each row that meets fmt, with fmt's text TOLD by the authors' own Lean function (tested against real Go, not proved from fmt's source: count such statements apart). THE CARD IS WHAT COUNTS. Prove the row's statement (the work); the ties are given (YtcfdemhokbddiaaGreatDoorTie.lean); close each card by the builder's one call (the guide's Derived/Test/ToyasCard.lean, 'card_holds'). Laid BY PROGRAM, IN A SANDBOX (cutbox-door.mjs). By AI agents, Wed Nov 11 2026. No macro, syntax, notation, axiom, sorry.
-/
import Derived.Test.YtcfdemhokbddiaaGreatDoorRows
import GoSem.ClaimSeven
namespace Go.Proofs.YtcfdemhokbddiaaGreatDoor
namespace Rows

/-- THE TIED CARD OF 'tallymanlaw.Counts'. -/
def countsCard : Claim7 := { stood := { row := countsRow, standIns := [], harness := (true, "6db8fa3ce65aab3169fd4a612c524eed7557cec8136c68a08ba05704f6ec3c20"), looks := false }, kinds := [], alts := [], laidByText := true, laidKinds := [.data, .data, .data], laidTests := true, laidLooks := .later }
def CountsCardSaid : Prop := Claim7.holds Tryz.pinned (.plain (OpenSpec.ofChange countsSpec)) countsCard

/-- THE TIED CARD OF 'tallymanlaw.All'. -/
def allCard : Claim7 := { stood := { row := allRow, standIns := [], harness := (true, "6db8fa3ce65aab3169fd4a612c524eed7557cec8136c68a08ba05704f6ec3c20"), looks := false }, kinds := [], alts := [], laidByText := true, laidKinds := [.data, .data, .data], laidTests := true, laidLooks := .later }
def AllCardSaid : Prop := Claim7.holds Tryz.pinned (.plain (OpenSpec.ofChange allSpec)) allCard

/-- THE TIED CARD OF 'tallymankeep.Moment'. -/
def momentCard : Claim7 := { stood := { row := momentRow, standIns := [], harness := (true, "6db8fa3ce65aab3169fd4a612c524eed7557cec8136c68a08ba05704f6ec3c20"), looks := false }, kinds := [], alts := [], laidByText := true, laidKinds := [.data, .data, .data], laidTests := true, laidLooks := .later }
def MomentCardSaid : Prop := Claim7.holds Tryz.pinned (.plain (OpenSpec.ofChange momentSpec)) momentCard

/-- THE TIED CARD OF 'tallymankeep.Quiet'. -/
def quietCard : Claim7 := { stood := { row := quietRow, standIns := [], harness := (true, "6db8fa3ce65aab3169fd4a612c524eed7557cec8136c68a08ba05704f6ec3c20"), looks := false }, kinds := [], alts := [], laidByText := true, laidKinds := [.data, .data, .data], laidTests := true, laidLooks := .later }
def QuietCardSaid : Prop := Claim7.holds Tryz.pinned (.plain (OpenSpec.ofChange quietSpec)) quietCard

/-- THE TIED CARD OF 'tallymankeep.Sums'. -/
def sumsCard : Claim7 := { stood := { row := sumsRow, standIns := [], harness := (true, "6db8fa3ce65aab3169fd4a612c524eed7557cec8136c68a08ba05704f6ec3c20"), looks := false }, kinds := [], alts := [], laidByText := true, laidKinds := [.data, .data, .data], laidTests := true, laidLooks := .later }
def SumsCardSaid : Prop := Claim7.holds Tryz.pinned (.plain (OpenSpec.ofChange sumsSpec)) sumsCard

/-- THE TIED CARD OF 'tallymankeep.Shuffled'. -/
def shuffledCard : Claim7 := { stood := { row := shuffledRow, standIns := [], harness := (true, "6db8fa3ce65aab3169fd4a612c524eed7557cec8136c68a08ba05704f6ec3c20"), looks := false }, kinds := [], alts := [], laidByText := true, laidKinds := [.data, .data, .data], laidTests := true, laidLooks := .later }
def ShuffledCardSaid : Prop := Claim7.holds Tryz.pinned (.plain (OpenSpec.ofChange shuffledSpec)) shuffledCard

/-- THE TIED CARD OF 'tallymankeep.Apart'. -/
def apartCard : Claim7 := { stood := { row := apartRow, standIns := [], harness := (true, "6db8fa3ce65aab3169fd4a612c524eed7557cec8136c68a08ba05704f6ec3c20"), looks := false }, kinds := [], alts := [], laidByText := true, laidKinds := [.data, .data, .data], laidTests := true, laidLooks := .later }
def ApartCardSaid : Prop := Claim7.holds Tryz.pinned (.plain (OpenSpec.ofChange apartSpec)) apartCard

/-- THE TIED CARD OF 'tallymankeep.Stays'. -/
def staysCard : Claim7 := { stood := { row := staysRow, standIns := [], harness := (true, "6db8fa3ce65aab3169fd4a612c524eed7557cec8136c68a08ba05704f6ec3c20"), looks := false }, kinds := [], alts := [], laidByText := true, laidKinds := [.data, .data, .data], laidTests := true, laidLooks := .later }
def StaysCardSaid : Prop := Claim7.holds Tryz.pinned (.plain (OpenSpec.ofChange staysSpec)) staysCard

/-- THE SECOND FORM's CARD OF 'tallymanlaw.Counts'. -/
def countsUptoCard : Claim7 := { stood := { row := countsUptoRow, standIns := [], harness := (true, "6db8fa3ce65aab3169fd4a612c524eed7557cec8136c68a08ba05704f6ec3c20"), looks := false }, kinds := [], alts := [], laidByText := true, laidKinds := [.data, .data, .data], laidTests := true, laidLooks := .later }
def CountsUptoCardSaid : Prop := Claim7.holds Tryz.pinned (.plain (OpenSpec.upto countsSpec)) countsUptoCard

/-- THE SECOND FORM's CARD OF 'tallymanlaw.All'. -/
def allUptoCard : Claim7 := { stood := { row := allUptoRow, standIns := [], harness := (true, "6db8fa3ce65aab3169fd4a612c524eed7557cec8136c68a08ba05704f6ec3c20"), looks := false }, kinds := [], alts := [], laidByText := true, laidKinds := [.data, .data, .data], laidTests := true, laidLooks := .later }
def AllUptoCardSaid : Prop := Claim7.holds Tryz.pinned (.plain (OpenSpec.upto allSpec)) allUptoCard

/-- THE SECOND FORM's CARD OF 'tallymankeep.Moment'. -/
def momentUptoCard : Claim7 := { stood := { row := momentUptoRow, standIns := [], harness := (true, "6db8fa3ce65aab3169fd4a612c524eed7557cec8136c68a08ba05704f6ec3c20"), looks := false }, kinds := [], alts := [], laidByText := true, laidKinds := [.data, .data, .data], laidTests := true, laidLooks := .later }
def MomentUptoCardSaid : Prop := Claim7.holds Tryz.pinned (.plain (OpenSpec.upto momentSpec)) momentUptoCard

/-- THE SECOND FORM's CARD OF 'tallymankeep.Quiet'. -/
def quietUptoCard : Claim7 := { stood := { row := quietUptoRow, standIns := [], harness := (true, "6db8fa3ce65aab3169fd4a612c524eed7557cec8136c68a08ba05704f6ec3c20"), looks := false }, kinds := [], alts := [], laidByText := true, laidKinds := [.data, .data, .data], laidTests := true, laidLooks := .later }
def QuietUptoCardSaid : Prop := Claim7.holds Tryz.pinned (.plain (OpenSpec.upto quietSpec)) quietUptoCard

/-- THE SECOND FORM's CARD OF 'tallymankeep.Sums'. -/
def sumsUptoCard : Claim7 := { stood := { row := sumsUptoRow, standIns := [], harness := (true, "6db8fa3ce65aab3169fd4a612c524eed7557cec8136c68a08ba05704f6ec3c20"), looks := false }, kinds := [], alts := [], laidByText := true, laidKinds := [.data, .data, .data], laidTests := true, laidLooks := .later }
def SumsUptoCardSaid : Prop := Claim7.holds Tryz.pinned (.plain (OpenSpec.upto sumsSpec)) sumsUptoCard

/-- THE SECOND FORM's CARD OF 'tallymankeep.Shuffled'. -/
def shuffledUptoCard : Claim7 := { stood := { row := shuffledUptoRow, standIns := [], harness := (true, "6db8fa3ce65aab3169fd4a612c524eed7557cec8136c68a08ba05704f6ec3c20"), looks := false }, kinds := [], alts := [], laidByText := true, laidKinds := [.data, .data, .data], laidTests := true, laidLooks := .later }
def ShuffledUptoCardSaid : Prop := Claim7.holds Tryz.pinned (.plain (OpenSpec.upto shuffledSpec)) shuffledUptoCard

/-- THE SECOND FORM's CARD OF 'tallymankeep.Apart'. -/
def apartUptoCard : Claim7 := { stood := { row := apartUptoRow, standIns := [], harness := (true, "6db8fa3ce65aab3169fd4a612c524eed7557cec8136c68a08ba05704f6ec3c20"), looks := false }, kinds := [], alts := [], laidByText := true, laidKinds := [.data, .data, .data], laidTests := true, laidLooks := .later }
def ApartUptoCardSaid : Prop := Claim7.holds Tryz.pinned (.plain (OpenSpec.upto apartSpec)) apartUptoCard

/-- THE SECOND FORM's CARD OF 'tallymankeep.Stays'. -/
def staysUptoCard : Claim7 := { stood := { row := staysUptoRow, standIns := [], harness := (true, "6db8fa3ce65aab3169fd4a612c524eed7557cec8136c68a08ba05704f6ec3c20"), looks := false }, kinds := [], alts := [], laidByText := true, laidKinds := [.data, .data, .data], laidTests := true, laidLooks := .later }
def StaysUptoCardSaid : Prop := Claim7.holds Tryz.pinned (.plain (OpenSpec.upto staysSpec)) staysUptoCard
end Rows
end Go.Proofs.YtcfdemhokbddiaaGreatDoor
