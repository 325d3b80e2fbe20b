/-
  NARROWER THAN 'FOR EVERY INPUT', by the rows' own cells (each row's printed sentence says how): PickWeb: laid · PickCustom: laid · PickRefused: laid · PickOrder: laid · PickMore: laid.
  DERIVED. THE GIVEN ROWS OF THIS SEAT. 5 by the template 'for every input the law returns true; each argument reads behind the call as it read before'; 0 by the template 'total and deterministic' (their statements: YtmgdkdohadaknaaDoorTotals.lean).
  GIVEN WITH THE SEED: the statements are not yours to turn. If you find one false, say at which input.
  Laid BY PROGRAM, IN A SANDBOX (cutbox-rows.mjs): the forced cells as the released guide's own fill.sh prints them over the translation 857240c8a2ef4076… (all of the seat's roots in one cut). By AI agents, Wed Nov 11 2026. No macro, syntax, notation, axiom, sorry.
-/
import Derived.Test.YtmgdkdohadaknaaDoorChecked
import GoSem.Claim
import GoSem.ClaimJoined
import GoSem.ClaimMapViews
import Derived.JoinedTies
import Derived.KernelRfl
namespace Go.Proofs.YtmgdkdohadaknaaDoor
/- THE CELL 'sum', in the pinned program and in every row, IS THE sha256 OF THE DUMP (.gsa) THAT YtmgdkdohadaknaaDoorProg.lean LOADS. Nothing in Lean hashes anything: it is a label: what it is worth is what the hold of that sum in a sandbox is worth. -/
noncomputable def Tryd.pinned : Pinned := { name := "ytmgdkdohadaknaadoor", sum := "857240c8a2ef40768cc40ec86e5c299cd6630021753a1c17807c216b29698966", checked := Tryd.checked }
namespace Rows
def none {H : Type} : Left H := { results := [], args := [] }

/- WHAT THE LISTED PACKAGE-LEVEL VARIABLES READ AS WHEN THE CALL BEGINS. Each datum BY PROGRAM (the guide's laid-datum.mjs) off the statement by which the dump's own 'gosem.cut.vars' lays the variable. In a bare row this is a premise. The card (YtmgdkdohadaknaaDoorCards.lean) ties it to the program's text. -/
def laid_waybill_pick_kinds {H : Type} : DataW H := .agg [.lit (.string []), .lit (.string [114, 101, 106, 101, 99, 116]), .lit (.string [98, 114, 111, 119, 115, 101, 114]), .lit (.string [111, 112, 101, 110]), .lit (.string [99, 104, 111, 111, 115, 101])]
def laid_waybill_pick_reasons {H : Type} : DataW H := .agg [.lit (.string []), .lit (.string [117, 114, 108]), .lit (.string [117, 115, 101, 114]), .lit (.string [104, 111, 115, 116]), .lit (.string [110, 111, 98, 111, 100, 121]), .lit (.string [117, 110, 107, 110, 111, 119, 110]), .lit (.string [114, 117, 108, 101, 115]), .lit (.string [111, 102, 102]), .lit (.string [111, 110, 101]), .lit (.string [115, 101, 118, 101, 114, 97, 108])]

/-- 'waybilllaw28.PickWeb': WHATEVER THE INPUT: true; the input reads as it did. -/
def pickWebSpec : ChangeSpec := { name := "pickWeb", fn := fun _ => fun
  | [d] => { results := [.lit (.bool true)], args := [d] }
  | _ => none }
def pickWebRow : OpenClaim := { program := "ytmgdkdohadaknaadoor", sum := "857240c8a2ef40768cc40ec86e5c299cd6630021753a1c17807c216b29698966", func := "waybill/waybilllaw28.PickWeb", spec := "pickWeb", inPlace := ["internal/abi.NoEscape"], unfollowed := true, recurses := true, named := ["waybill/pick.kinds", "waybill/pick.reasons"], apart := false, laid := [("waybill/pick.kinds", laid_waybill_pick_kinds), ("waybill/pick.reasons", laid_waybill_pick_reasons)] }
def PickWebSaid : Prop := pickWebRow.holds Tryd.pinned (OpenSpec.ofChange pickWebSpec)

/-- ITS FALSE NEIGHBOUR: 'it returns false'. Refute it at one input. -/
def pickWebWrong : ChangeSpec := { name := "pickWeb", fn := fun _ => fun
  | [d] => { results := [.lit (.bool false)], args := [d] }
  | _ => none }
def PickWebWrongFalsely : Prop := pickWebRow.holds Tryd.pinned (OpenSpec.ofChange pickWebWrong)

/-- 'waybilllaw28.PickCustom': WHATEVER THE INPUT: true; the input reads as it did. -/
def pickCustomSpec : ChangeSpec := { name := "pickCustom", fn := fun _ => fun
  | [d1, d2] => { results := [.lit (.bool true)], args := [d1, d2] }
  | _ => none }
def pickCustomRow : OpenClaim := { program := "ytmgdkdohadaknaadoor", sum := "857240c8a2ef40768cc40ec86e5c299cd6630021753a1c17807c216b29698966", func := "waybill/waybilllaw28.PickCustom", spec := "pickCustom", inPlace := ["internal/abi.NoEscape"], named := ["waybill/pick.kinds", "waybill/pick.reasons"], apart := false, laid := [("waybill/pick.kinds", laid_waybill_pick_kinds), ("waybill/pick.reasons", laid_waybill_pick_reasons)] }
def PickCustomSaid : Prop := pickCustomRow.holds Tryd.pinned (OpenSpec.ofChange pickCustomSpec)

/-- ITS FALSE NEIGHBOUR: 'it returns false'. Refute it at one input. -/
def pickCustomWrong : ChangeSpec := { name := "pickCustom", fn := fun _ => fun
  | [d1, d2] => { results := [.lit (.bool false)], args := [d1, d2] }
  | _ => none }
def PickCustomWrongFalsely : Prop := pickCustomRow.holds Tryd.pinned (OpenSpec.ofChange pickCustomWrong)

/-- 'waybilllaw28.PickRefused': WHATEVER THE INPUT: true; the input reads as it did. -/
def pickRefusedSpec : ChangeSpec := { name := "pickRefused", fn := fun _ => fun
  | [d1, d2, d3, d4] => { results := [.lit (.bool true)], args := [d1, d2, d3, d4] }
  | _ => none }
def pickRefusedRow : OpenClaim := { program := "ytmgdkdohadaknaadoor", sum := "857240c8a2ef40768cc40ec86e5c299cd6630021753a1c17807c216b29698966", func := "waybill/waybilllaw28.PickRefused", spec := "pickRefused", inPlace := ["internal/abi.NoEscape", "internal/reflectlite.TypeOf"], unfollowed := true, recurses := true, named := ["waybill/pick.kinds", "waybill/pick.reasons"], apart := false, laid := [("waybill/pick.kinds", laid_waybill_pick_kinds), ("waybill/pick.reasons", laid_waybill_pick_reasons)] }
def PickRefusedSaid : Prop := pickRefusedRow.holds Tryd.pinned (OpenSpec.ofChange pickRefusedSpec)

/-- ITS FALSE NEIGHBOUR: 'it returns false'. Refute it at one input. -/
def pickRefusedWrong : ChangeSpec := { name := "pickRefused", fn := fun _ => fun
  | [d1, d2, d3, d4] => { results := [.lit (.bool false)], args := [d1, d2, d3, d4] }
  | _ => none }
def PickRefusedWrongFalsely : Prop := pickRefusedRow.holds Tryd.pinned (OpenSpec.ofChange pickRefusedWrong)

/-- 'waybilllaw28.PickOrder': WHATEVER THE INPUT: true; the input reads as it did. -/
def pickOrderSpec : ChangeSpec := { name := "pickOrder", fn := fun _ => fun
  | [d] => { results := [.lit (.bool true)], args := [d] }
  | _ => none }
def pickOrderRow : OpenClaim := { program := "ytmgdkdohadaknaadoor", sum := "857240c8a2ef40768cc40ec86e5c299cd6630021753a1c17807c216b29698966", func := "waybill/waybilllaw28.PickOrder", spec := "pickOrder", inPlace := ["internal/abi.NoEscape"], unfollowed := true, recurses := true, named := ["waybill/pick.kinds", "waybill/pick.reasons"], apart := false, laid := [("waybill/pick.kinds", laid_waybill_pick_kinds), ("waybill/pick.reasons", laid_waybill_pick_reasons)] }
def PickOrderSaid : Prop := pickOrderRow.holds Tryd.pinned (OpenSpec.ofChange pickOrderSpec)

/-- ITS FALSE NEIGHBOUR: 'it returns false'. Refute it at one input. -/
def pickOrderWrong : ChangeSpec := { name := "pickOrder", fn := fun _ => fun
  | [d] => { results := [.lit (.bool false)], args := [d] }
  | _ => none }
def PickOrderWrongFalsely : Prop := pickOrderRow.holds Tryd.pinned (OpenSpec.ofChange pickOrderWrong)

/-- 'waybilllaw28.PickMore': WHATEVER THE INPUT: true; the input reads as it did. -/
def pickMoreSpec : ChangeSpec := { name := "pickMore", fn := fun _ => fun
  | [d1, d2] => { results := [.lit (.bool true)], args := [d1, d2] }
  | _ => none }
def pickMoreRow : OpenClaim := { program := "ytmgdkdohadaknaadoor", sum := "857240c8a2ef40768cc40ec86e5c299cd6630021753a1c17807c216b29698966", func := "waybill/waybilllaw28.PickMore", spec := "pickMore", inPlace := ["internal/abi.NoEscape"], unfollowed := true, recurses := true, named := ["waybill/pick.kinds", "waybill/pick.reasons"], apart := false, laid := [("waybill/pick.kinds", laid_waybill_pick_kinds), ("waybill/pick.reasons", laid_waybill_pick_reasons)] }
def PickMoreSaid : Prop := pickMoreRow.holds Tryd.pinned (OpenSpec.ofChange pickMoreSpec)

/-- ITS FALSE NEIGHBOUR: 'it returns false'. Refute it at one input. -/
def pickMoreWrong : ChangeSpec := { name := "pickMore", fn := fun _ => fun
  | [d1, d2] => { results := [.lit (.bool false)], args := [d1, d2] }
  | _ => none }
def PickMoreWrongFalsely : Prop := pickMoreRow.holds Tryd.pinned (OpenSpec.ofChange pickMoreWrong)

/- THE SECOND FORM. 'bulk': how many values and letters a reading holds, each counted each time it is reached (what is shared counts as often as it is met; a slice's spare places count too). A statement '..UptoSaid' is the law's where the arguments, and the package variables that the reading takes, are together of bulk at most 1048576: NARROWER than '..Said'. Prove '..Said' where nothing that the law and all that it calls make is longer than what came in: it says more and counts as full. Else prove '..UptoSaid'. A law counts once. -/
mutual
def uptoBulk {H : Type} : DataW H → Nat
  | .lit (.string bytes) => bytes.length + 1
  | .lit _ => 1
  | .nil => 1
  | .ptr d => uptoBulk d + 1
  | .slice elems spare => uptoBulkAll elems + uptoBulkAll spare + 1
  | .agg parts => uptoBulkAll parts + 1
  | .iface _ d => uptoBulk d + 1
  | .map entries => uptoBulkEntries entries + 1
  | .held _ => 1
def uptoBulkAll {H : Type} : List (DataW H) → Nat
  | [] => 0
  | d :: r => uptoBulk d + uptoBulkAll r
def uptoBulkEntries {H : Type} : List (Lit × DataW H) → Nat
  | [] => 0
  | x :: r => uptoBulkEntry x + uptoBulkEntries r
def uptoBulkEntry {H : Type} : Lit × DataW H → Nat
  | (.string bytes, d) => bytes.length + uptoBulk d + 1
  | (_, d) => uptoBulk d + 1
 end
def uptoSmall : (H : Type) → List (DataW H) → Bool := fun _ ds => decide (uptoBulkAll ds ≤ 1048576)
def OpenSpec.upto (s : _root_.Go.ChangeSpec) : _root_.Go.OpenSpec := { _root_.Go.OpenSpec.ofChange s with cond := some uptoSmall }

/-- 'waybilllaw28.PickWeb', WHERE WHAT IT READS IS OF BULK AT MOST 1048576: true; the input reads as it did. -/
def pickWebUptoRow : OpenClaim := { program := "ytmgdkdohadaknaadoor", sum := "857240c8a2ef40768cc40ec86e5c299cd6630021753a1c17807c216b29698966", func := "waybill/waybilllaw28.PickWeb", spec := "pickWeb", inPlace := ["internal/abi.NoEscape"], unfollowed := true, recurses := true, named := ["waybill/pick.kinds", "waybill/pick.reasons"], apart := false, laid := [("waybill/pick.kinds", laid_waybill_pick_kinds), ("waybill/pick.reasons", laid_waybill_pick_reasons)], narrowed := true }
def PickWebUptoSaid : Prop := pickWebUptoRow.holds Tryd.pinned (OpenSpec.upto pickWebSpec)

/-- 'waybilllaw28.PickCustom', WHERE WHAT IT READS IS OF BULK AT MOST 1048576: true; the input reads as it did. -/
def pickCustomUptoRow : OpenClaim := { program := "ytmgdkdohadaknaadoor", sum := "857240c8a2ef40768cc40ec86e5c299cd6630021753a1c17807c216b29698966", func := "waybill/waybilllaw28.PickCustom", spec := "pickCustom", inPlace := ["internal/abi.NoEscape"], named := ["waybill/pick.kinds", "waybill/pick.reasons"], apart := false, laid := [("waybill/pick.kinds", laid_waybill_pick_kinds), ("waybill/pick.reasons", laid_waybill_pick_reasons)], narrowed := true }
def PickCustomUptoSaid : Prop := pickCustomUptoRow.holds Tryd.pinned (OpenSpec.upto pickCustomSpec)

/-- 'waybilllaw28.PickRefused', WHERE WHAT IT READS IS OF BULK AT MOST 1048576: true; the input reads as it did. -/
def pickRefusedUptoRow : OpenClaim := { program := "ytmgdkdohadaknaadoor", sum := "857240c8a2ef40768cc40ec86e5c299cd6630021753a1c17807c216b29698966", func := "waybill/waybilllaw28.PickRefused", spec := "pickRefused", inPlace := ["internal/abi.NoEscape", "internal/reflectlite.TypeOf"], unfollowed := true, recurses := true, named := ["waybill/pick.kinds", "waybill/pick.reasons"], apart := false, laid := [("waybill/pick.kinds", laid_waybill_pick_kinds), ("waybill/pick.reasons", laid_waybill_pick_reasons)], narrowed := true }
def PickRefusedUptoSaid : Prop := pickRefusedUptoRow.holds Tryd.pinned (OpenSpec.upto pickRefusedSpec)

/-- 'waybilllaw28.PickOrder', WHERE WHAT IT READS IS OF BULK AT MOST 1048576: true; the input reads as it did. -/
def pickOrderUptoRow : OpenClaim := { program := "ytmgdkdohadaknaadoor", sum := "857240c8a2ef40768cc40ec86e5c299cd6630021753a1c17807c216b29698966", func := "waybill/waybilllaw28.PickOrder", spec := "pickOrder", inPlace := ["internal/abi.NoEscape"], unfollowed := true, recurses := true, named := ["waybill/pick.kinds", "waybill/pick.reasons"], apart := false, laid := [("waybill/pick.kinds", laid_waybill_pick_kinds), ("waybill/pick.reasons", laid_waybill_pick_reasons)], narrowed := true }
def PickOrderUptoSaid : Prop := pickOrderUptoRow.holds Tryd.pinned (OpenSpec.upto pickOrderSpec)

/-- 'waybilllaw28.PickMore', WHERE WHAT IT READS IS OF BULK AT MOST 1048576: true; the input reads as it did. -/
def pickMoreUptoRow : OpenClaim := { program := "ytmgdkdohadaknaadoor", sum := "857240c8a2ef40768cc40ec86e5c299cd6630021753a1c17807c216b29698966", func := "waybill/waybilllaw28.PickMore", spec := "pickMore", inPlace := ["internal/abi.NoEscape"], unfollowed := true, recurses := true, named := ["waybill/pick.kinds", "waybill/pick.reasons"], apart := false, laid := [("waybill/pick.kinds", laid_waybill_pick_kinds), ("waybill/pick.reasons", laid_waybill_pick_reasons)], narrowed := true }
def PickMoreUptoSaid : Prop := pickMoreUptoRow.holds Tryd.pinned (OpenSpec.upto pickMoreSpec)

end Rows
end Go.Proofs.YtmgdkdohadaknaaDoor
