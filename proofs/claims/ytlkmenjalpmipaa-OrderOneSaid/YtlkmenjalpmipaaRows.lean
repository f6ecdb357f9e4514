/-
  No cell of these rows narrows 'for every input' (looked for: loops, veiled, ifaces, maps, wideKeys, modest, calm, conditions, laid).
  DERIVED. THE GIVEN ROWS OF THIS SEAT. 5 by the template 'for every input the law returns true; each argument reads behind the call as it read before'; 0 by the template 'total and deterministic' (their statements: YtlkmenjalpmipaaTotals.lean).
  GIVEN WITH THE SEED: the statements are not yours to turn. If you find one false, say at which input.
  Laid BY PROGRAM, IN A SANDBOX (cutbox-rows.mjs): the forced cells as the released guide's own fill.sh prints them over the translation 647b626a06fcaefe… (all of the seat's roots in one cut). By AI agents, Wed Nov 11 2026. No macro, syntax, notation, axiom, sorry.
-/
import Derived.Test.YtlkmenjalpmipaaChecked
import GoSem.Claim
import GoSem.ClaimJoined
import GoSem.ClaimMapViews
import Derived.JoinedTies
import Derived.KernelRfl
namespace Go.Proofs.Ytlkmenjalpmipaa
/- THE CELL 'sum', in the pinned program and in every row, IS THE sha256 OF THE DUMP (.gsa) THAT YtlkmenjalpmipaaProg.lean LOADS. Nothing in Lean hashes anything: it is a label: what it is worth is what the hold of that sum in a sandbox is worth. -/
noncomputable def Try.pinned : Pinned := { name := "ytlkmenjalpmipaa", sum := "647b626a06fcaefe15a1d82207172f511468268586ac03e2923fd7ea5f756aad", checked := Try.checked }
namespace Rows
def none {H : Type} : Left H := { results := [], args := [] }

/-- 'consortlaw14.OrderPlays': WHATEVER THE INPUT: true; the input reads as it did. -/
def orderPlaysSpec : ChangeSpec := { name := "orderPlays", fn := fun _ => fun
  | [d1, d2, d3, d4] => { results := [.lit (.bool true)], args := [d1, d2, d3, d4] }
  | _ => none }
def orderPlaysRow : OpenClaim := { program := "ytlkmenjalpmipaa", sum := "647b626a06fcaefe15a1d82207172f511468268586ac03e2923fd7ea5f756aad", func := "consort/consortlaw14.OrderPlays", spec := "orderPlays", unfollowed := true, recurses := true, apart := false }
def OrderPlaysSaid : Prop := orderPlaysRow.holds Try.pinned (OpenSpec.ofChange orderPlaysSpec)

/-- ITS FALSE NEIGHBOUR: 'it returns false'. Refute it at one input. -/
def orderPlaysWrong : ChangeSpec := { name := "orderPlays", fn := fun _ => fun
  | [d1, d2, d3, d4] => { results := [.lit (.bool false)], args := [d1, d2, d3, d4] }
  | _ => none }
def OrderPlaysWrongFalsely : Prop := orderPlaysRow.holds Try.pinned (OpenSpec.ofChange orderPlaysWrong)

/-- 'consortlaw14.OrderOne': WHATEVER THE INPUT: true; the input reads as it did. -/
def orderOneSpec : ChangeSpec := { name := "orderOne", fn := fun _ => fun
  | [d1, d2, d3, d4] => { results := [.lit (.bool true)], args := [d1, d2, d3, d4] }
  | _ => none }
def orderOneRow : OpenClaim := { program := "ytlkmenjalpmipaa", sum := "647b626a06fcaefe15a1d82207172f511468268586ac03e2923fd7ea5f756aad", func := "consort/consortlaw14.OrderOne", spec := "orderOne", unfollowed := true, recurses := true, apart := false }
def OrderOneSaid : Prop := orderOneRow.holds Try.pinned (OpenSpec.ofChange orderOneSpec)

/-- ITS FALSE NEIGHBOUR: 'it returns false'. Refute it at one input. -/
def orderOneWrong : ChangeSpec := { name := "orderOne", fn := fun _ => fun
  | [d1, d2, d3, d4] => { results := [.lit (.bool false)], args := [d1, d2, d3, d4] }
  | _ => none }
def OrderOneWrongFalsely : Prop := orderOneRow.holds Try.pinned (OpenSpec.ofChange orderOneWrong)

/-- 'consortlaw14.OrderRises': WHATEVER THE INPUT: true; the input reads as it did. -/
def orderRisesSpec : ChangeSpec := { name := "orderRises", fn := fun _ => fun
  | [d1, d2, d3] => { results := [.lit (.bool true)], args := [d1, d2, d3] }
  | _ => none }
def orderRisesRow : OpenClaim := { program := "ytlkmenjalpmipaa", sum := "647b626a06fcaefe15a1d82207172f511468268586ac03e2923fd7ea5f756aad", func := "consort/consortlaw14.OrderRises", spec := "orderRises", unfollowed := true, recurses := true, apart := false }
def OrderRisesSaid : Prop := orderRisesRow.holds Try.pinned (OpenSpec.ofChange orderRisesSpec)

/-- ITS FALSE NEIGHBOUR: 'it returns false'. Refute it at one input. -/
def orderRisesWrong : ChangeSpec := { name := "orderRises", fn := fun _ => fun
  | [d1, d2, d3] => { results := [.lit (.bool false)], args := [d1, d2, d3] }
  | _ => none }
def OrderRisesWrongFalsely : Prop := orderRisesRow.holds Try.pinned (OpenSpec.ofChange orderRisesWrong)

/-- 'consortlaw14.OrderCopies': WHATEVER THE INPUT: true; the input reads as it did. -/
def orderCopiesSpec : ChangeSpec := { name := "orderCopies", fn := fun _ => fun
  | [d1, d2, d3] => { results := [.lit (.bool true)], args := [d1, d2, d3] }
  | _ => none }
def orderCopiesRow : OpenClaim := { program := "ytlkmenjalpmipaa", sum := "647b626a06fcaefe15a1d82207172f511468268586ac03e2923fd7ea5f756aad", func := "consort/consortlaw14.OrderCopies", spec := "orderCopies", unfollowed := true, recurses := true, apart := false }
def OrderCopiesSaid : Prop := orderCopiesRow.holds Try.pinned (OpenSpec.ofChange orderCopiesSpec)

/-- ITS FALSE NEIGHBOUR: 'it returns false'. Refute it at one input. -/
def orderCopiesWrong : ChangeSpec := { name := "orderCopies", fn := fun _ => fun
  | [d1, d2, d3] => { results := [.lit (.bool false)], args := [d1, d2, d3] }
  | _ => none }
def OrderCopiesWrongFalsely : Prop := orderCopiesRow.holds Try.pinned (OpenSpec.ofChange orderCopiesWrong)

/-- 'consortlaw14.OrderTrims': WHATEVER THE INPUT: true; the input reads as it did. -/
def orderTrimsSpec : ChangeSpec := { name := "orderTrims", fn := fun _ => fun
  | [d1, d2] => { results := [.lit (.bool true)], args := [d1, d2] }
  | _ => none }
def orderTrimsRow : OpenClaim := { program := "ytlkmenjalpmipaa", sum := "647b626a06fcaefe15a1d82207172f511468268586ac03e2923fd7ea5f756aad", func := "consort/consortlaw14.OrderTrims", spec := "orderTrims", unfollowed := true, recurses := true, apart := false }
def OrderTrimsSaid : Prop := orderTrimsRow.holds Try.pinned (OpenSpec.ofChange orderTrimsSpec)

/-- ITS FALSE NEIGHBOUR: 'it returns false'. Refute it at one input. -/
def orderTrimsWrong : ChangeSpec := { name := "orderTrims", fn := fun _ => fun
  | [d1, d2] => { results := [.lit (.bool false)], args := [d1, d2] }
  | _ => none }
def OrderTrimsWrongFalsely : Prop := orderTrimsRow.holds Try.pinned (OpenSpec.ofChange orderTrimsWrong)

/- THE SECOND FORM. 'bulk': how many values and letters a reading holds, each counted each time it is reached (what is shared counts as often as it is met; a slice's spare places count too). A statement '..UptoSaid' is the law's where the arguments, and the package variables that the reading takes, are together of bulk at most 1048576: NARROWER than '..Said'. Prove '..Said' where nothing that the law and all that it calls make is longer than what came in: it says more and counts as full. Else prove '..UptoSaid'. A law counts once. -/
mutual
def uptoBulk {H : Type} : DataW H → Nat
  | .lit (.string bytes) => bytes.length + 1
  | .lit _ => 1
  | .nil => 1
  | .ptr d => uptoBulk d + 1
  | .slice elems spare => uptoBulkAll elems + uptoBulkAll spare + 1
  | .agg parts => uptoBulkAll parts + 1
  | .iface _ d => uptoBulk d + 1
  | .map entries => uptoBulkEntries entries + 1
  | .held _ => 1
def uptoBulkAll {H : Type} : List (DataW H) → Nat
  | [] => 0
  | d :: r => uptoBulk d + uptoBulkAll r
def uptoBulkEntries {H : Type} : List (Lit × DataW H) → Nat
  | [] => 0
  | x :: r => uptoBulkEntry x + uptoBulkEntries r
def uptoBulkEntry {H : Type} : Lit × DataW H → Nat
  | (.string bytes, d) => bytes.length + uptoBulk d + 1
  | (_, d) => uptoBulk d + 1
 end
def uptoSmall : (H : Type) → List (DataW H) → Bool := fun _ ds => decide (uptoBulkAll ds ≤ 1048576)
def OpenSpec.upto (s : _root_.Go.ChangeSpec) : _root_.Go.OpenSpec := { _root_.Go.OpenSpec.ofChange s with cond := some uptoSmall }

/-- 'consortlaw14.OrderPlays', WHERE WHAT IT READS IS OF BULK AT MOST 1048576: true; the input reads as it did. -/
def orderPlaysUptoRow : OpenClaim := { program := "ytlkmenjalpmipaa", sum := "647b626a06fcaefe15a1d82207172f511468268586ac03e2923fd7ea5f756aad", func := "consort/consortlaw14.OrderPlays", spec := "orderPlays", unfollowed := true, recurses := true, apart := false, narrowed := true }
def OrderPlaysUptoSaid : Prop := orderPlaysUptoRow.holds Try.pinned (OpenSpec.upto orderPlaysSpec)

/-- 'consortlaw14.OrderOne', WHERE WHAT IT READS IS OF BULK AT MOST 1048576: true; the input reads as it did. -/
def orderOneUptoRow : OpenClaim := { program := "ytlkmenjalpmipaa", sum := "647b626a06fcaefe15a1d82207172f511468268586ac03e2923fd7ea5f756aad", func := "consort/consortlaw14.OrderOne", spec := "orderOne", unfollowed := true, recurses := true, apart := false, narrowed := true }
def OrderOneUptoSaid : Prop := orderOneUptoRow.holds Try.pinned (OpenSpec.upto orderOneSpec)

/-- 'consortlaw14.OrderRises', WHERE WHAT IT READS IS OF BULK AT MOST 1048576: true; the input reads as it did. -/
def orderRisesUptoRow : OpenClaim := { program := "ytlkmenjalpmipaa", sum := "647b626a06fcaefe15a1d82207172f511468268586ac03e2923fd7ea5f756aad", func := "consort/consortlaw14.OrderRises", spec := "orderRises", unfollowed := true, recurses := true, apart := false, narrowed := true }
def OrderRisesUptoSaid : Prop := orderRisesUptoRow.holds Try.pinned (OpenSpec.upto orderRisesSpec)

/-- 'consortlaw14.OrderCopies', WHERE WHAT IT READS IS OF BULK AT MOST 1048576: true; the input reads as it did. -/
def orderCopiesUptoRow : OpenClaim := { program := "ytlkmenjalpmipaa", sum := "647b626a06fcaefe15a1d82207172f511468268586ac03e2923fd7ea5f756aad", func := "consort/consortlaw14.OrderCopies", spec := "orderCopies", unfollowed := true, recurses := true, apart := false, narrowed := true }
def OrderCopiesUptoSaid : Prop := orderCopiesUptoRow.holds Try.pinned (OpenSpec.upto orderCopiesSpec)

/-- 'consortlaw14.OrderTrims', WHERE WHAT IT READS IS OF BULK AT MOST 1048576: true; the input reads as it did. -/
def orderTrimsUptoRow : OpenClaim := { program := "ytlkmenjalpmipaa", sum := "647b626a06fcaefe15a1d82207172f511468268586ac03e2923fd7ea5f756aad", func := "consort/consortlaw14.OrderTrims", spec := "orderTrims", unfollowed := true, recurses := true, apart := false, narrowed := true }
def OrderTrimsUptoSaid : Prop := orderTrimsUptoRow.holds Try.pinned (OpenSpec.upto orderTrimsSpec)

end Rows
end Go.Proofs.Ytlkmenjalpmipaa
