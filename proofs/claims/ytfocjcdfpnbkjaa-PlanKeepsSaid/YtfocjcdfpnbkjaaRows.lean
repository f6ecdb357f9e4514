/-
  No cell of these rows narrows 'for every input' (looked for: loops, veiled, ifaces, maps, wideKeys, modest, calm, conditions, laid).
  DERIVED. THE GIVEN ROWS OF THIS SEAT. 11 by the template 'for every input the law returns true; each argument reads behind the call as it read before'; 0 by the template 'total and deterministic' (their statements: YtfocjcdfpnbkjaaTotals.lean).
  GIVEN WITH THE SEED: the statements are not yours to turn. If you find one false, say at which input.
  Laid BY PROGRAM, IN A SANDBOX (cutbox-rows.mjs): the forced cells as the released guide's own fill.sh prints them over the translation b5a1156ff45bbed9… (all of the seat's roots in one cut). By AI agents, Wed Nov 11 2026. No macro, syntax, notation, axiom, sorry.
-/
import Derived.Test.YtfocjcdfpnbkjaaChecked
import GoSem.Claim
import GoSem.ClaimJoined
import GoSem.ClaimMapViews
import Derived.JoinedTies
import Derived.KernelRfl
namespace Go.Proofs.Ytfocjcdfpnbkjaa
/- THE CELL 'sum', in the pinned program and in every row, IS THE sha256 OF THE DUMP (.gsa) THAT YtfocjcdfpnbkjaaProg.lean LOADS. Nothing in Lean hashes anything: it is a label: what it is worth is what the hold of that sum in a sandbox is worth. -/
noncomputable def Try.pinned : Pinned := { name := "ytfocjcdfpnbkjaa", sum := "b5a1156ff45bbed9384b69cb71936f2c32465a17fabe11f54e2541da8b02d5a5", checked := Try.checked }
namespace Rows
def none {H : Type} : Left H := { results := [], args := [] }

/-- 'consortlaw14.OrderPlays': WHATEVER THE INPUT: true; the input reads as it did. -/
def orderPlaysSpec : ChangeSpec := { name := "orderPlays", fn := fun _ => fun
  | [d1, d2, d3, d4] => { results := [.lit (.bool true)], args := [d1, d2, d3, d4] }
  | _ => none }
def orderPlaysRow : OpenClaim := { program := "ytfocjcdfpnbkjaa", sum := "b5a1156ff45bbed9384b69cb71936f2c32465a17fabe11f54e2541da8b02d5a5", func := "consort/consortlaw14.OrderPlays", spec := "orderPlays", unfollowed := true, recurses := true, apart := false }
def OrderPlaysSaid : Prop := orderPlaysRow.holds Try.pinned (OpenSpec.ofChange orderPlaysSpec)

/-- ITS FALSE NEIGHBOUR: 'it returns false'. Refute it at one input. -/
def orderPlaysWrong : ChangeSpec := { name := "orderPlays", fn := fun _ => fun
  | [d1, d2, d3, d4] => { results := [.lit (.bool false)], args := [d1, d2, d3, d4] }
  | _ => none }
def OrderPlaysWrongFalsely : Prop := orderPlaysRow.holds Try.pinned (OpenSpec.ofChange orderPlaysWrong)

/-- 'consortlaw14.OrderOne': WHATEVER THE INPUT: true; the input reads as it did. -/
def orderOneSpec : ChangeSpec := { name := "orderOne", fn := fun _ => fun
  | [d1, d2, d3, d4] => { results := [.lit (.bool true)], args := [d1, d2, d3, d4] }
  | _ => none }
def orderOneRow : OpenClaim := { program := "ytfocjcdfpnbkjaa", sum := "b5a1156ff45bbed9384b69cb71936f2c32465a17fabe11f54e2541da8b02d5a5", func := "consort/consortlaw14.OrderOne", spec := "orderOne", unfollowed := true, recurses := true, apart := false }
def OrderOneSaid : Prop := orderOneRow.holds Try.pinned (OpenSpec.ofChange orderOneSpec)

/-- ITS FALSE NEIGHBOUR: 'it returns false'. Refute it at one input. -/
def orderOneWrong : ChangeSpec := { name := "orderOne", fn := fun _ => fun
  | [d1, d2, d3, d4] => { results := [.lit (.bool false)], args := [d1, d2, d3, d4] }
  | _ => none }
def OrderOneWrongFalsely : Prop := orderOneRow.holds Try.pinned (OpenSpec.ofChange orderOneWrong)

/-- 'consortlaw14.OrderRises': WHATEVER THE INPUT: true; the input reads as it did. -/
def orderRisesSpec : ChangeSpec := { name := "orderRises", fn := fun _ => fun
  | [d1, d2, d3] => { results := [.lit (.bool true)], args := [d1, d2, d3] }
  | _ => none }
def orderRisesRow : OpenClaim := { program := "ytfocjcdfpnbkjaa", sum := "b5a1156ff45bbed9384b69cb71936f2c32465a17fabe11f54e2541da8b02d5a5", func := "consort/consortlaw14.OrderRises", spec := "orderRises", unfollowed := true, recurses := true, apart := false }
def OrderRisesSaid : Prop := orderRisesRow.holds Try.pinned (OpenSpec.ofChange orderRisesSpec)

/-- ITS FALSE NEIGHBOUR: 'it returns false'. Refute it at one input. -/
def orderRisesWrong : ChangeSpec := { name := "orderRises", fn := fun _ => fun
  | [d1, d2, d3] => { results := [.lit (.bool false)], args := [d1, d2, d3] }
  | _ => none }
def OrderRisesWrongFalsely : Prop := orderRisesRow.holds Try.pinned (OpenSpec.ofChange orderRisesWrong)

/-- 'consortlaw14.OrderCopies': WHATEVER THE INPUT: true; the input reads as it did. -/
def orderCopiesSpec : ChangeSpec := { name := "orderCopies", fn := fun _ => fun
  | [d1, d2, d3] => { results := [.lit (.bool true)], args := [d1, d2, d3] }
  | _ => none }
def orderCopiesRow : OpenClaim := { program := "ytfocjcdfpnbkjaa", sum := "b5a1156ff45bbed9384b69cb71936f2c32465a17fabe11f54e2541da8b02d5a5", func := "consort/consortlaw14.OrderCopies", spec := "orderCopies", unfollowed := true, recurses := true, apart := false }
def OrderCopiesSaid : Prop := orderCopiesRow.holds Try.pinned (OpenSpec.ofChange orderCopiesSpec)

/-- ITS FALSE NEIGHBOUR: 'it returns false'. Refute it at one input. -/
def orderCopiesWrong : ChangeSpec := { name := "orderCopies", fn := fun _ => fun
  | [d1, d2, d3] => { results := [.lit (.bool false)], args := [d1, d2, d3] }
  | _ => none }
def OrderCopiesWrongFalsely : Prop := orderCopiesRow.holds Try.pinned (OpenSpec.ofChange orderCopiesWrong)

/-- 'consortlaw14.OrderTrims': WHATEVER THE INPUT: true; the input reads as it did. -/
def orderTrimsSpec : ChangeSpec := { name := "orderTrims", fn := fun _ => fun
  | [d1, d2] => { results := [.lit (.bool true)], args := [d1, d2] }
  | _ => none }
def orderTrimsRow : OpenClaim := { program := "ytfocjcdfpnbkjaa", sum := "b5a1156ff45bbed9384b69cb71936f2c32465a17fabe11f54e2541da8b02d5a5", func := "consort/consortlaw14.OrderTrims", spec := "orderTrims", unfollowed := true, recurses := true, apart := false }
def OrderTrimsSaid : Prop := orderTrimsRow.holds Try.pinned (OpenSpec.ofChange orderTrimsSpec)

/-- ITS FALSE NEIGHBOUR: 'it returns false'. Refute it at one input. -/
def orderTrimsWrong : ChangeSpec := { name := "orderTrims", fn := fun _ => fun
  | [d1, d2] => { results := [.lit (.bool false)], args := [d1, d2] }
  | _ => none }
def OrderTrimsWrongFalsely : Prop := orderTrimsRow.holds Try.pinned (OpenSpec.ofChange orderTrimsWrong)

/-- 'consortlaw15.PlanPlans': WHATEVER THE INPUT: true; the input reads as it did. -/
def planPlansSpec : ChangeSpec := { name := "planPlans", fn := fun _ => fun
  | [d1, d2, d3, d4] => { results := [.lit (.bool true)], args := [d1, d2, d3, d4] }
  | _ => none }
def planPlansRow : OpenClaim := { program := "ytfocjcdfpnbkjaa", sum := "b5a1156ff45bbed9384b69cb71936f2c32465a17fabe11f54e2541da8b02d5a5", func := "consort/consortlaw15.PlanPlans", spec := "planPlans", unfollowed := true, recurses := true, apart := false }
def PlanPlansSaid : Prop := planPlansRow.holds Try.pinned (OpenSpec.ofChange planPlansSpec)

/-- ITS FALSE NEIGHBOUR: 'it returns false'. Refute it at one input. -/
def planPlansWrong : ChangeSpec := { name := "planPlans", fn := fun _ => fun
  | [d1, d2, d3, d4] => { results := [.lit (.bool false)], args := [d1, d2, d3, d4] }
  | _ => none }
def PlanPlansWrongFalsely : Prop := planPlansRow.holds Try.pinned (OpenSpec.ofChange planPlansWrong)

/-- 'consortlaw15.PlanKeeps': WHATEVER THE INPUT: true; the input reads as it did. -/
def planKeepsSpec : ChangeSpec := { name := "planKeeps", fn := fun _ => fun
  | [d1, d2, d3] => { results := [.lit (.bool true)], args := [d1, d2, d3] }
  | _ => none }
def planKeepsRow : OpenClaim := { program := "ytfocjcdfpnbkjaa", sum := "b5a1156ff45bbed9384b69cb71936f2c32465a17fabe11f54e2541da8b02d5a5", func := "consort/consortlaw15.PlanKeeps", spec := "planKeeps", unfollowed := true, recurses := true, apart := false }
def PlanKeepsSaid : Prop := planKeepsRow.holds Try.pinned (OpenSpec.ofChange planKeepsSpec)

/-- ITS FALSE NEIGHBOUR: 'it returns false'. Refute it at one input. -/
def planKeepsWrong : ChangeSpec := { name := "planKeeps", fn := fun _ => fun
  | [d1, d2, d3] => { results := [.lit (.bool false)], args := [d1, d2, d3] }
  | _ => none }
def PlanKeepsWrongFalsely : Prop := planKeepsRow.holds Try.pinned (OpenSpec.ofChange planKeepsWrong)

/-- 'consortlaw15.PlanOne': WHATEVER THE INPUT: true; the input reads as it did. -/
def planOneSpec : ChangeSpec := { name := "planOne", fn := fun _ => fun
  | [d1, d2, d3, d4] => { results := [.lit (.bool true)], args := [d1, d2, d3, d4] }
  | _ => none }
def planOneRow : OpenClaim := { program := "ytfocjcdfpnbkjaa", sum := "b5a1156ff45bbed9384b69cb71936f2c32465a17fabe11f54e2541da8b02d5a5", func := "consort/consortlaw15.PlanOne", spec := "planOne", unfollowed := true, recurses := true, apart := false }
def PlanOneSaid : Prop := planOneRow.holds Try.pinned (OpenSpec.ofChange planOneSpec)

/-- ITS FALSE NEIGHBOUR: 'it returns false'. Refute it at one input. -/
def planOneWrong : ChangeSpec := { name := "planOne", fn := fun _ => fun
  | [d1, d2, d3, d4] => { results := [.lit (.bool false)], args := [d1, d2, d3, d4] }
  | _ => none }
def PlanOneWrongFalsely : Prop := planOneRow.holds Try.pinned (OpenSpec.ofChange planOneWrong)

/-- 'consortlaw15.PlanFits': WHATEVER THE INPUT: true; the input reads as it did. -/
def planFitsSpec : ChangeSpec := { name := "planFits", fn := fun _ => fun
  | [d1, d2, d3] => { results := [.lit (.bool true)], args := [d1, d2, d3] }
  | _ => none }
def planFitsRow : OpenClaim := { program := "ytfocjcdfpnbkjaa", sum := "b5a1156ff45bbed9384b69cb71936f2c32465a17fabe11f54e2541da8b02d5a5", func := "consort/consortlaw15.PlanFits", spec := "planFits", unfollowed := true, recurses := true, apart := false }
def PlanFitsSaid : Prop := planFitsRow.holds Try.pinned (OpenSpec.ofChange planFitsSpec)

/-- ITS FALSE NEIGHBOUR: 'it returns false'. Refute it at one input. -/
def planFitsWrong : ChangeSpec := { name := "planFits", fn := fun _ => fun
  | [d1, d2, d3] => { results := [.lit (.bool false)], args := [d1, d2, d3] }
  | _ => none }
def PlanFitsWrongFalsely : Prop := planFitsRow.holds Try.pinned (OpenSpec.ofChange planFitsWrong)

/-- 'consortlaw15.PlanOwn': WHATEVER THE INPUT: true; the input reads as it did. -/
def planOwnSpec : ChangeSpec := { name := "planOwn", fn := fun _ => fun
  | [d1, d2, d3] => { results := [.lit (.bool true)], args := [d1, d2, d3] }
  | _ => none }
def planOwnRow : OpenClaim := { program := "ytfocjcdfpnbkjaa", sum := "b5a1156ff45bbed9384b69cb71936f2c32465a17fabe11f54e2541da8b02d5a5", func := "consort/consortlaw15.PlanOwn", spec := "planOwn", unfollowed := true, recurses := true, apart := false }
def PlanOwnSaid : Prop := planOwnRow.holds Try.pinned (OpenSpec.ofChange planOwnSpec)

/-- ITS FALSE NEIGHBOUR: 'it returns false'. Refute it at one input. -/
def planOwnWrong : ChangeSpec := { name := "planOwn", fn := fun _ => fun
  | [d1, d2, d3] => { results := [.lit (.bool false)], args := [d1, d2, d3] }
  | _ => none }
def PlanOwnWrongFalsely : Prop := planOwnRow.holds Try.pinned (OpenSpec.ofChange planOwnWrong)

/-- 'consortlaw15.PlanMore': WHATEVER THE INPUT: true; the input reads as it did. -/
def planMoreSpec : ChangeSpec := { name := "planMore", fn := fun _ => fun
  | [d1, d2, d3] => { results := [.lit (.bool true)], args := [d1, d2, d3] }
  | _ => none }
def planMoreRow : OpenClaim := { program := "ytfocjcdfpnbkjaa", sum := "b5a1156ff45bbed9384b69cb71936f2c32465a17fabe11f54e2541da8b02d5a5", func := "consort/consortlaw15.PlanMore", spec := "planMore", unfollowed := true, recurses := true, apart := false }
def PlanMoreSaid : Prop := planMoreRow.holds Try.pinned (OpenSpec.ofChange planMoreSpec)

/-- ITS FALSE NEIGHBOUR: 'it returns false'. Refute it at one input. -/
def planMoreWrong : ChangeSpec := { name := "planMore", fn := fun _ => fun
  | [d1, d2, d3] => { results := [.lit (.bool false)], args := [d1, d2, d3] }
  | _ => none }
def PlanMoreWrongFalsely : Prop := planMoreRow.holds Try.pinned (OpenSpec.ofChange planMoreWrong)

/- THE SECOND FORM. 'bulk': how many values and letters a reading holds, each counted each time it is reached (what is shared counts as often as it is met; a slice's spare places count too). A statement '..UptoSaid' is the law's where the arguments, and the package variables that the reading takes, are together of bulk at most 1048576: NARROWER than '..Said'. Prove '..Said' where nothing that the law and all that it calls make is longer than what came in: it says more and counts as full. Else prove '..UptoSaid'. A law counts once. -/
mutual
def uptoBulk {H : Type} : DataW H → Nat
  | .lit (.string bytes) => bytes.length + 1
  | .lit _ => 1
  | .nil => 1
  | .ptr d => uptoBulk d + 1
  | .slice elems spare => uptoBulkAll elems + uptoBulkAll spare + 1
  | .agg parts => uptoBulkAll parts + 1
  | .iface _ d => uptoBulk d + 1
  | .map entries => uptoBulkEntries entries + 1
  | .held _ => 1
def uptoBulkAll {H : Type} : List (DataW H) → Nat
  | [] => 0
  | d :: r => uptoBulk d + uptoBulkAll r
def uptoBulkEntries {H : Type} : List (Lit × DataW H) → Nat
  | [] => 0
  | x :: r => uptoBulkEntry x + uptoBulkEntries r
def uptoBulkEntry {H : Type} : Lit × DataW H → Nat
  | (.string bytes, d) => bytes.length + uptoBulk d + 1
  | (_, d) => uptoBulk d + 1
 end
def uptoSmall : (H : Type) → List (DataW H) → Bool := fun _ ds => decide (uptoBulkAll ds ≤ 1048576)
def OpenSpec.upto (s : _root_.Go.ChangeSpec) : _root_.Go.OpenSpec := { _root_.Go.OpenSpec.ofChange s with cond := some uptoSmall }

/-- 'consortlaw14.OrderPlays', WHERE WHAT IT READS IS OF BULK AT MOST 1048576: true; the input reads as it did. -/
def orderPlaysUptoRow : OpenClaim := { program := "ytfocjcdfpnbkjaa", sum := "b5a1156ff45bbed9384b69cb71936f2c32465a17fabe11f54e2541da8b02d5a5", func := "consort/consortlaw14.OrderPlays", spec := "orderPlays", unfollowed := true, recurses := true, apart := false, narrowed := true }
def OrderPlaysUptoSaid : Prop := orderPlaysUptoRow.holds Try.pinned (OpenSpec.upto orderPlaysSpec)

/-- 'consortlaw14.OrderOne', WHERE WHAT IT READS IS OF BULK AT MOST 1048576: true; the input reads as it did. -/
def orderOneUptoRow : OpenClaim := { program := "ytfocjcdfpnbkjaa", sum := "b5a1156ff45bbed9384b69cb71936f2c32465a17fabe11f54e2541da8b02d5a5", func := "consort/consortlaw14.OrderOne", spec := "orderOne", unfollowed := true, recurses := true, apart := false, narrowed := true }
def OrderOneUptoSaid : Prop := orderOneUptoRow.holds Try.pinned (OpenSpec.upto orderOneSpec)

/-- 'consortlaw14.OrderRises', WHERE WHAT IT READS IS OF BULK AT MOST 1048576: true; the input reads as it did. -/
def orderRisesUptoRow : OpenClaim := { program := "ytfocjcdfpnbkjaa", sum := "b5a1156ff45bbed9384b69cb71936f2c32465a17fabe11f54e2541da8b02d5a5", func := "consort/consortlaw14.OrderRises", spec := "orderRises", unfollowed := true, recurses := true, apart := false, narrowed := true }
def OrderRisesUptoSaid : Prop := orderRisesUptoRow.holds Try.pinned (OpenSpec.upto orderRisesSpec)

/-- 'consortlaw14.OrderCopies', WHERE WHAT IT READS IS OF BULK AT MOST 1048576: true; the input reads as it did. -/
def orderCopiesUptoRow : OpenClaim := { program := "ytfocjcdfpnbkjaa", sum := "b5a1156ff45bbed9384b69cb71936f2c32465a17fabe11f54e2541da8b02d5a5", func := "consort/consortlaw14.OrderCopies", spec := "orderCopies", unfollowed := true, recurses := true, apart := false, narrowed := true }
def OrderCopiesUptoSaid : Prop := orderCopiesUptoRow.holds Try.pinned (OpenSpec.upto orderCopiesSpec)

/-- 'consortlaw14.OrderTrims', WHERE WHAT IT READS IS OF BULK AT MOST 1048576: true; the input reads as it did. -/
def orderTrimsUptoRow : OpenClaim := { program := "ytfocjcdfpnbkjaa", sum := "b5a1156ff45bbed9384b69cb71936f2c32465a17fabe11f54e2541da8b02d5a5", func := "consort/consortlaw14.OrderTrims", spec := "orderTrims", unfollowed := true, recurses := true, apart := false, narrowed := true }
def OrderTrimsUptoSaid : Prop := orderTrimsUptoRow.holds Try.pinned (OpenSpec.upto orderTrimsSpec)

/-- 'consortlaw15.PlanPlans', WHERE WHAT IT READS IS OF BULK AT MOST 1048576: true; the input reads as it did. -/
def planPlansUptoRow : OpenClaim := { program := "ytfocjcdfpnbkjaa", sum := "b5a1156ff45bbed9384b69cb71936f2c32465a17fabe11f54e2541da8b02d5a5", func := "consort/consortlaw15.PlanPlans", spec := "planPlans", unfollowed := true, recurses := true, apart := false, narrowed := true }
def PlanPlansUptoSaid : Prop := planPlansUptoRow.holds Try.pinned (OpenSpec.upto planPlansSpec)

/-- 'consortlaw15.PlanKeeps', WHERE WHAT IT READS IS OF BULK AT MOST 1048576: true; the input reads as it did. -/
def planKeepsUptoRow : OpenClaim := { program := "ytfocjcdfpnbkjaa", sum := "b5a1156ff45bbed9384b69cb71936f2c32465a17fabe11f54e2541da8b02d5a5", func := "consort/consortlaw15.PlanKeeps", spec := "planKeeps", unfollowed := true, recurses := true, apart := false, narrowed := true }
def PlanKeepsUptoSaid : Prop := planKeepsUptoRow.holds Try.pinned (OpenSpec.upto planKeepsSpec)

/-- 'consortlaw15.PlanOne', WHERE WHAT IT READS IS OF BULK AT MOST 1048576: true; the input reads as it did. -/
def planOneUptoRow : OpenClaim := { program := "ytfocjcdfpnbkjaa", sum := "b5a1156ff45bbed9384b69cb71936f2c32465a17fabe11f54e2541da8b02d5a5", func := "consort/consortlaw15.PlanOne", spec := "planOne", unfollowed := true, recurses := true, apart := false, narrowed := true }
def PlanOneUptoSaid : Prop := planOneUptoRow.holds Try.pinned (OpenSpec.upto planOneSpec)

/-- 'consortlaw15.PlanFits', WHERE WHAT IT READS IS OF BULK AT MOST 1048576: true; the input reads as it did. -/
def planFitsUptoRow : OpenClaim := { program := "ytfocjcdfpnbkjaa", sum := "b5a1156ff45bbed9384b69cb71936f2c32465a17fabe11f54e2541da8b02d5a5", func := "consort/consortlaw15.PlanFits", spec := "planFits", unfollowed := true, recurses := true, apart := false, narrowed := true }
def PlanFitsUptoSaid : Prop := planFitsUptoRow.holds Try.pinned (OpenSpec.upto planFitsSpec)

/-- 'consortlaw15.PlanOwn', WHERE WHAT IT READS IS OF BULK AT MOST 1048576: true; the input reads as it did. -/
def planOwnUptoRow : OpenClaim := { program := "ytfocjcdfpnbkjaa", sum := "b5a1156ff45bbed9384b69cb71936f2c32465a17fabe11f54e2541da8b02d5a5", func := "consort/consortlaw15.PlanOwn", spec := "planOwn", unfollowed := true, recurses := true, apart := false, narrowed := true }
def PlanOwnUptoSaid : Prop := planOwnUptoRow.holds Try.pinned (OpenSpec.upto planOwnSpec)

/-- 'consortlaw15.PlanMore', WHERE WHAT IT READS IS OF BULK AT MOST 1048576: true; the input reads as it did. -/
def planMoreUptoRow : OpenClaim := { program := "ytfocjcdfpnbkjaa", sum := "b5a1156ff45bbed9384b69cb71936f2c32465a17fabe11f54e2541da8b02d5a5", func := "consort/consortlaw15.PlanMore", spec := "planMore", unfollowed := true, recurses := true, apart := false, narrowed := true }
def PlanMoreUptoSaid : Prop := planMoreUptoRow.holds Try.pinned (OpenSpec.upto planMoreSpec)

end Rows
end Go.Proofs.Ytfocjcdfpnbkjaa
