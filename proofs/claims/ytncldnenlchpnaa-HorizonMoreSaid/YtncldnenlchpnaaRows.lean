/-
  No cell of these rows narrows 'for every input' (looked for: loops, veiled, ifaces, maps, wideKeys, modest, calm, conditions, laid).
  DERIVED. THE GIVEN ROWS OF THIS SEAT. 4 by the template 'for every input the law returns true; each argument reads behind the call as it read before'; 0 by the template 'total and deterministic' (their statements: YtncldnenlchpnaaTotals.lean).
  GIVEN WITH THE SEED: the statements are not yours to turn. If you find one false, say at which input.
  Laid BY PROGRAM, IN A SANDBOX (cutbox-rows.mjs): the forced cells as the released guide's own fill.sh prints them over the translation 8226385a81c2a50a… (all of the seat's roots in one cut). By AI agents, Wed Nov 11 2026. No macro, syntax, notation, axiom, sorry.
-/
import Derived.Test.YtncldnenlchpnaaChecked
import GoSem.Claim
import GoSem.ClaimJoined
import GoSem.ClaimMapViews
import Derived.JoinedTies
import Derived.KernelRfl
namespace Go.Proofs.Ytncldnenlchpnaa
/- THE CELL 'sum', in the pinned program and in every row, IS THE sha256 OF THE DUMP (.gsa) THAT YtncldnenlchpnaaProg.lean LOADS. Nothing in Lean hashes anything: it is a label: what it is worth is what the hold of that sum in a sandbox is worth. -/
noncomputable def Try.pinned : Pinned := { name := "ytncldnenlchpnaa", sum := "8226385a81c2a50a42377a2979856782d98fb27e5ea1d9696264eac86a75c9c6", checked := Try.checked }
namespace Rows
def none {H : Type} : Left H := { results := [], args := [] }

/-- 'consortlaw13.HorizonRises': WHATEVER THE INPUT: true; the input reads as it did. -/
def horizonRisesSpec : ChangeSpec := { name := "horizonRises", fn := fun _ => fun
  | [d1, d2, d3] => { results := [.lit (.bool true)], args := [d1, d2, d3] }
  | _ => none }
def horizonRisesRow : OpenClaim := { program := "ytncldnenlchpnaa", sum := "8226385a81c2a50a42377a2979856782d98fb27e5ea1d9696264eac86a75c9c6", func := "consort/consortlaw13.HorizonRises", spec := "horizonRises", unfollowed := true, recurses := true, apart := false }
def HorizonRisesSaid : Prop := horizonRisesRow.holds Try.pinned (OpenSpec.ofChange horizonRisesSpec)

/-- ITS FALSE NEIGHBOUR: 'it returns false'. Refute it at one input. -/
def horizonRisesWrong : ChangeSpec := { name := "horizonRises", fn := fun _ => fun
  | [d1, d2, d3] => { results := [.lit (.bool false)], args := [d1, d2, d3] }
  | _ => none }
def HorizonRisesWrongFalsely : Prop := horizonRisesRow.holds Try.pinned (OpenSpec.ofChange horizonRisesWrong)

/-- 'consortlaw13.HorizonWaits': WHATEVER THE INPUT: true; the input reads as it did. -/
def horizonWaitsSpec : ChangeSpec := { name := "horizonWaits", fn := fun _ => fun
  | [d1, d2, d3] => { results := [.lit (.bool true)], args := [d1, d2, d3] }
  | _ => none }
def horizonWaitsRow : OpenClaim := { program := "ytncldnenlchpnaa", sum := "8226385a81c2a50a42377a2979856782d98fb27e5ea1d9696264eac86a75c9c6", func := "consort/consortlaw13.HorizonWaits", spec := "horizonWaits", unfollowed := true, recurses := true, apart := false }
def HorizonWaitsSaid : Prop := horizonWaitsRow.holds Try.pinned (OpenSpec.ofChange horizonWaitsSpec)

/-- ITS FALSE NEIGHBOUR: 'it returns false'. Refute it at one input. -/
def horizonWaitsWrong : ChangeSpec := { name := "horizonWaits", fn := fun _ => fun
  | [d1, d2, d3] => { results := [.lit (.bool false)], args := [d1, d2, d3] }
  | _ => none }
def HorizonWaitsWrongFalsely : Prop := horizonWaitsRow.holds Try.pinned (OpenSpec.ofChange horizonWaitsWrong)

/-- 'consortlaw13.HorizonCopies': WHATEVER THE INPUT: true; the input reads as it did. -/
def horizonCopiesSpec : ChangeSpec := { name := "horizonCopies", fn := fun _ => fun
  | [d1, d2, d3] => { results := [.lit (.bool true)], args := [d1, d2, d3] }
  | _ => none }
def horizonCopiesRow : OpenClaim := { program := "ytncldnenlchpnaa", sum := "8226385a81c2a50a42377a2979856782d98fb27e5ea1d9696264eac86a75c9c6", func := "consort/consortlaw13.HorizonCopies", spec := "horizonCopies", unfollowed := true, recurses := true, apart := false }
def HorizonCopiesSaid : Prop := horizonCopiesRow.holds Try.pinned (OpenSpec.ofChange horizonCopiesSpec)

/-- ITS FALSE NEIGHBOUR: 'it returns false'. Refute it at one input. -/
def horizonCopiesWrong : ChangeSpec := { name := "horizonCopies", fn := fun _ => fun
  | [d1, d2, d3] => { results := [.lit (.bool false)], args := [d1, d2, d3] }
  | _ => none }
def HorizonCopiesWrongFalsely : Prop := horizonCopiesRow.holds Try.pinned (OpenSpec.ofChange horizonCopiesWrong)

/-- 'consortlaw13.HorizonMore': WHATEVER THE INPUT: true; the input reads as it did. -/
def horizonMoreSpec : ChangeSpec := { name := "horizonMore", fn := fun _ => fun
  | [d1, d2, d3] => { results := [.lit (.bool true)], args := [d1, d2, d3] }
  | _ => none }
def horizonMoreRow : OpenClaim := { program := "ytncldnenlchpnaa", sum := "8226385a81c2a50a42377a2979856782d98fb27e5ea1d9696264eac86a75c9c6", func := "consort/consortlaw13.HorizonMore", spec := "horizonMore", unfollowed := true, recurses := true, apart := false }
def HorizonMoreSaid : Prop := horizonMoreRow.holds Try.pinned (OpenSpec.ofChange horizonMoreSpec)

/-- ITS FALSE NEIGHBOUR: 'it returns false'. Refute it at one input. -/
def horizonMoreWrong : ChangeSpec := { name := "horizonMore", fn := fun _ => fun
  | [d1, d2, d3] => { results := [.lit (.bool false)], args := [d1, d2, d3] }
  | _ => none }
def HorizonMoreWrongFalsely : Prop := horizonMoreRow.holds Try.pinned (OpenSpec.ofChange horizonMoreWrong)

/- THE SECOND FORM. 'bulk': how many values and letters a reading holds, each counted each time it is reached (what is shared counts as often as it is met; a slice's spare places count too). A statement '..UptoSaid' is the law's where the arguments, and the package variables that the reading takes, are together of bulk at most 1048576: NARROWER than '..Said'. Prove '..Said' where nothing that the law and all that it calls make is longer than what came in: it says more and counts as full. Else prove '..UptoSaid'. A law counts once. -/
mutual
def uptoBulk {H : Type} : DataW H → Nat
  | .lit (.string bytes) => bytes.length + 1
  | .lit _ => 1
  | .nil => 1
  | .ptr d => uptoBulk d + 1
  | .slice elems spare => uptoBulkAll elems + uptoBulkAll spare + 1
  | .agg parts => uptoBulkAll parts + 1
  | .iface _ d => uptoBulk d + 1
  | .map entries => uptoBulkEntries entries + 1
  | .held _ => 1
def uptoBulkAll {H : Type} : List (DataW H) → Nat
  | [] => 0
  | d :: r => uptoBulk d + uptoBulkAll r
def uptoBulkEntries {H : Type} : List (Lit × DataW H) → Nat
  | [] => 0
  | x :: r => uptoBulkEntry x + uptoBulkEntries r
def uptoBulkEntry {H : Type} : Lit × DataW H → Nat
  | (.string bytes, d) => bytes.length + uptoBulk d + 1
  | (_, d) => uptoBulk d + 1
 end
def uptoSmall : (H : Type) → List (DataW H) → Bool := fun _ ds => decide (uptoBulkAll ds ≤ 1048576)
def OpenSpec.upto (s : _root_.Go.ChangeSpec) : _root_.Go.OpenSpec := { _root_.Go.OpenSpec.ofChange s with cond := some uptoSmall }

/-- 'consortlaw13.HorizonRises', WHERE WHAT IT READS IS OF BULK AT MOST 1048576: true; the input reads as it did. -/
def horizonRisesUptoRow : OpenClaim := { program := "ytncldnenlchpnaa", sum := "8226385a81c2a50a42377a2979856782d98fb27e5ea1d9696264eac86a75c9c6", func := "consort/consortlaw13.HorizonRises", spec := "horizonRises", unfollowed := true, recurses := true, apart := false, narrowed := true }
def HorizonRisesUptoSaid : Prop := horizonRisesUptoRow.holds Try.pinned (OpenSpec.upto horizonRisesSpec)

/-- 'consortlaw13.HorizonWaits', WHERE WHAT IT READS IS OF BULK AT MOST 1048576: true; the input reads as it did. -/
def horizonWaitsUptoRow : OpenClaim := { program := "ytncldnenlchpnaa", sum := "8226385a81c2a50a42377a2979856782d98fb27e5ea1d9696264eac86a75c9c6", func := "consort/consortlaw13.HorizonWaits", spec := "horizonWaits", unfollowed := true, recurses := true, apart := false, narrowed := true }
def HorizonWaitsUptoSaid : Prop := horizonWaitsUptoRow.holds Try.pinned (OpenSpec.upto horizonWaitsSpec)

/-- 'consortlaw13.HorizonCopies', WHERE WHAT IT READS IS OF BULK AT MOST 1048576: true; the input reads as it did. -/
def horizonCopiesUptoRow : OpenClaim := { program := "ytncldnenlchpnaa", sum := "8226385a81c2a50a42377a2979856782d98fb27e5ea1d9696264eac86a75c9c6", func := "consort/consortlaw13.HorizonCopies", spec := "horizonCopies", unfollowed := true, recurses := true, apart := false, narrowed := true }
def HorizonCopiesUptoSaid : Prop := horizonCopiesUptoRow.holds Try.pinned (OpenSpec.upto horizonCopiesSpec)

/-- 'consortlaw13.HorizonMore', WHERE WHAT IT READS IS OF BULK AT MOST 1048576: true; the input reads as it did. -/
def horizonMoreUptoRow : OpenClaim := { program := "ytncldnenlchpnaa", sum := "8226385a81c2a50a42377a2979856782d98fb27e5ea1d9696264eac86a75c9c6", func := "consort/consortlaw13.HorizonMore", spec := "horizonMore", unfollowed := true, recurses := true, apart := false, narrowed := true }
def HorizonMoreUptoSaid : Prop := horizonMoreUptoRow.holds Try.pinned (OpenSpec.upto horizonMoreSpec)

end Rows
end Go.Proofs.Ytncldnenlchpnaa
