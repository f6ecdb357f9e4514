/-
  No cell of these rows narrows 'for every input' (looked for: loops, veiled, ifaces, maps, wideKeys, modest, calm, conditions, laid).
  DERIVED. THE GIVEN ROWS OF THIS SEAT. 4 by the template 'for every input the law returns true; each argument reads behind the call as it read before'; 0 by the template 'total and deterministic' (their statements: YtcjbjcojmjfmaaaTotals.lean).
  GIVEN WITH THE SEED: the statements are not yours to turn. If you find one false, say at which input.
  Laid BY PROGRAM, IN A SANDBOX (cutbox-rows.mjs): the forced cells as the released guide's own fill.sh prints them over the translation fc9df2557a713609… (all of the seat's roots in one cut). By AI agents, Wed Nov 11 2026. No macro, syntax, notation, axiom, sorry.
-/
import Derived.Test.YtcjbjcojmjfmaaaChecked
import GoSem.Claim
import GoSem.ClaimJoined
import GoSem.ClaimMapViews
import Derived.JoinedTies
import Derived.KernelRfl
namespace Go.Proofs.Ytcjbjcojmjfmaaa
/- THE CELL 'sum', in the pinned program and in every row, IS THE sha256 OF THE DUMP (.gsa) THAT YtcjbjcojmjfmaaaProg.lean LOADS. Nothing in Lean hashes anything: it is a label: what it is worth is what the hold of that sum in a sandbox is worth. -/
noncomputable def Try.pinned : Pinned := { name := "ytcjbjcojmjfmaaa", sum := "fc9df2557a713609a5a3805369029a1d7107dfc47049ad34627ba519b0ecd477", checked := Try.checked }
namespace Rows
def none {H : Type} : Left H := { results := [], args := [] }

/-- 'consortlaw09.HeardPlays': WHATEVER THE INPUT: true; the input reads as it did. -/
def heardPlaysSpec : ChangeSpec := { name := "heardPlays", fn := fun _ => fun
  | [d1, d2, d3, d4, d5] => { results := [.lit (.bool true)], args := [d1, d2, d3, d4, d5] }
  | _ => none }
def heardPlaysRow : OpenClaim := { program := "ytcjbjcojmjfmaaa", sum := "fc9df2557a713609a5a3805369029a1d7107dfc47049ad34627ba519b0ecd477", func := "consort/consortlaw09.HeardPlays", spec := "heardPlays", unfollowed := true, recurses := true, apart := false }
def HeardPlaysSaid : Prop := heardPlaysRow.holds Try.pinned (OpenSpec.ofChange heardPlaysSpec)

/-- ITS FALSE NEIGHBOUR: 'it returns false'. Refute it at one input. -/
def heardPlaysWrong : ChangeSpec := { name := "heardPlays", fn := fun _ => fun
  | [d1, d2, d3, d4, d5] => { results := [.lit (.bool false)], args := [d1, d2, d3, d4, d5] }
  | _ => none }
def HeardPlaysWrongFalsely : Prop := heardPlaysRow.holds Try.pinned (OpenSpec.ofChange heardPlaysWrong)

/-- 'consortlaw09.HeardLately': WHATEVER THE INPUT: true; the input reads as it did. -/
def heardLatelySpec : ChangeSpec := { name := "heardLately", fn := fun _ => fun
  | [d1, d2, d3, d4] => { results := [.lit (.bool true)], args := [d1, d2, d3, d4] }
  | _ => none }
def heardLatelyRow : OpenClaim := { program := "ytcjbjcojmjfmaaa", sum := "fc9df2557a713609a5a3805369029a1d7107dfc47049ad34627ba519b0ecd477", func := "consort/consortlaw09.HeardLately", spec := "heardLately", unfollowed := true, recurses := true, apart := false }
def HeardLatelySaid : Prop := heardLatelyRow.holds Try.pinned (OpenSpec.ofChange heardLatelySpec)

/-- ITS FALSE NEIGHBOUR: 'it returns false'. Refute it at one input. -/
def heardLatelyWrong : ChangeSpec := { name := "heardLately", fn := fun _ => fun
  | [d1, d2, d3, d4] => { results := [.lit (.bool false)], args := [d1, d2, d3, d4] }
  | _ => none }
def HeardLatelyWrongFalsely : Prop := heardLatelyRow.holds Try.pinned (OpenSpec.ofChange heardLatelyWrong)

/-- 'consortlaw09.HeardApart': WHATEVER THE INPUT: true; the input reads as it did. -/
def heardApartSpec : ChangeSpec := { name := "heardApart", fn := fun _ => fun
  | [d1, d2, d3, d4] => { results := [.lit (.bool true)], args := [d1, d2, d3, d4] }
  | _ => none }
def heardApartRow : OpenClaim := { program := "ytcjbjcojmjfmaaa", sum := "fc9df2557a713609a5a3805369029a1d7107dfc47049ad34627ba519b0ecd477", func := "consort/consortlaw09.HeardApart", spec := "heardApart", unfollowed := true, recurses := true, apart := false }
def HeardApartSaid : Prop := heardApartRow.holds Try.pinned (OpenSpec.ofChange heardApartSpec)

/-- ITS FALSE NEIGHBOUR: 'it returns false'. Refute it at one input. -/
def heardApartWrong : ChangeSpec := { name := "heardApart", fn := fun _ => fun
  | [d1, d2, d3, d4] => { results := [.lit (.bool false)], args := [d1, d2, d3, d4] }
  | _ => none }
def HeardApartWrongFalsely : Prop := heardApartRow.holds Try.pinned (OpenSpec.ofChange heardApartWrong)

/-- 'consortlaw09.HeardEpoch': WHATEVER THE INPUT: true; the input reads as it did. -/
def heardEpochSpec : ChangeSpec := { name := "heardEpoch", fn := fun _ => fun
  | [d1, d2, d3] => { results := [.lit (.bool true)], args := [d1, d2, d3] }
  | _ => none }
def heardEpochRow : OpenClaim := { program := "ytcjbjcojmjfmaaa", sum := "fc9df2557a713609a5a3805369029a1d7107dfc47049ad34627ba519b0ecd477", func := "consort/consortlaw09.HeardEpoch", spec := "heardEpoch", unfollowed := true, recurses := true, apart := false }
def HeardEpochSaid : Prop := heardEpochRow.holds Try.pinned (OpenSpec.ofChange heardEpochSpec)

/-- ITS FALSE NEIGHBOUR: 'it returns false'. Refute it at one input. -/
def heardEpochWrong : ChangeSpec := { name := "heardEpoch", fn := fun _ => fun
  | [d1, d2, d3] => { results := [.lit (.bool false)], args := [d1, d2, d3] }
  | _ => none }
def HeardEpochWrongFalsely : Prop := heardEpochRow.holds Try.pinned (OpenSpec.ofChange heardEpochWrong)

/- THE SECOND FORM. 'bulk': how many values and letters a reading holds, each counted each time it is reached (what is shared counts as often as it is met; a slice's spare places count too). A statement '..UptoSaid' is the law's where the arguments, and the package variables that the reading takes, are together of bulk at most 1048576: NARROWER than '..Said'. Prove '..Said' where nothing that the law and all that it calls make is longer than what came in: it says more and counts as full. Else prove '..UptoSaid'. A law counts once. -/
mutual
def uptoBulk {H : Type} : DataW H → Nat
  | .lit (.string bytes) => bytes.length + 1
  | .lit _ => 1
  | .nil => 1
  | .ptr d => uptoBulk d + 1
  | .slice elems spare => uptoBulkAll elems + uptoBulkAll spare + 1
  | .agg parts => uptoBulkAll parts + 1
  | .iface _ d => uptoBulk d + 1
  | .map entries => uptoBulkEntries entries + 1
  | .held _ => 1
def uptoBulkAll {H : Type} : List (DataW H) → Nat
  | [] => 0
  | d :: r => uptoBulk d + uptoBulkAll r
def uptoBulkEntries {H : Type} : List (Lit × DataW H) → Nat
  | [] => 0
  | x :: r => uptoBulkEntry x + uptoBulkEntries r
def uptoBulkEntry {H : Type} : Lit × DataW H → Nat
  | (.string bytes, d) => bytes.length + uptoBulk d + 1
  | (_, d) => uptoBulk d + 1
 end
def uptoSmall : (H : Type) → List (DataW H) → Bool := fun _ ds => decide (uptoBulkAll ds ≤ 1048576)
def OpenSpec.upto (s : _root_.Go.ChangeSpec) : _root_.Go.OpenSpec := { _root_.Go.OpenSpec.ofChange s with cond := some uptoSmall }

/-- 'consortlaw09.HeardPlays', WHERE WHAT IT READS IS OF BULK AT MOST 1048576: true; the input reads as it did. -/
def heardPlaysUptoRow : OpenClaim := { program := "ytcjbjcojmjfmaaa", sum := "fc9df2557a713609a5a3805369029a1d7107dfc47049ad34627ba519b0ecd477", func := "consort/consortlaw09.HeardPlays", spec := "heardPlays", unfollowed := true, recurses := true, apart := false, narrowed := true }
def HeardPlaysUptoSaid : Prop := heardPlaysUptoRow.holds Try.pinned (OpenSpec.upto heardPlaysSpec)

/-- 'consortlaw09.HeardLately', WHERE WHAT IT READS IS OF BULK AT MOST 1048576: true; the input reads as it did. -/
def heardLatelyUptoRow : OpenClaim := { program := "ytcjbjcojmjfmaaa", sum := "fc9df2557a713609a5a3805369029a1d7107dfc47049ad34627ba519b0ecd477", func := "consort/consortlaw09.HeardLately", spec := "heardLately", unfollowed := true, recurses := true, apart := false, narrowed := true }
def HeardLatelyUptoSaid : Prop := heardLatelyUptoRow.holds Try.pinned (OpenSpec.upto heardLatelySpec)

/-- 'consortlaw09.HeardApart', WHERE WHAT IT READS IS OF BULK AT MOST 1048576: true; the input reads as it did. -/
def heardApartUptoRow : OpenClaim := { program := "ytcjbjcojmjfmaaa", sum := "fc9df2557a713609a5a3805369029a1d7107dfc47049ad34627ba519b0ecd477", func := "consort/consortlaw09.HeardApart", spec := "heardApart", unfollowed := true, recurses := true, apart := false, narrowed := true }
def HeardApartUptoSaid : Prop := heardApartUptoRow.holds Try.pinned (OpenSpec.upto heardApartSpec)

/-- 'consortlaw09.HeardEpoch', WHERE WHAT IT READS IS OF BULK AT MOST 1048576: true; the input reads as it did. -/
def heardEpochUptoRow : OpenClaim := { program := "ytcjbjcojmjfmaaa", sum := "fc9df2557a713609a5a3805369029a1d7107dfc47049ad34627ba519b0ecd477", func := "consort/consortlaw09.HeardEpoch", spec := "heardEpoch", unfollowed := true, recurses := true, apart := false, narrowed := true }
def HeardEpochUptoSaid : Prop := heardEpochUptoRow.holds Try.pinned (OpenSpec.upto heardEpochSpec)

end Rows
end Go.Proofs.Ytcjbjcojmjfmaaa
