/-
  No cell of these rows narrows 'for every input' (looked for: loops, veiled, ifaces, maps, wideKeys, modest, calm, conditions, laid).
  DERIVED. THE GIVEN ROWS OF THIS SEAT. 2 by the template 'for every input the law returns true; each argument reads behind the call as it read before'; 0 by the template 'total and deterministic' (their statements: YthomlikmjgeccaaTotals.lean).
  GIVEN WITH THE SEED: the statements are not yours to turn. If you find one false, say at which input.
  Laid BY PROGRAM, IN A SANDBOX (cutbox-rows.mjs): the forced cells as the released guide's own fill.sh prints them over the translation 244607aa066fffd9… (all of the seat's roots in one cut). By AI agents, Wed Nov 11 2026. No macro, syntax, notation, axiom, sorry.
-/
import Derived.Test.YthomlikmjgeccaaChecked
import GoSem.Claim
import GoSem.ClaimJoined
import GoSem.ClaimMapViews
import Derived.JoinedTies
import Derived.KernelRfl
namespace Go.Proofs.Ythomlikmjgeccaa
/- THE CELL 'sum', in the pinned program and in every row, IS THE sha256 OF THE DUMP (.gsa) THAT YthomlikmjgeccaaProg.lean LOADS. Nothing in Lean hashes anything: it is a label: what it is worth is what the hold of that sum in a sandbox is worth. -/
noncomputable def Try.pinned : Pinned := { name := "ythomlikmjgeccaa", sum := "244607aa066fffd95e908731abc010419e16d99b9beabef88e6e8709206b42ed", checked := Try.checked }
namespace Rows
def none {H : Type} : Left H := { results := [], args := [] }

/-- 'manifoldlaw06.ProbeBegins': WHATEVER THE INPUT: true; the input reads as it did. -/
def probeBeginsSpec : ChangeSpec := { name := "probeBegins", fn := fun _ => fun
  | [d1, d2] => { results := [.lit (.bool true)], args := [d1, d2] }
  | _ => none }
def probeBeginsRow : OpenClaim := { program := "ythomlikmjgeccaa", sum := "244607aa066fffd95e908731abc010419e16d99b9beabef88e6e8709206b42ed", func := "manifold/manifoldlaw06.ProbeBegins", spec := "probeBegins", unfollowed := true, recurses := true, apart := false }
def ProbeBeginsSaid : Prop := probeBeginsRow.holds Try.pinned (OpenSpec.ofChange probeBeginsSpec)

/-- ITS FALSE NEIGHBOUR: 'it returns false'. Refute it at one input. -/
def probeBeginsWrong : ChangeSpec := { name := "probeBegins", fn := fun _ => fun
  | [d1, d2] => { results := [.lit (.bool false)], args := [d1, d2] }
  | _ => none }
def ProbeBeginsWrongFalsely : Prop := probeBeginsRow.holds Try.pinned (OpenSpec.ofChange probeBeginsWrong)

/-- 'manifoldlaw06.ProbeLoose': WHATEVER THE INPUT: true; the input reads as it did. -/
def probeLooseSpec : ChangeSpec := { name := "probeLoose", fn := fun _ => fun
  | [d] => { results := [.lit (.bool true)], args := [d] }
  | _ => none }
def probeLooseRow : OpenClaim := { program := "ythomlikmjgeccaa", sum := "244607aa066fffd95e908731abc010419e16d99b9beabef88e6e8709206b42ed", func := "manifold/manifoldlaw06.ProbeLoose", spec := "probeLoose", unfollowed := true, recurses := true, apart := false }
def ProbeLooseSaid : Prop := probeLooseRow.holds Try.pinned (OpenSpec.ofChange probeLooseSpec)

/-- ITS FALSE NEIGHBOUR: 'it returns false'. Refute it at one input. -/
def probeLooseWrong : ChangeSpec := { name := "probeLoose", fn := fun _ => fun
  | [d] => { results := [.lit (.bool false)], args := [d] }
  | _ => none }
def ProbeLooseWrongFalsely : Prop := probeLooseRow.holds Try.pinned (OpenSpec.ofChange probeLooseWrong)

/- THE SECOND FORM. 'bulk': how many values and letters a reading holds, each counted each time it is reached (what is shared counts as often as it is met; a slice's spare places count too). A statement '..UptoSaid' is the law's where the arguments, and the package variables that the reading takes, are together of bulk at most 1048576: NARROWER than '..Said'. Prove '..Said' where nothing that the law and all that it calls make is longer than what came in: it says more and counts as full. Else prove '..UptoSaid'. A law counts once. -/
mutual
def uptoBulk {H : Type} : DataW H → Nat
  | .lit (.string bytes) => bytes.length + 1
  | .lit _ => 1
  | .nil => 1
  | .ptr d => uptoBulk d + 1
  | .slice elems spare => uptoBulkAll elems + uptoBulkAll spare + 1
  | .agg parts => uptoBulkAll parts + 1
  | .iface _ d => uptoBulk d + 1
  | .map entries => uptoBulkEntries entries + 1
  | .held _ => 1
def uptoBulkAll {H : Type} : List (DataW H) → Nat
  | [] => 0
  | d :: r => uptoBulk d + uptoBulkAll r
def uptoBulkEntries {H : Type} : List (Lit × DataW H) → Nat
  | [] => 0
  | x :: r => uptoBulkEntry x + uptoBulkEntries r
def uptoBulkEntry {H : Type} : Lit × DataW H → Nat
  | (.string bytes, d) => bytes.length + uptoBulk d + 1
  | (_, d) => uptoBulk d + 1
 end
def uptoSmall : (H : Type) → List (DataW H) → Bool := fun _ ds => decide (uptoBulkAll ds ≤ 1048576)
def OpenSpec.upto (s : _root_.Go.ChangeSpec) : _root_.Go.OpenSpec := { _root_.Go.OpenSpec.ofChange s with cond := some uptoSmall }

/-- 'manifoldlaw06.ProbeBegins', WHERE WHAT IT READS IS OF BULK AT MOST 1048576: true; the input reads as it did. -/
def probeBeginsUptoRow : OpenClaim := { program := "ythomlikmjgeccaa", sum := "244607aa066fffd95e908731abc010419e16d99b9beabef88e6e8709206b42ed", func := "manifold/manifoldlaw06.ProbeBegins", spec := "probeBegins", unfollowed := true, recurses := true, apart := false, narrowed := true }
def ProbeBeginsUptoSaid : Prop := probeBeginsUptoRow.holds Try.pinned (OpenSpec.upto probeBeginsSpec)

/-- 'manifoldlaw06.ProbeLoose', WHERE WHAT IT READS IS OF BULK AT MOST 1048576: true; the input reads as it did. -/
def probeLooseUptoRow : OpenClaim := { program := "ythomlikmjgeccaa", sum := "244607aa066fffd95e908731abc010419e16d99b9beabef88e6e8709206b42ed", func := "manifold/manifoldlaw06.ProbeLoose", spec := "probeLoose", unfollowed := true, recurses := true, apart := false, narrowed := true }
def ProbeLooseUptoSaid : Prop := probeLooseUptoRow.holds Try.pinned (OpenSpec.upto probeLooseSpec)

end Rows
end Go.Proofs.Ythomlikmjgeccaa
