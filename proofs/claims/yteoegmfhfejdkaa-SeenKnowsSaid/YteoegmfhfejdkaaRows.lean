/-
  No cell of these rows narrows 'for every input' (looked for: loops, veiled, ifaces, maps, wideKeys, modest, calm, conditions, laid).
  DERIVED. THE GIVEN ROWS OF THIS SEAT. 3 by the template 'for every input the law returns true; each argument reads behind the call as it read before'; 0 by the template 'total and deterministic' (their statements: YteoegmfhfejdkaaTotals.lean).
  GIVEN WITH THE SEED: the statements are not yours to turn. If you find one false, say at which input.
  Laid BY PROGRAM, IN A SANDBOX (cutbox-rows.mjs): the forced cells as the released guide's own fill.sh prints them over the translation d8c6f504e4961e3c… (all of the seat's roots in one cut). By AI agents, Wed Nov 11 2026. No macro, syntax, notation, axiom, sorry.
-/
import Derived.Test.YteoegmfhfejdkaaChecked
import GoSem.Claim
import GoSem.ClaimJoined
import GoSem.ClaimMapViews
import Derived.JoinedTies
import Derived.KernelRfl
namespace Go.Proofs.Yteoegmfhfejdkaa
/- THE CELL 'sum', in the pinned program and in every row, IS THE sha256 OF THE DUMP (.gsa) THAT YteoegmfhfejdkaaProg.lean LOADS. Nothing in Lean hashes anything: it is a label: what it is worth is what the hold of that sum in a sandbox is worth. -/
noncomputable def Try.pinned : Pinned := { name := "yteoegmfhfejdkaa", sum := "d8c6f504e4961e3c2319496cf237c1ef958430e196b3160e9f6033d573269cfe", checked := Try.checked }
namespace Rows
def none {H : Type} : Left H := { results := [], args := [] }

/-- 'manifoldlaw11.SeenTells': WHATEVER THE INPUT: true; the input reads as it did. -/
def seenTellsSpec : ChangeSpec := { name := "seenTells", fn := fun _ => fun
  | [d1, d2] => { results := [.lit (.bool true)], args := [d1, d2] }
  | _ => none }
def seenTellsRow : OpenClaim := { program := "yteoegmfhfejdkaa", sum := "d8c6f504e4961e3c2319496cf237c1ef958430e196b3160e9f6033d573269cfe", func := "manifold/manifoldlaw11.SeenTells", spec := "seenTells", apart := false }
def SeenTellsSaid : Prop := seenTellsRow.holds Try.pinned (OpenSpec.ofChange seenTellsSpec)

/-- ITS FALSE NEIGHBOUR: 'it returns false'. Refute it at one input. -/
def seenTellsWrong : ChangeSpec := { name := "seenTells", fn := fun _ => fun
  | [d1, d2] => { results := [.lit (.bool false)], args := [d1, d2] }
  | _ => none }
def SeenTellsWrongFalsely : Prop := seenTellsRow.holds Try.pinned (OpenSpec.ofChange seenTellsWrong)

/-- 'manifoldlaw11.SeenKnows': WHATEVER THE INPUT: true; the input reads as it did. -/
def seenKnowsSpec : ChangeSpec := { name := "seenKnows", fn := fun _ => fun
  | [d1, d2] => { results := [.lit (.bool true)], args := [d1, d2] }
  | _ => none }
def seenKnowsRow : OpenClaim := { program := "yteoegmfhfejdkaa", sum := "d8c6f504e4961e3c2319496cf237c1ef958430e196b3160e9f6033d573269cfe", func := "manifold/manifoldlaw11.SeenKnows", spec := "seenKnows", apart := false }
def SeenKnowsSaid : Prop := seenKnowsRow.holds Try.pinned (OpenSpec.ofChange seenKnowsSpec)

/-- ITS FALSE NEIGHBOUR: 'it returns false'. Refute it at one input. -/
def seenKnowsWrong : ChangeSpec := { name := "seenKnows", fn := fun _ => fun
  | [d1, d2] => { results := [.lit (.bool false)], args := [d1, d2] }
  | _ => none }
def SeenKnowsWrongFalsely : Prop := seenKnowsRow.holds Try.pinned (OpenSpec.ofChange seenKnowsWrong)

/-- 'manifoldlaw11.SeenOrder': WHATEVER THE INPUT: true; the input reads as it did. -/
def seenOrderSpec : ChangeSpec := { name := "seenOrder", fn := fun _ => fun
  | [d1, d2, d3] => { results := [.lit (.bool true)], args := [d1, d2, d3] }
  | _ => none }
def seenOrderRow : OpenClaim := { program := "yteoegmfhfejdkaa", sum := "d8c6f504e4961e3c2319496cf237c1ef958430e196b3160e9f6033d573269cfe", func := "manifold/manifoldlaw11.SeenOrder", spec := "seenOrder", apart := false }
def SeenOrderSaid : Prop := seenOrderRow.holds Try.pinned (OpenSpec.ofChange seenOrderSpec)

/-- ITS FALSE NEIGHBOUR: 'it returns false'. Refute it at one input. -/
def seenOrderWrong : ChangeSpec := { name := "seenOrder", fn := fun _ => fun
  | [d1, d2, d3] => { results := [.lit (.bool false)], args := [d1, d2, d3] }
  | _ => none }
def SeenOrderWrongFalsely : Prop := seenOrderRow.holds Try.pinned (OpenSpec.ofChange seenOrderWrong)

/- THE SECOND FORM. 'bulk': how many values and letters a reading holds, each counted each time it is reached (what is shared counts as often as it is met; a slice's spare places count too). A statement '..UptoSaid' is the law's where the arguments, and the package variables that the reading takes, are together of bulk at most 1048576: NARROWER than '..Said'. Prove '..Said' where nothing that the law and all that it calls make is longer than what came in: it says more and counts as full. Else prove '..UptoSaid'. A law counts once. -/
mutual
def uptoBulk {H : Type} : DataW H → Nat
  | .lit (.string bytes) => bytes.length + 1
  | .lit _ => 1
  | .nil => 1
  | .ptr d => uptoBulk d + 1
  | .slice elems spare => uptoBulkAll elems + uptoBulkAll spare + 1
  | .agg parts => uptoBulkAll parts + 1
  | .iface _ d => uptoBulk d + 1
  | .map entries => uptoBulkEntries entries + 1
  | .held _ => 1
def uptoBulkAll {H : Type} : List (DataW H) → Nat
  | [] => 0
  | d :: r => uptoBulk d + uptoBulkAll r
def uptoBulkEntries {H : Type} : List (Lit × DataW H) → Nat
  | [] => 0
  | x :: r => uptoBulkEntry x + uptoBulkEntries r
def uptoBulkEntry {H : Type} : Lit × DataW H → Nat
  | (.string bytes, d) => bytes.length + uptoBulk d + 1
  | (_, d) => uptoBulk d + 1
 end
def uptoSmall : (H : Type) → List (DataW H) → Bool := fun _ ds => decide (uptoBulkAll ds ≤ 1048576)
def OpenSpec.upto (s : _root_.Go.ChangeSpec) : _root_.Go.OpenSpec := { _root_.Go.OpenSpec.ofChange s with cond := some uptoSmall }

/-- 'manifoldlaw11.SeenTells', WHERE WHAT IT READS IS OF BULK AT MOST 1048576: true; the input reads as it did. -/
def seenTellsUptoRow : OpenClaim := { program := "yteoegmfhfejdkaa", sum := "d8c6f504e4961e3c2319496cf237c1ef958430e196b3160e9f6033d573269cfe", func := "manifold/manifoldlaw11.SeenTells", spec := "seenTells", apart := false, narrowed := true }
def SeenTellsUptoSaid : Prop := seenTellsUptoRow.holds Try.pinned (OpenSpec.upto seenTellsSpec)

/-- 'manifoldlaw11.SeenKnows', WHERE WHAT IT READS IS OF BULK AT MOST 1048576: true; the input reads as it did. -/
def seenKnowsUptoRow : OpenClaim := { program := "yteoegmfhfejdkaa", sum := "d8c6f504e4961e3c2319496cf237c1ef958430e196b3160e9f6033d573269cfe", func := "manifold/manifoldlaw11.SeenKnows", spec := "seenKnows", apart := false, narrowed := true }
def SeenKnowsUptoSaid : Prop := seenKnowsUptoRow.holds Try.pinned (OpenSpec.upto seenKnowsSpec)

/-- 'manifoldlaw11.SeenOrder', WHERE WHAT IT READS IS OF BULK AT MOST 1048576: true; the input reads as it did. -/
def seenOrderUptoRow : OpenClaim := { program := "yteoegmfhfejdkaa", sum := "d8c6f504e4961e3c2319496cf237c1ef958430e196b3160e9f6033d573269cfe", func := "manifold/manifoldlaw11.SeenOrder", spec := "seenOrder", apart := false, narrowed := true }
def SeenOrderUptoSaid : Prop := seenOrderUptoRow.holds Try.pinned (OpenSpec.upto seenOrderSpec)

end Rows
end Go.Proofs.Yteoegmfhfejdkaa
