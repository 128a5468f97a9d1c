/-
  No cell of these rows narrows 'for every input' (looked for: loops, veiled, ifaces, maps, wideKeys, modest, calm, conditions, laid).
  DERIVED. THE GIVEN ROWS OF THIS SEAT. 6 by the template 'for every input the law returns true; each argument reads behind the call as it read before'; 0 by the template 'total and deterministic' (their statements: YtfjhdhmneknmkaaTotals.lean).
  GIVEN WITH THE SEED: the statements are not yours to turn. If you find one false, say at which input.
  Laid BY PROGRAM, IN A SANDBOX (cutbox-rows.mjs): the forced cells as the released guide's own fill.sh prints them over the translation ab74977327b7f503… (all of the seat's roots in one cut). By AI agents, Wed Nov 11 2026. No macro, syntax, notation, axiom, sorry.
-/
import Derived.Test.YtfjhdhmneknmkaaChecked
import GoSem.Claim
import GoSem.ClaimJoined
import GoSem.ClaimMapViews
import Derived.JoinedTies
import Derived.KernelRfl
namespace Go.Proofs.Ytfjhdhmneknmkaa
/- THE CELL 'sum', in the pinned program and in every row, IS THE sha256 OF THE DUMP (.gsa) THAT YtfjhdhmneknmkaaProg.lean LOADS. Nothing in Lean hashes anything: it is a label: what it is worth is what the hold of that sum in a sandbox is worth. -/
noncomputable def Try.pinned : Pinned := { name := "ytfjhdhmneknmkaa", sum := "ab74977327b7f503eefb22138bffe5b6f3a129e88a7d66d3191ffda7b81f50d7", checked := Try.checked }
namespace Rows
def none {H : Type} : Left H := { results := [], args := [] }

/-- 'dspcompilerlaw01.NatPowers': WHATEVER THE INPUT: true; the input reads as it did. -/
def natPowersSpec : ChangeSpec := { name := "natPowers", fn := fun _ => fun
  | [d1, d2, d3, d4] => { results := [.lit (.bool true)], args := [d1, d2, d3, d4] }
  | _ => none }
def natPowersRow : OpenClaim := { program := "ytfjhdhmneknmkaa", sum := "ab74977327b7f503eefb22138bffe5b6f3a129e88a7d66d3191ffda7b81f50d7", func := "dspcompiler/dspcompilerlaw01.NatPowers", spec := "natPowers", recurses := true, apart := false }
def NatPowersSaid : Prop := natPowersRow.holds Try.pinned (OpenSpec.ofChange natPowersSpec)

/-- ITS FALSE NEIGHBOUR: 'it returns false'. Refute it at one input. -/
def natPowersWrong : ChangeSpec := { name := "natPowers", fn := fun _ => fun
  | [d1, d2, d3, d4] => { results := [.lit (.bool false)], args := [d1, d2, d3, d4] }
  | _ => none }
def NatPowersWrongFalsely : Prop := natPowersRow.holds Try.pinned (OpenSpec.ofChange natPowersWrong)

/-- 'dspcompilerlaw01.NatGcds': WHATEVER THE INPUT: true; the input reads as it did. -/
def natGcdsSpec : ChangeSpec := { name := "natGcds", fn := fun _ => fun
  | [d1, d2, d3] => { results := [.lit (.bool true)], args := [d1, d2, d3] }
  | _ => none }
def natGcdsRow : OpenClaim := { program := "ytfjhdhmneknmkaa", sum := "ab74977327b7f503eefb22138bffe5b6f3a129e88a7d66d3191ffda7b81f50d7", func := "dspcompiler/dspcompilerlaw01.NatGcds", spec := "natGcds", recurses := true, apart := false }
def NatGcdsSaid : Prop := natGcdsRow.holds Try.pinned (OpenSpec.ofChange natGcdsSpec)

/-- ITS FALSE NEIGHBOUR: 'it returns false'. Refute it at one input. -/
def natGcdsWrong : ChangeSpec := { name := "natGcds", fn := fun _ => fun
  | [d1, d2, d3] => { results := [.lit (.bool false)], args := [d1, d2, d3] }
  | _ => none }
def NatGcdsWrongFalsely : Prop := natGcdsRow.holds Try.pinned (OpenSpec.ofChange natGcdsWrong)

/-- 'dspcompilerlaw02.IntegerActs': WHATEVER THE INPUT: true; the input reads as it did. -/
def integerActsSpec : ChangeSpec := { name := "integerActs", fn := fun _ => fun
  | [d1, d2] => { results := [.lit (.bool true)], args := [d1, d2] }
  | _ => none }
def integerActsRow : OpenClaim := { program := "ytfjhdhmneknmkaa", sum := "ab74977327b7f503eefb22138bffe5b6f3a129e88a7d66d3191ffda7b81f50d7", func := "dspcompiler/dspcompilerlaw02.IntegerActs", spec := "integerActs", apart := false }
def IntegerActsSaid : Prop := integerActsRow.holds Try.pinned (OpenSpec.ofChange integerActsSpec)

/-- ITS FALSE NEIGHBOUR: 'it returns false'. Refute it at one input. -/
def integerActsWrong : ChangeSpec := { name := "integerActs", fn := fun _ => fun
  | [d1, d2] => { results := [.lit (.bool false)], args := [d1, d2] }
  | _ => none }
def IntegerActsWrongFalsely : Prop := integerActsRow.holds Try.pinned (OpenSpec.ofChange integerActsWrong)

/-- 'dspcompilerlaw02.IntegerDivides': WHATEVER THE INPUT: true; the input reads as it did. -/
def integerDividesSpec : ChangeSpec := { name := "integerDivides", fn := fun _ => fun
  | [d1, d2] => { results := [.lit (.bool true)], args := [d1, d2] }
  | _ => none }
def integerDividesRow : OpenClaim := { program := "ytfjhdhmneknmkaa", sum := "ab74977327b7f503eefb22138bffe5b6f3a129e88a7d66d3191ffda7b81f50d7", func := "dspcompiler/dspcompilerlaw02.IntegerDivides", spec := "integerDivides", apart := false }
def IntegerDividesSaid : Prop := integerDividesRow.holds Try.pinned (OpenSpec.ofChange integerDividesSpec)

/-- ITS FALSE NEIGHBOUR: 'it returns false'. Refute it at one input. -/
def integerDividesWrong : ChangeSpec := { name := "integerDivides", fn := fun _ => fun
  | [d1, d2] => { results := [.lit (.bool false)], args := [d1, d2] }
  | _ => none }
def IntegerDividesWrongFalsely : Prop := integerDividesRow.holds Try.pinned (OpenSpec.ofChange integerDividesWrong)

/-- 'dspcompilerlaw02.IntegerOf': WHATEVER THE INPUT: true; the input reads as it did. -/
def integerOfSpec : ChangeSpec := { name := "integerOf", fn := fun _ => fun
  | [d1, d2] => { results := [.lit (.bool true)], args := [d1, d2] }
  | _ => none }
def integerOfRow : OpenClaim := { program := "ytfjhdhmneknmkaa", sum := "ab74977327b7f503eefb22138bffe5b6f3a129e88a7d66d3191ffda7b81f50d7", func := "dspcompiler/dspcompilerlaw02.IntegerOf", spec := "integerOf", apart := false }
def IntegerOfSaid : Prop := integerOfRow.holds Try.pinned (OpenSpec.ofChange integerOfSpec)

/-- ITS FALSE NEIGHBOUR: 'it returns false'. Refute it at one input. -/
def integerOfWrong : ChangeSpec := { name := "integerOf", fn := fun _ => fun
  | [d1, d2] => { results := [.lit (.bool false)], args := [d1, d2] }
  | _ => none }
def IntegerOfWrongFalsely : Prop := integerOfRow.holds Try.pinned (OpenSpec.ofChange integerOfWrong)

/-- 'dspcompilerlaw02.IntegerTexts': WHATEVER THE INPUT: true; the input reads as it did. -/
def integerTextsSpec : ChangeSpec := { name := "integerTexts", fn := fun _ => fun
  | [d1, d2] => { results := [.lit (.bool true)], args := [d1, d2] }
  | _ => none }
def integerTextsRow : OpenClaim := { program := "ytfjhdhmneknmkaa", sum := "ab74977327b7f503eefb22138bffe5b6f3a129e88a7d66d3191ffda7b81f50d7", func := "dspcompiler/dspcompilerlaw02.IntegerTexts", spec := "integerTexts", apart := false }
def IntegerTextsSaid : Prop := integerTextsRow.holds Try.pinned (OpenSpec.ofChange integerTextsSpec)

/-- ITS FALSE NEIGHBOUR: 'it returns false'. Refute it at one input. -/
def integerTextsWrong : ChangeSpec := { name := "integerTexts", fn := fun _ => fun
  | [d1, d2] => { results := [.lit (.bool false)], args := [d1, d2] }
  | _ => none }
def IntegerTextsWrongFalsely : Prop := integerTextsRow.holds Try.pinned (OpenSpec.ofChange integerTextsWrong)

/- THE SECOND FORM. 'bulk': how many values and letters a reading holds, each counted each time it is reached (what is shared counts as often as it is met; a slice's spare places count too). A statement '..UptoSaid' is the law's where the arguments, and the package variables that the reading takes, are together of bulk at most 1048576: NARROWER than '..Said'. Prove '..Said' where nothing that the law and all that it calls make is longer than what came in: it says more and counts as full. Else prove '..UptoSaid'. A law counts once. -/
mutual
def uptoBulk {H : Type} : DataW H → Nat
  | .lit (.string bytes) => bytes.length + 1
  | .lit _ => 1
  | .nil => 1
  | .ptr d => uptoBulk d + 1
  | .slice elems spare => uptoBulkAll elems + uptoBulkAll spare + 1
  | .agg parts => uptoBulkAll parts + 1
  | .iface _ d => uptoBulk d + 1
  | .map entries => uptoBulkEntries entries + 1
  | .held _ => 1
def uptoBulkAll {H : Type} : List (DataW H) → Nat
  | [] => 0
  | d :: r => uptoBulk d + uptoBulkAll r
def uptoBulkEntries {H : Type} : List (Lit × DataW H) → Nat
  | [] => 0
  | x :: r => uptoBulkEntry x + uptoBulkEntries r
def uptoBulkEntry {H : Type} : Lit × DataW H → Nat
  | (.string bytes, d) => bytes.length + uptoBulk d + 1
  | (_, d) => uptoBulk d + 1
 end
def uptoSmall : (H : Type) → List (DataW H) → Bool := fun _ ds => decide (uptoBulkAll ds ≤ 1048576)
def OpenSpec.upto (s : _root_.Go.ChangeSpec) : _root_.Go.OpenSpec := { _root_.Go.OpenSpec.ofChange s with cond := some uptoSmall }

/-- 'dspcompilerlaw01.NatPowers', WHERE WHAT IT READS IS OF BULK AT MOST 1048576: true; the input reads as it did. -/
def natPowersUptoRow : OpenClaim := { program := "ytfjhdhmneknmkaa", sum := "ab74977327b7f503eefb22138bffe5b6f3a129e88a7d66d3191ffda7b81f50d7", func := "dspcompiler/dspcompilerlaw01.NatPowers", spec := "natPowers", recurses := true, apart := false, narrowed := true }
def NatPowersUptoSaid : Prop := natPowersUptoRow.holds Try.pinned (OpenSpec.upto natPowersSpec)

/-- 'dspcompilerlaw01.NatGcds', WHERE WHAT IT READS IS OF BULK AT MOST 1048576: true; the input reads as it did. -/
def natGcdsUptoRow : OpenClaim := { program := "ytfjhdhmneknmkaa", sum := "ab74977327b7f503eefb22138bffe5b6f3a129e88a7d66d3191ffda7b81f50d7", func := "dspcompiler/dspcompilerlaw01.NatGcds", spec := "natGcds", recurses := true, apart := false, narrowed := true }
def NatGcdsUptoSaid : Prop := natGcdsUptoRow.holds Try.pinned (OpenSpec.upto natGcdsSpec)

/-- 'dspcompilerlaw02.IntegerActs', WHERE WHAT IT READS IS OF BULK AT MOST 1048576: true; the input reads as it did. -/
def integerActsUptoRow : OpenClaim := { program := "ytfjhdhmneknmkaa", sum := "ab74977327b7f503eefb22138bffe5b6f3a129e88a7d66d3191ffda7b81f50d7", func := "dspcompiler/dspcompilerlaw02.IntegerActs", spec := "integerActs", apart := false, narrowed := true }
def IntegerActsUptoSaid : Prop := integerActsUptoRow.holds Try.pinned (OpenSpec.upto integerActsSpec)

/-- 'dspcompilerlaw02.IntegerDivides', WHERE WHAT IT READS IS OF BULK AT MOST 1048576: true; the input reads as it did. -/
def integerDividesUptoRow : OpenClaim := { program := "ytfjhdhmneknmkaa", sum := "ab74977327b7f503eefb22138bffe5b6f3a129e88a7d66d3191ffda7b81f50d7", func := "dspcompiler/dspcompilerlaw02.IntegerDivides", spec := "integerDivides", apart := false, narrowed := true }
def IntegerDividesUptoSaid : Prop := integerDividesUptoRow.holds Try.pinned (OpenSpec.upto integerDividesSpec)

/-- 'dspcompilerlaw02.IntegerOf', WHERE WHAT IT READS IS OF BULK AT MOST 1048576: true; the input reads as it did. -/
def integerOfUptoRow : OpenClaim := { program := "ytfjhdhmneknmkaa", sum := "ab74977327b7f503eefb22138bffe5b6f3a129e88a7d66d3191ffda7b81f50d7", func := "dspcompiler/dspcompilerlaw02.IntegerOf", spec := "integerOf", apart := false, narrowed := true }
def IntegerOfUptoSaid : Prop := integerOfUptoRow.holds Try.pinned (OpenSpec.upto integerOfSpec)

/-- 'dspcompilerlaw02.IntegerTexts', WHERE WHAT IT READS IS OF BULK AT MOST 1048576: true; the input reads as it did. -/
def integerTextsUptoRow : OpenClaim := { program := "ytfjhdhmneknmkaa", sum := "ab74977327b7f503eefb22138bffe5b6f3a129e88a7d66d3191ffda7b81f50d7", func := "dspcompiler/dspcompilerlaw02.IntegerTexts", spec := "integerTexts", apart := false, narrowed := true }
def IntegerTextsUptoSaid : Prop := integerTextsUptoRow.holds Try.pinned (OpenSpec.upto integerTextsSpec)

end Rows
end Go.Proofs.Ytfjhdhmneknmkaa
