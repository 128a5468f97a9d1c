/-
  No cell of these rows narrows 'for every input' (looked for: loops, veiled, ifaces, maps, wideKeys, modest, calm, conditions, laid).
  DERIVED. THE GIVEN ROWS OF THIS SEAT. 8 by the template 'for every input the law returns true; each argument reads behind the call as it read before'; 0 by the template 'total and deterministic' (their statements: YtebmjjofeddkoaaTotals.lean).
  GIVEN WITH THE SEED: the statements are not yours to turn. If you find one false, say at which input.
  Laid BY PROGRAM, IN A SANDBOX (cutbox-rows.mjs): the forced cells as the released guide's own fill.sh prints them over the translation 22276c25266c85e2… (all of the seat's roots in one cut). By AI agents, Wed Nov 11 2026. No macro, syntax, notation, axiom, sorry.
-/
import Derived.Test.YtebmjjofeddkoaaChecked
import GoSem.Claim
import GoSem.ClaimJoined
import GoSem.ClaimMapViews
import Derived.JoinedTies
import Derived.KernelRfl
namespace Go.Proofs.Ytebmjjofeddkoaa
/- THE CELL 'sum', in the pinned program and in every row, IS THE sha256 OF THE DUMP (.gsa) THAT YtebmjjofeddkoaaProg.lean LOADS. Nothing in Lean hashes anything: it is a label: what it is worth is what the hold of that sum in a sandbox is worth. -/
noncomputable def Try.pinned : Pinned := { name := "ytebmjjofeddkoaa", sum := "22276c25266c85e2573e6fa8421a4156370d41a1ea20358454f0a1ef83c13bf9", checked := Try.checked }
namespace Rows
def none {H : Type} : Left H := { results := [], args := [] }

/-- 'dspcompilerlaw01.NatActs': WHATEVER THE INPUT: true; the input reads as it did. -/
def natActsSpec : ChangeSpec := { name := "natActs", fn := fun _ => fun
  | [d1, d2] => { results := [.lit (.bool true)], args := [d1, d2] }
  | _ => none }
def natActsRow : OpenClaim := { program := "ytebmjjofeddkoaa", sum := "22276c25266c85e2573e6fa8421a4156370d41a1ea20358454f0a1ef83c13bf9", func := "dspcompiler/dspcompilerlaw01.NatActs", spec := "natActs", recurses := true, apart := false }
def NatActsSaid : Prop := natActsRow.holds Try.pinned (OpenSpec.ofChange natActsSpec)

/-- ITS FALSE NEIGHBOUR: 'it returns false'. Refute it at one input. -/
def natActsWrong : ChangeSpec := { name := "natActs", fn := fun _ => fun
  | [d1, d2] => { results := [.lit (.bool false)], args := [d1, d2] }
  | _ => none }
def NatActsWrongFalsely : Prop := natActsRow.holds Try.pinned (OpenSpec.ofChange natActsWrong)

/-- 'dspcompilerlaw01.NatPowers': WHATEVER THE INPUT: true; the input reads as it did. -/
def natPowersSpec : ChangeSpec := { name := "natPowers", fn := fun _ => fun
  | [d1, d2, d3, d4] => { results := [.lit (.bool true)], args := [d1, d2, d3, d4] }
  | _ => none }
def natPowersRow : OpenClaim := { program := "ytebmjjofeddkoaa", sum := "22276c25266c85e2573e6fa8421a4156370d41a1ea20358454f0a1ef83c13bf9", func := "dspcompiler/dspcompilerlaw01.NatPowers", spec := "natPowers", recurses := true, apart := false }
def NatPowersSaid : Prop := natPowersRow.holds Try.pinned (OpenSpec.ofChange natPowersSpec)

/-- ITS FALSE NEIGHBOUR: 'it returns false'. Refute it at one input. -/
def natPowersWrong : ChangeSpec := { name := "natPowers", fn := fun _ => fun
  | [d1, d2, d3, d4] => { results := [.lit (.bool false)], args := [d1, d2, d3, d4] }
  | _ => none }
def NatPowersWrongFalsely : Prop := natPowersRow.holds Try.pinned (OpenSpec.ofChange natPowersWrong)

/-- 'dspcompilerlaw01.NatTexts': WHATEVER THE INPUT: true; the input reads as it did. -/
def natTextsSpec : ChangeSpec := { name := "natTexts", fn := fun _ => fun
  | [d1, d2] => { results := [.lit (.bool true)], args := [d1, d2] }
  | _ => none }
def natTextsRow : OpenClaim := { program := "ytebmjjofeddkoaa", sum := "22276c25266c85e2573e6fa8421a4156370d41a1ea20358454f0a1ef83c13bf9", func := "dspcompiler/dspcompilerlaw01.NatTexts", spec := "natTexts", recurses := true, apart := false }
def NatTextsSaid : Prop := natTextsRow.holds Try.pinned (OpenSpec.ofChange natTextsSpec)

/-- ITS FALSE NEIGHBOUR: 'it returns false'. Refute it at one input. -/
def natTextsWrong : ChangeSpec := { name := "natTexts", fn := fun _ => fun
  | [d1, d2] => { results := [.lit (.bool false)], args := [d1, d2] }
  | _ => none }
def NatTextsWrongFalsely : Prop := natTextsRow.holds Try.pinned (OpenSpec.ofChange natTextsWrong)

/-- 'dspcompilerlaw01.NatRing': WHATEVER THE INPUT: true; the input reads as it did. -/
def natRingSpec : ChangeSpec := { name := "natRing", fn := fun _ => fun
  | [d1, d2, d3] => { results := [.lit (.bool true)], args := [d1, d2, d3] }
  | _ => none }
def natRingRow : OpenClaim := { program := "ytebmjjofeddkoaa", sum := "22276c25266c85e2573e6fa8421a4156370d41a1ea20358454f0a1ef83c13bf9", func := "dspcompiler/dspcompilerlaw01.NatRing", spec := "natRing", recurses := true, apart := false }
def NatRingSaid : Prop := natRingRow.holds Try.pinned (OpenSpec.ofChange natRingSpec)

/-- ITS FALSE NEIGHBOUR: 'it returns false'. Refute it at one input. -/
def natRingWrong : ChangeSpec := { name := "natRing", fn := fun _ => fun
  | [d1, d2, d3] => { results := [.lit (.bool false)], args := [d1, d2, d3] }
  | _ => none }
def NatRingWrongFalsely : Prop := natRingRow.holds Try.pinned (OpenSpec.ofChange natRingWrong)

/-- 'dspcompilerlaw01.NatDivides': WHATEVER THE INPUT: true; the input reads as it did. -/
def natDividesSpec : ChangeSpec := { name := "natDivides", fn := fun _ => fun
  | [d1, d2] => { results := [.lit (.bool true)], args := [d1, d2] }
  | _ => none }
def natDividesRow : OpenClaim := { program := "ytebmjjofeddkoaa", sum := "22276c25266c85e2573e6fa8421a4156370d41a1ea20358454f0a1ef83c13bf9", func := "dspcompiler/dspcompilerlaw01.NatDivides", spec := "natDivides", recurses := true, apart := false }
def NatDividesSaid : Prop := natDividesRow.holds Try.pinned (OpenSpec.ofChange natDividesSpec)

/-- ITS FALSE NEIGHBOUR: 'it returns false'. Refute it at one input. -/
def natDividesWrong : ChangeSpec := { name := "natDivides", fn := fun _ => fun
  | [d1, d2] => { results := [.lit (.bool false)], args := [d1, d2] }
  | _ => none }
def NatDividesWrongFalsely : Prop := natDividesRow.holds Try.pinned (OpenSpec.ofChange natDividesWrong)

/-- 'dspcompilerlaw01.NatGcds': WHATEVER THE INPUT: true; the input reads as it did. -/
def natGcdsSpec : ChangeSpec := { name := "natGcds", fn := fun _ => fun
  | [d1, d2, d3] => { results := [.lit (.bool true)], args := [d1, d2, d3] }
  | _ => none }
def natGcdsRow : OpenClaim := { program := "ytebmjjofeddkoaa", sum := "22276c25266c85e2573e6fa8421a4156370d41a1ea20358454f0a1ef83c13bf9", func := "dspcompiler/dspcompilerlaw01.NatGcds", spec := "natGcds", recurses := true, apart := false }
def NatGcdsSaid : Prop := natGcdsRow.holds Try.pinned (OpenSpec.ofChange natGcdsSpec)

/-- ITS FALSE NEIGHBOUR: 'it returns false'. Refute it at one input. -/
def natGcdsWrong : ChangeSpec := { name := "natGcds", fn := fun _ => fun
  | [d1, d2, d3] => { results := [.lit (.bool false)], args := [d1, d2, d3] }
  | _ => none }
def NatGcdsWrongFalsely : Prop := natGcdsRow.holds Try.pinned (OpenSpec.ofChange natGcdsWrong)

/-- 'dspcompilerlaw01.NatRoots': WHATEVER THE INPUT: true; the input reads as it did. -/
def natRootsSpec : ChangeSpec := { name := "natRoots", fn := fun _ => fun
  | [d1, d2] => { results := [.lit (.bool true)], args := [d1, d2] }
  | _ => none }
def natRootsRow : OpenClaim := { program := "ytebmjjofeddkoaa", sum := "22276c25266c85e2573e6fa8421a4156370d41a1ea20358454f0a1ef83c13bf9", func := "dspcompiler/dspcompilerlaw01.NatRoots", spec := "natRoots", recurses := true, apart := false }
def NatRootsSaid : Prop := natRootsRow.holds Try.pinned (OpenSpec.ofChange natRootsSpec)

/-- ITS FALSE NEIGHBOUR: 'it returns false'. Refute it at one input. -/
def natRootsWrong : ChangeSpec := { name := "natRoots", fn := fun _ => fun
  | [d1, d2] => { results := [.lit (.bool false)], args := [d1, d2] }
  | _ => none }
def NatRootsWrongFalsely : Prop := natRootsRow.holds Try.pinned (OpenSpec.ofChange natRootsWrong)

/-- 'dspcompilerlaw01.NatFresh': WHATEVER THE INPUT: true; the input reads as it did. -/
def natFreshSpec : ChangeSpec := { name := "natFresh", fn := fun _ => fun
  | [d1, d2] => { results := [.lit (.bool true)], args := [d1, d2] }
  | _ => none }
def natFreshRow : OpenClaim := { program := "ytebmjjofeddkoaa", sum := "22276c25266c85e2573e6fa8421a4156370d41a1ea20358454f0a1ef83c13bf9", func := "dspcompiler/dspcompilerlaw01.NatFresh", spec := "natFresh", recurses := true, apart := false }
def NatFreshSaid : Prop := natFreshRow.holds Try.pinned (OpenSpec.ofChange natFreshSpec)

/-- ITS FALSE NEIGHBOUR: 'it returns false'. Refute it at one input. -/
def natFreshWrong : ChangeSpec := { name := "natFresh", fn := fun _ => fun
  | [d1, d2] => { results := [.lit (.bool false)], args := [d1, d2] }
  | _ => none }
def NatFreshWrongFalsely : Prop := natFreshRow.holds Try.pinned (OpenSpec.ofChange natFreshWrong)

/- THE SECOND FORM. 'bulk': how many values and letters a reading holds, each counted each time it is reached (what is shared counts as often as it is met; a slice's spare places count too). A statement '..UptoSaid' is the law's where the arguments, and the package variables that the reading takes, are together of bulk at most 1048576: NARROWER than '..Said'. Prove '..Said' where nothing that the law and all that it calls make is longer than what came in: it says more and counts as full. Else prove '..UptoSaid'. A law counts once. -/
mutual
def uptoBulk {H : Type} : DataW H → Nat
  | .lit (.string bytes) => bytes.length + 1
  | .lit _ => 1
  | .nil => 1
  | .ptr d => uptoBulk d + 1
  | .slice elems spare => uptoBulkAll elems + uptoBulkAll spare + 1
  | .agg parts => uptoBulkAll parts + 1
  | .iface _ d => uptoBulk d + 1
  | .map entries => uptoBulkEntries entries + 1
  | .held _ => 1
def uptoBulkAll {H : Type} : List (DataW H) → Nat
  | [] => 0
  | d :: r => uptoBulk d + uptoBulkAll r
def uptoBulkEntries {H : Type} : List (Lit × DataW H) → Nat
  | [] => 0
  | x :: r => uptoBulkEntry x + uptoBulkEntries r
def uptoBulkEntry {H : Type} : Lit × DataW H → Nat
  | (.string bytes, d) => bytes.length + uptoBulk d + 1
  | (_, d) => uptoBulk d + 1
 end
def uptoSmall : (H : Type) → List (DataW H) → Bool := fun _ ds => decide (uptoBulkAll ds ≤ 1048576)
def OpenSpec.upto (s : _root_.Go.ChangeSpec) : _root_.Go.OpenSpec := { _root_.Go.OpenSpec.ofChange s with cond := some uptoSmall }

/-- 'dspcompilerlaw01.NatActs', WHERE WHAT IT READS IS OF BULK AT MOST 1048576: true; the input reads as it did. -/
def natActsUptoRow : OpenClaim := { program := "ytebmjjofeddkoaa", sum := "22276c25266c85e2573e6fa8421a4156370d41a1ea20358454f0a1ef83c13bf9", func := "dspcompiler/dspcompilerlaw01.NatActs", spec := "natActs", recurses := true, apart := false, narrowed := true }
def NatActsUptoSaid : Prop := natActsUptoRow.holds Try.pinned (OpenSpec.upto natActsSpec)

/-- 'dspcompilerlaw01.NatPowers', WHERE WHAT IT READS IS OF BULK AT MOST 1048576: true; the input reads as it did. -/
def natPowersUptoRow : OpenClaim := { program := "ytebmjjofeddkoaa", sum := "22276c25266c85e2573e6fa8421a4156370d41a1ea20358454f0a1ef83c13bf9", func := "dspcompiler/dspcompilerlaw01.NatPowers", spec := "natPowers", recurses := true, apart := false, narrowed := true }
def NatPowersUptoSaid : Prop := natPowersUptoRow.holds Try.pinned (OpenSpec.upto natPowersSpec)

/-- 'dspcompilerlaw01.NatTexts', WHERE WHAT IT READS IS OF BULK AT MOST 1048576: true; the input reads as it did. -/
def natTextsUptoRow : OpenClaim := { program := "ytebmjjofeddkoaa", sum := "22276c25266c85e2573e6fa8421a4156370d41a1ea20358454f0a1ef83c13bf9", func := "dspcompiler/dspcompilerlaw01.NatTexts", spec := "natTexts", recurses := true, apart := false, narrowed := true }
def NatTextsUptoSaid : Prop := natTextsUptoRow.holds Try.pinned (OpenSpec.upto natTextsSpec)

/-- 'dspcompilerlaw01.NatRing', WHERE WHAT IT READS IS OF BULK AT MOST 1048576: true; the input reads as it did. -/
def natRingUptoRow : OpenClaim := { program := "ytebmjjofeddkoaa", sum := "22276c25266c85e2573e6fa8421a4156370d41a1ea20358454f0a1ef83c13bf9", func := "dspcompiler/dspcompilerlaw01.NatRing", spec := "natRing", recurses := true, apart := false, narrowed := true }
def NatRingUptoSaid : Prop := natRingUptoRow.holds Try.pinned (OpenSpec.upto natRingSpec)

/-- 'dspcompilerlaw01.NatDivides', WHERE WHAT IT READS IS OF BULK AT MOST 1048576: true; the input reads as it did. -/
def natDividesUptoRow : OpenClaim := { program := "ytebmjjofeddkoaa", sum := "22276c25266c85e2573e6fa8421a4156370d41a1ea20358454f0a1ef83c13bf9", func := "dspcompiler/dspcompilerlaw01.NatDivides", spec := "natDivides", recurses := true, apart := false, narrowed := true }
def NatDividesUptoSaid : Prop := natDividesUptoRow.holds Try.pinned (OpenSpec.upto natDividesSpec)

/-- 'dspcompilerlaw01.NatGcds', WHERE WHAT IT READS IS OF BULK AT MOST 1048576: true; the input reads as it did. -/
def natGcdsUptoRow : OpenClaim := { program := "ytebmjjofeddkoaa", sum := "22276c25266c85e2573e6fa8421a4156370d41a1ea20358454f0a1ef83c13bf9", func := "dspcompiler/dspcompilerlaw01.NatGcds", spec := "natGcds", recurses := true, apart := false, narrowed := true }
def NatGcdsUptoSaid : Prop := natGcdsUptoRow.holds Try.pinned (OpenSpec.upto natGcdsSpec)

/-- 'dspcompilerlaw01.NatRoots', WHERE WHAT IT READS IS OF BULK AT MOST 1048576: true; the input reads as it did. -/
def natRootsUptoRow : OpenClaim := { program := "ytebmjjofeddkoaa", sum := "22276c25266c85e2573e6fa8421a4156370d41a1ea20358454f0a1ef83c13bf9", func := "dspcompiler/dspcompilerlaw01.NatRoots", spec := "natRoots", recurses := true, apart := false, narrowed := true }
def NatRootsUptoSaid : Prop := natRootsUptoRow.holds Try.pinned (OpenSpec.upto natRootsSpec)

/-- 'dspcompilerlaw01.NatFresh', WHERE WHAT IT READS IS OF BULK AT MOST 1048576: true; the input reads as it did. -/
def natFreshUptoRow : OpenClaim := { program := "ytebmjjofeddkoaa", sum := "22276c25266c85e2573e6fa8421a4156370d41a1ea20358454f0a1ef83c13bf9", func := "dspcompiler/dspcompilerlaw01.NatFresh", spec := "natFresh", recurses := true, apart := false, narrowed := true }
def NatFreshUptoSaid : Prop := natFreshUptoRow.holds Try.pinned (OpenSpec.upto natFreshSpec)

end Rows
end Go.Proofs.Ytebmjjofeddkoaa
