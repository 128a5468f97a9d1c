/- What the statements of this claim stand on: of IvM, Q15, what they name -/
import Derived.Test.YtagciepnhjbopaaGreatDoorA35
import Derived.Test.YtagciepnhjbopaaGreatDoorA39

namespace Go.Proofs.YtagciepnhjbopaaGreatDoor
def minQ (a b : Rat) : Rat := if b < a then b else a

def maxQ (a b : Rat) : Rat := if a < b then b else a

def insQ : List Rat → Rat → List Rat
  | [], x => [x]
  | y :: ys, x => if x < y then y :: insQ ys x else x :: y :: ys

def sort2 (a b : Rat) : List Rat := insQ [a] b

def sort4 (a b c d : Rat) : List Rat := insQ (insQ (insQ [a] b) c) d

def nthQ (l : List Rat) (i : Nat) : Rat := (l[i]?).getD 0

theorem sort2_lo (a b : Rat) : nthQ (sort2 a b) 1 = minQ a b := by
  unfold nthQ sort2 minQ insQ; grind [insQ]

theorem sort2_hi (a b : Rat) : nthQ (sort2 a b) 0 = maxQ a b := by
  unfold nthQ sort2 maxQ insQ; grind [insQ]

theorem sort4_lo (a b c d : Rat) : nthQ (sort4 a b c d) 3 = minQ (minQ a b) (minQ c d) := by
  unfold nthQ sort4 minQ insQ; grind [insQ]

theorem sort4_hi (a b c d : Rat) : nthQ (sort4 a b c d) 0 = maxQ (maxQ a b) (maxQ c d) := by
  unfold nthQ sort4 maxQ insQ; grind [insQ]

theorem cmp_lt (a b : Rat) : (cmpQ a b < 0) ↔ a < b := by unfold cmpQ; grind

theorem cmp_gt (a b : Rat) : (0 < cmpQ a b) ↔ b < a := by unfold cmpQ; grind

theorem cmp_le (a b : Rat) : (cmpQ a b ≤ 0) ↔ a ≤ b := by unfold cmpQ; grind

def min4 (a b c d : Rat) : Rat := minQ (minQ a b) (minQ c d)

def max4 (a b c d : Rat) : Rat := maxQ (maxQ a b) (maxQ c d)

end Go.Proofs.YtagciepnhjbopaaGreatDoor

namespace Go.Proofs.YtagciepnhjbopaaGreatDoor
open Go.RowKit En

noncomputable def tC : List Ent := [(23, ent [.r, .r] k_pcmp)]

theorem tC_ok : EntsOk tC := ⟨e_pcmp, trivial⟩

theorem lt_d {x y : Rat} (h : x < y) : decide (cmpQ x y < 0) = true := decide_eq_true ((cmp_lt _ _).2 h)

theorem nlt_d {x y : Rat} (h : ¬ x < y) : decide (cmpQ x y < 0) = false := decide_eq_false fun e => h ((cmp_lt _ _).1 e)

abbrev srt2 (k : Bool) (L : Nat) (a b : Rat) : List (Seg Kn) := [.sem (.rx k L (nthQ (sort2 a b) 1)), .sem (.rx k L (nthQ (sort2 a b) 0))]

theorem ins2 (k : Bool) (L : Nat) (a b : Rat) (hL : L ≤ 65535) : CnL 222 [.sl 0 0 2 2, avI 0, avI 2, .val false [.lit (.func (.func 23) ⟨[]⟩ ⟨[]⟩)]] 116 [.sem (.rx k L a), .sem (.rx k L b)] (.tup []) (srt2 k L a b) := by
  unfold srt2
  by_cases hba : b < a
  · have e : sort2 a b = [a, b] := by simp only [sort2, insQ, hba, ↓reduceIte]
    rw [e]
    exact (wkL (hint := (fun _ => none)) (es := tC) (alts := []) (ls := []) tC_ok trivial trivial (ds := [none, none, none, some true, none, none, none, none, none]) (fuel := 40) (obs := [L ≤ 65535, L ≤ 65535, decide (cmpQ b a < (0 : Int)) = true]) (r := AV.tup []) (ss' := [Seg.sem (Kn.rx k L b), Seg.sem (Kn.rx k L a)]) Tryz.func222 rfl (by kernel_rfl) ⟨hL, hL, lt_d hba, trivial⟩)
  · have e : sort2 a b = [b, a] := by simp only [sort2, insQ, hba, ↓reduceIte]
    rw [e]
    exact (wkL (hint := (fun _ => none)) (es := tC) (alts := []) (ls := []) tC_ok trivial trivial (ds := [none, none, none, some false, none, none]) (fuel := 40) (obs := [L ≤ 65535, L ≤ 65535, decide (cmpQ b a < (0 : Int)) = false]) (r := AV.tup []) (ss' := [Seg.sem (Kn.rx k L a), Seg.sem (Kn.rx k L b)]) Tryz.func222 rfl (by kernel_rfl) ⟨hL, hL, nlt_d hba, trivial⟩)

abbrev srt4 (k : Bool) (L : Nat) (a b c d : Rat) : List (Seg Kn) := [.sem (.rx k L (nthQ (sort4 a b c d) 3)), .sem (.rx k L (nthQ (sort4 a b c d) 2)), .sem (.rx k L (nthQ (sort4 a b c d) 1)), .sem (.rx k L (nthQ (sort4 a b c d) 0))]

theorem ins4 (k : Bool) (L : Nat) (a b c d : Rat) (hL : L ≤ 65535) : CnL 222 [.sl 0 0 4 4, avI 0, avI 4, .val false [.lit (.func (.func 23) ⟨[]⟩ ⟨[]⟩)]] 118 [.sem (.rx k L a), .sem (.rx k L b), .sem (.rx k L c), .sem (.rx k L d)] (.tup []) (srt4 k L a b c d) := by
  unfold srt4
  by_cases hba : b < a
  · by_cases hca : c < a
    · by_cases hcb : c < b
      · by_cases hda : d < a
        · by_cases hdb : d < b
          · by_cases hdc : d < c
            · have e : sort4 a b c d = [a, b, c, d] := by simp only [sort4, insQ, hba, hca, hcb, hda, hdb, hdc, ↓reduceIte]
              rw [e]
              exact (wkL (hint := (fun _ => none)) (es := tC) (alts := []) (ls := []) tC_ok trivial trivial (ds := [none, none, none, some true, none, none, none, none, none, none, none, some true, none, none, none, some true, none, none, none, none, none, none, none, some true, none, none, none, some true, none, none, none, some true, none, none, none, none, none]) (fuel := 40) (obs := [L ≤ 65535, L ≤ 65535, decide (cmpQ b a < (0 : Int)) = true, L ≤ 65535, L ≤ 65535, decide (cmpQ c a < (0 : Int)) = true, L ≤ 65535, L ≤ 65535, decide (cmpQ c b < (0 : Int)) = true, L ≤ 65535, L ≤ 65535, decide (cmpQ d a < (0 : Int)) = true, L ≤ 65535, L ≤ 65535, decide (cmpQ d b < (0 : Int)) = true, L ≤ 65535, L ≤ 65535, decide (cmpQ d c < (0 : Int)) = true]) (r := AV.tup []) (ss' := [Seg.sem (Kn.rx k L d), Seg.sem (Kn.rx k L c), Seg.sem (Kn.rx k L b), Seg.sem (Kn.rx k L a)]) Tryz.func222 rfl (by kernel_rfl) ⟨hL, hL, lt_d hba, hL, hL, lt_d hca, hL, hL, lt_d hcb, hL, hL, lt_d hda, hL, hL, lt_d hdb, hL, hL, lt_d hdc, trivial⟩)
            · have e : sort4 a b c d = [a, b, d, c] := by simp only [sort4, insQ, hba, hca, hcb, hda, hdb, hdc, ↓reduceIte]
              rw [e]
              exact (wkL (hint := (fun _ => none)) (es := tC) (alts := []) (ls := []) tC_ok trivial trivial (ds := [none, none, none, some true, none, none, none, none, none, none, none, some true, none, none, none, some true, none, none, none, none, none, none, none, some true, none, none, none, some true, none, none, none, some false, none, none]) (fuel := 40) (obs := [L ≤ 65535, L ≤ 65535, decide (cmpQ b a < (0 : Int)) = true, L ≤ 65535, L ≤ 65535, decide (cmpQ c a < (0 : Int)) = true, L ≤ 65535, L ≤ 65535, decide (cmpQ c b < (0 : Int)) = true, L ≤ 65535, L ≤ 65535, decide (cmpQ d a < (0 : Int)) = true, L ≤ 65535, L ≤ 65535, decide (cmpQ d b < (0 : Int)) = true, L ≤ 65535, L ≤ 65535, decide (cmpQ d c < (0 : Int)) = false]) (r := AV.tup []) (ss' := [Seg.sem (Kn.rx k L c), Seg.sem (Kn.rx k L d), Seg.sem (Kn.rx k L b), Seg.sem (Kn.rx k L a)]) Tryz.func222 rfl (by kernel_rfl) ⟨hL, hL, lt_d hba, hL, hL, lt_d hca, hL, hL, lt_d hcb, hL, hL, lt_d hda, hL, hL, lt_d hdb, hL, hL, nlt_d hdc, trivial⟩)
          · have e : sort4 a b c d = [a, d, b, c] := by simp only [sort4, insQ, hba, hca, hcb, hda, hdb, ↓reduceIte]
            rw [e]
            exact (wkL (hint := (fun _ => none)) (es := tC) (alts := []) (ls := []) tC_ok trivial trivial (ds := [none, none, none, some true, none, none, none, none, none, none, none, some true, none, none, none, some true, none, none, none, none, none, none, none, some true, none, none, none, some false, none, none]) (fuel := 40) (obs := [L ≤ 65535, L ≤ 65535, decide (cmpQ b a < (0 : Int)) = true, L ≤ 65535, L ≤ 65535, decide (cmpQ c a < (0 : Int)) = true, L ≤ 65535, L ≤ 65535, decide (cmpQ c b < (0 : Int)) = true, L ≤ 65535, L ≤ 65535, decide (cmpQ d a < (0 : Int)) = true, L ≤ 65535, L ≤ 65535, decide (cmpQ d b < (0 : Int)) = false]) (r := AV.tup []) (ss' := [Seg.sem (Kn.rx k L c), Seg.sem (Kn.rx k L b), Seg.sem (Kn.rx k L d), Seg.sem (Kn.rx k L a)]) Tryz.func222 rfl (by kernel_rfl) ⟨hL, hL, lt_d hba, hL, hL, lt_d hca, hL, hL, lt_d hcb, hL, hL, lt_d hda, hL, hL, nlt_d hdb, trivial⟩)
        · have e : sort4 a b c d = [d, a, b, c] := by simp only [sort4, insQ, hba, hca, hcb, hda, ↓reduceIte]
          rw [e]
          exact (wkL (hint := (fun _ => none)) (es := tC) (alts := []) (ls := []) tC_ok trivial trivial (ds := [none, none, none, some true, none, none, none, none, none, none, none, some true, none, none, none, some true, none, none, none, none, none, none, none, some false, none, none]) (fuel := 40) (obs := [L ≤ 65535, L ≤ 65535, decide (cmpQ b a < (0 : Int)) = true, L ≤ 65535, L ≤ 65535, decide (cmpQ c a < (0 : Int)) = true, L ≤ 65535, L ≤ 65535, decide (cmpQ c b < (0 : Int)) = true, L ≤ 65535, L ≤ 65535, decide (cmpQ d a < (0 : Int)) = false]) (r := AV.tup []) (ss' := [Seg.sem (Kn.rx k L c), Seg.sem (Kn.rx k L b), Seg.sem (Kn.rx k L a), Seg.sem (Kn.rx k L d)]) Tryz.func222 rfl (by kernel_rfl) ⟨hL, hL, lt_d hba, hL, hL, lt_d hca, hL, hL, lt_d hcb, hL, hL, nlt_d hda, trivial⟩)
      · by_cases hda : d < a
        · by_cases hdc : d < c
          · by_cases hdb : d < b
            · have e : sort4 a b c d = [a, c, b, d] := by simp only [sort4, insQ, hba, hca, hcb, hda, hdc, hdb, ↓reduceIte]
              rw [e]
              exact (wkL (hint := (fun _ => none)) (es := tC) (alts := []) (ls := []) tC_ok trivial trivial (ds := [none, none, none, some true, none, none, none, none, none, none, none, some true, none, none, none, some false, none, none, none, none, some true, none, none, none, some true, none, none, none, some true, none, none, none, none, none]) (fuel := 40) (obs := [L ≤ 65535, L ≤ 65535, decide (cmpQ b a < (0 : Int)) = true, L ≤ 65535, L ≤ 65535, decide (cmpQ c a < (0 : Int)) = true, L ≤ 65535, L ≤ 65535, decide (cmpQ c b < (0 : Int)) = false, L ≤ 65535, L ≤ 65535, decide (cmpQ d a < (0 : Int)) = true, L ≤ 65535, L ≤ 65535, decide (cmpQ d c < (0 : Int)) = true, L ≤ 65535, L ≤ 65535, decide (cmpQ d b < (0 : Int)) = true]) (r := AV.tup []) (ss' := [Seg.sem (Kn.rx k L d), Seg.sem (Kn.rx k L b), Seg.sem (Kn.rx k L c), Seg.sem (Kn.rx k L a)]) Tryz.func222 rfl (by kernel_rfl) ⟨hL, hL, lt_d hba, hL, hL, lt_d hca, hL, hL, nlt_d hcb, hL, hL, lt_d hda, hL, hL, lt_d hdc, hL, hL, lt_d hdb, trivial⟩)
            · have e : sort4 a b c d = [a, c, d, b] := by simp only [sort4, insQ, hba, hca, hcb, hda, hdc, hdb, ↓reduceIte]
              rw [e]
              exact (wkL (hint := (fun _ => none)) (es := tC) (alts := []) (ls := []) tC_ok trivial trivial (ds := [none, none, none, some true, none, none, none, none, none, none, none, some true, none, none, none, some false, none, none, none, none, some true, none, none, none, some true, none, none, none, some false, none, none]) (fuel := 40) (obs := [L ≤ 65535, L ≤ 65535, decide (cmpQ b a < (0 : Int)) = true, L ≤ 65535, L ≤ 65535, decide (cmpQ c a < (0 : Int)) = true, L ≤ 65535, L ≤ 65535, decide (cmpQ c b < (0 : Int)) = false, L ≤ 65535, L ≤ 65535, decide (cmpQ d a < (0 : Int)) = true, L ≤ 65535, L ≤ 65535, decide (cmpQ d c < (0 : Int)) = true, L ≤ 65535, L ≤ 65535, decide (cmpQ d b < (0 : Int)) = false]) (r := AV.tup []) (ss' := [Seg.sem (Kn.rx k L b), Seg.sem (Kn.rx k L d), Seg.sem (Kn.rx k L c), Seg.sem (Kn.rx k L a)]) Tryz.func222 rfl (by kernel_rfl) ⟨hL, hL, lt_d hba, hL, hL, lt_d hca, hL, hL, nlt_d hcb, hL, hL, lt_d hda, hL, hL, lt_d hdc, hL, hL, nlt_d hdb, trivial⟩)
          · have e : sort4 a b c d = [a, d, c, b] := by simp only [sort4, insQ, hba, hca, hcb, hda, hdc, ↓reduceIte]
            rw [e]
            exact (wkL (hint := (fun _ => none)) (es := tC) (alts := []) (ls := []) tC_ok trivial trivial (ds := [none, none, none, some true, none, none, none, none, none, none, none, some true, none, none, none, some false, none, none, none, none, some true, none, none, none, some false, none, none]) (fuel := 40) (obs := [L ≤ 65535, L ≤ 65535, decide (cmpQ b a < (0 : Int)) = true, L ≤ 65535, L ≤ 65535, decide (cmpQ c a < (0 : Int)) = true, L ≤ 65535, L ≤ 65535, decide (cmpQ c b < (0 : Int)) = false, L ≤ 65535, L ≤ 65535, decide (cmpQ d a < (0 : Int)) = true, L ≤ 65535, L ≤ 65535, decide (cmpQ d c < (0 : Int)) = false]) (r := AV.tup []) (ss' := [Seg.sem (Kn.rx k L b), Seg.sem (Kn.rx k L c), Seg.sem (Kn.rx k L d), Seg.sem (Kn.rx k L a)]) Tryz.func222 rfl (by kernel_rfl) ⟨hL, hL, lt_d hba, hL, hL, lt_d hca, hL, hL, nlt_d hcb, hL, hL, lt_d hda, hL, hL, nlt_d hdc, trivial⟩)
        · have e : sort4 a b c d = [d, a, c, b] := by simp only [sort4, insQ, hba, hca, hcb, hda, ↓reduceIte]
          rw [e]
          exact (wkL (hint := (fun _ => none)) (es := tC) (alts := []) (ls := []) tC_ok trivial trivial (ds := [none, none, none, some true, none, none, none, none, none, none, none, some true, none, none, none, some false, none, none, none, none, some false, none, none]) (fuel := 40) (obs := [L ≤ 65535, L ≤ 65535, decide (cmpQ b a < (0 : Int)) = true, L ≤ 65535, L ≤ 65535, decide (cmpQ c a < (0 : Int)) = true, L ≤ 65535, L ≤ 65535, decide (cmpQ c b < (0 : Int)) = false, L ≤ 65535, L ≤ 65535, decide (cmpQ d a < (0 : Int)) = false]) (r := AV.tup []) (ss' := [Seg.sem (Kn.rx k L b), Seg.sem (Kn.rx k L c), Seg.sem (Kn.rx k L a), Seg.sem (Kn.rx k L d)]) Tryz.func222 rfl (by kernel_rfl) ⟨hL, hL, lt_d hba, hL, hL, lt_d hca, hL, hL, nlt_d hcb, hL, hL, nlt_d hda, trivial⟩)
    · by_cases hdc : d < c
      · by_cases hda : d < a
        · by_cases hdb : d < b
          · have e : sort4 a b c d = [c, a, b, d] := by simp only [sort4, insQ, hba, hca, hdc, hda, hdb, ↓reduceIte]
            rw [e]
            exact (wkL (hint := (fun _ => none)) (es := tC) (alts := []) (ls := []) tC_ok trivial trivial (ds := [none, none, none, some true, none, none, none, none, none, none, none, some false, none, none, none, none, some true, none, none, none, some true, none, none, none, some true, none, none, none, none, none]) (fuel := 40) (obs := [L ≤ 65535, L ≤ 65535, decide (cmpQ b a < (0 : Int)) = true, L ≤ 65535, L ≤ 65535, decide (cmpQ c a < (0 : Int)) = false, L ≤ 65535, L ≤ 65535, decide (cmpQ d c < (0 : Int)) = true, L ≤ 65535, L ≤ 65535, decide (cmpQ d a < (0 : Int)) = true, L ≤ 65535, L ≤ 65535, decide (cmpQ d b < (0 : Int)) = true]) (r := AV.tup []) (ss' := [Seg.sem (Kn.rx k L d), Seg.sem (Kn.rx k L b), Seg.sem (Kn.rx k L a), Seg.sem (Kn.rx k L c)]) Tryz.func222 rfl (by kernel_rfl) ⟨hL, hL, lt_d hba, hL, hL, nlt_d hca, hL, hL, lt_d hdc, hL, hL, lt_d hda, hL, hL, lt_d hdb, trivial⟩)
          · have e : sort4 a b c d = [c, a, d, b] := by simp only [sort4, insQ, hba, hca, hdc, hda, hdb, ↓reduceIte]
            rw [e]
            exact (wkL (hint := (fun _ => none)) (es := tC) (alts := []) (ls := []) tC_ok trivial trivial (ds := [none, none, none, some true, none, none, none, none, none, none, none, some false, none, none, none, none, some true, none, none, none, some true, none, none, none, some false, none, none]) (fuel := 40) (obs := [L ≤ 65535, L ≤ 65535, decide (cmpQ b a < (0 : Int)) = true, L ≤ 65535, L ≤ 65535, decide (cmpQ c a < (0 : Int)) = false, L ≤ 65535, L ≤ 65535, decide (cmpQ d c < (0 : Int)) = true, L ≤ 65535, L ≤ 65535, decide (cmpQ d a < (0 : Int)) = true, L ≤ 65535, L ≤ 65535, decide (cmpQ d b < (0 : Int)) = false]) (r := AV.tup []) (ss' := [Seg.sem (Kn.rx k L b), Seg.sem (Kn.rx k L d), Seg.sem (Kn.rx k L a), Seg.sem (Kn.rx k L c)]) Tryz.func222 rfl (by kernel_rfl) ⟨hL, hL, lt_d hba, hL, hL, nlt_d hca, hL, hL, lt_d hdc, hL, hL, lt_d hda, hL, hL, nlt_d hdb, trivial⟩)
        · have e : sort4 a b c d = [c, d, a, b] := by simp only [sort4, insQ, hba, hca, hdc, hda, ↓reduceIte]
          rw [e]
          exact (wkL (hint := (fun _ => none)) (es := tC) (alts := []) (ls := []) tC_ok trivial trivial (ds := [none, none, none, some true, none, none, none, none, none, none, none, some false, none, none, none, none, some true, none, none, none, some false, none, none]) (fuel := 40) (obs := [L ≤ 65535, L ≤ 65535, decide (cmpQ b a < (0 : Int)) = true, L ≤ 65535, L ≤ 65535, decide (cmpQ c a < (0 : Int)) = false, L ≤ 65535, L ≤ 65535, decide (cmpQ d c < (0 : Int)) = true, L ≤ 65535, L ≤ 65535, decide (cmpQ d a < (0 : Int)) = false]) (r := AV.tup []) (ss' := [Seg.sem (Kn.rx k L b), Seg.sem (Kn.rx k L a), Seg.sem (Kn.rx k L d), Seg.sem (Kn.rx k L c)]) Tryz.func222 rfl (by kernel_rfl) ⟨hL, hL, lt_d hba, hL, hL, nlt_d hca, hL, hL, lt_d hdc, hL, hL, nlt_d hda, trivial⟩)
      · have e : sort4 a b c d = [d, c, a, b] := by simp only [sort4, insQ, hba, hca, hdc, ↓reduceIte]
        rw [e]
        exact (wkL (hint := (fun _ => none)) (es := tC) (alts := []) (ls := []) tC_ok trivial trivial (ds := [none, none, none, some true, none, none, none, none, none, none, none, some false, none, none, none, none, some false, none, none]) (fuel := 40) (obs := [L ≤ 65535, L ≤ 65535, decide (cmpQ b a < (0 : Int)) = true, L ≤ 65535, L ≤ 65535, decide (cmpQ c a < (0 : Int)) = false, L ≤ 65535, L ≤ 65535, decide (cmpQ d c < (0 : Int)) = false]) (r := AV.tup []) (ss' := [Seg.sem (Kn.rx k L b), Seg.sem (Kn.rx k L a), Seg.sem (Kn.rx k L c), Seg.sem (Kn.rx k L d)]) Tryz.func222 rfl (by kernel_rfl) ⟨hL, hL, lt_d hba, hL, hL, nlt_d hca, hL, hL, nlt_d hdc, trivial⟩)
  · by_cases hcb : c < b
    · by_cases hca : c < a
      · by_cases hdb : d < b
        · by_cases hda : d < a
          · by_cases hdc : d < c
            · have e : sort4 a b c d = [b, a, c, d] := by simp only [sort4, insQ, hba, hcb, hca, hdb, hda, hdc, ↓reduceIte]
              rw [e]
              exact (wkL (hint := (fun _ => none)) (es := tC) (alts := []) (ls := []) tC_ok trivial trivial (ds := [none, none, none, some false, none, none, none, none, some true, none, none, none, some true, none, none, none, none, none, none, none, some true, none, none, none, some true, none, none, none, some true, none, none, none, none, none]) (fuel := 40) (obs := [L ≤ 65535, L ≤ 65535, decide (cmpQ b a < (0 : Int)) = false, L ≤ 65535, L ≤ 65535, decide (cmpQ c b < (0 : Int)) = true, L ≤ 65535, L ≤ 65535, decide (cmpQ c a < (0 : Int)) = true, L ≤ 65535, L ≤ 65535, decide (cmpQ d b < (0 : Int)) = true, L ≤ 65535, L ≤ 65535, decide (cmpQ d a < (0 : Int)) = true, L ≤ 65535, L ≤ 65535, decide (cmpQ d c < (0 : Int)) = true]) (r := AV.tup []) (ss' := [Seg.sem (Kn.rx k L d), Seg.sem (Kn.rx k L c), Seg.sem (Kn.rx k L a), Seg.sem (Kn.rx k L b)]) Tryz.func222 rfl (by kernel_rfl) ⟨hL, hL, nlt_d hba, hL, hL, lt_d hcb, hL, hL, lt_d hca, hL, hL, lt_d hdb, hL, hL, lt_d hda, hL, hL, lt_d hdc, trivial⟩)
            · have e : sort4 a b c d = [b, a, d, c] := by simp only [sort4, insQ, hba, hcb, hca, hdb, hda, hdc, ↓reduceIte]
              rw [e]
              exact (wkL (hint := (fun _ => none)) (es := tC) (alts := []) (ls := []) tC_ok trivial trivial (ds := [none, none, none, some false, none, none, none, none, some true, none, none, none, some true, none, none, none, none, none, none, none, some true, none, none, none, some true, none, none, none, some false, none, none]) (fuel := 40) (obs := [L ≤ 65535, L ≤ 65535, decide (cmpQ b a < (0 : Int)) = false, L ≤ 65535, L ≤ 65535, decide (cmpQ c b < (0 : Int)) = true, L ≤ 65535, L ≤ 65535, decide (cmpQ c a < (0 : Int)) = true, L ≤ 65535, L ≤ 65535, decide (cmpQ d b < (0 : Int)) = true, L ≤ 65535, L ≤ 65535, decide (cmpQ d a < (0 : Int)) = true, L ≤ 65535, L ≤ 65535, decide (cmpQ d c < (0 : Int)) = false]) (r := AV.tup []) (ss' := [Seg.sem (Kn.rx k L c), Seg.sem (Kn.rx k L d), Seg.sem (Kn.rx k L a), Seg.sem (Kn.rx k L b)]) Tryz.func222 rfl (by kernel_rfl) ⟨hL, hL, nlt_d hba, hL, hL, lt_d hcb, hL, hL, lt_d hca, hL, hL, lt_d hdb, hL, hL, lt_d hda, hL, hL, nlt_d hdc, trivial⟩)
          · have e : sort4 a b c d = [b, d, a, c] := by simp only [sort4, insQ, hba, hcb, hca, hdb, hda, ↓reduceIte]
            rw [e]
            exact (wkL (hint := (fun _ => none)) (es := tC) (alts := []) (ls := []) tC_ok trivial trivial (ds := [none, none, none, some false, none, none, none, none, some true, none, none, none, some true, none, none, none, none, none, none, none, some true, none, none, none, some false, none, none]) (fuel := 40) (obs := [L ≤ 65535, L ≤ 65535, decide (cmpQ b a < (0 : Int)) = false, L ≤ 65535, L ≤ 65535, decide (cmpQ c b < (0 : Int)) = true, L ≤ 65535, L ≤ 65535, decide (cmpQ c a < (0 : Int)) = true, L ≤ 65535, L ≤ 65535, decide (cmpQ d b < (0 : Int)) = true, L ≤ 65535, L ≤ 65535, decide (cmpQ d a < (0 : Int)) = false]) (r := AV.tup []) (ss' := [Seg.sem (Kn.rx k L c), Seg.sem (Kn.rx k L a), Seg.sem (Kn.rx k L d), Seg.sem (Kn.rx k L b)]) Tryz.func222 rfl (by kernel_rfl) ⟨hL, hL, nlt_d hba, hL, hL, lt_d hcb, hL, hL, lt_d hca, hL, hL, lt_d hdb, hL, hL, nlt_d hda, trivial⟩)
        · have e : sort4 a b c d = [d, b, a, c] := by simp only [sort4, insQ, hba, hcb, hca, hdb, ↓reduceIte]
          rw [e]
          exact (wkL (hint := (fun _ => none)) (es := tC) (alts := []) (ls := []) tC_ok trivial trivial (ds := [none, none, none, some false, none, none, none, none, some true, none, none, none, some true, none, none, none, none, none, none, none, some false, none, none]) (fuel := 40) (obs := [L ≤ 65535, L ≤ 65535, decide (cmpQ b a < (0 : Int)) = false, L ≤ 65535, L ≤ 65535, decide (cmpQ c b < (0 : Int)) = true, L ≤ 65535, L ≤ 65535, decide (cmpQ c a < (0 : Int)) = true, L ≤ 65535, L ≤ 65535, decide (cmpQ d b < (0 : Int)) = false]) (r := AV.tup []) (ss' := [Seg.sem (Kn.rx k L c), Seg.sem (Kn.rx k L a), Seg.sem (Kn.rx k L b), Seg.sem (Kn.rx k L d)]) Tryz.func222 rfl (by kernel_rfl) ⟨hL, hL, nlt_d hba, hL, hL, lt_d hcb, hL, hL, lt_d hca, hL, hL, nlt_d hdb, trivial⟩)
      · by_cases hdb : d < b
        · by_cases hdc : d < c
          · by_cases hda : d < a
            · have e : sort4 a b c d = [b, c, a, d] := by simp only [sort4, insQ, hba, hcb, hca, hdb, hdc, hda, ↓reduceIte]
              rw [e]
              exact (wkL (hint := (fun _ => none)) (es := tC) (alts := []) (ls := []) tC_ok trivial trivial (ds := [none, none, none, some false, none, none, none, none, some true, none, none, none, some false, none, none, none, none, some true, none, none, none, some true, none, none, none, some true, none, none, none, none, none]) (fuel := 40) (obs := [L ≤ 65535, L ≤ 65535, decide (cmpQ b a < (0 : Int)) = false, L ≤ 65535, L ≤ 65535, decide (cmpQ c b < (0 : Int)) = true, L ≤ 65535, L ≤ 65535, decide (cmpQ c a < (0 : Int)) = false, L ≤ 65535, L ≤ 65535, decide (cmpQ d b < (0 : Int)) = true, L ≤ 65535, L ≤ 65535, decide (cmpQ d c < (0 : Int)) = true, L ≤ 65535, L ≤ 65535, decide (cmpQ d a < (0 : Int)) = true]) (r := AV.tup []) (ss' := [Seg.sem (Kn.rx k L d), Seg.sem (Kn.rx k L a), Seg.sem (Kn.rx k L c), Seg.sem (Kn.rx k L b)]) Tryz.func222 rfl (by kernel_rfl) ⟨hL, hL, nlt_d hba, hL, hL, lt_d hcb, hL, hL, nlt_d hca, hL, hL, lt_d hdb, hL, hL, lt_d hdc, hL, hL, lt_d hda, trivial⟩)
            · have e : sort4 a b c d = [b, c, d, a] := by simp only [sort4, insQ, hba, hcb, hca, hdb, hdc, hda, ↓reduceIte]
              rw [e]
              exact (wkL (hint := (fun _ => none)) (es := tC) (alts := []) (ls := []) tC_ok trivial trivial (ds := [none, none, none, some false, none, none, none, none, some true, none, none, none, some false, none, none, none, none, some true, none, none, none, some true, none, none, none, some false, none, none]) (fuel := 40) (obs := [L ≤ 65535, L ≤ 65535, decide (cmpQ b a < (0 : Int)) = false, L ≤ 65535, L ≤ 65535, decide (cmpQ c b < (0 : Int)) = true, L ≤ 65535, L ≤ 65535, decide (cmpQ c a < (0 : Int)) = false, L ≤ 65535, L ≤ 65535, decide (cmpQ d b < (0 : Int)) = true, L ≤ 65535, L ≤ 65535, decide (cmpQ d c < (0 : Int)) = true, L ≤ 65535, L ≤ 65535, decide (cmpQ d a < (0 : Int)) = false]) (r := AV.tup []) (ss' := [Seg.sem (Kn.rx k L a), Seg.sem (Kn.rx k L d), Seg.sem (Kn.rx k L c), Seg.sem (Kn.rx k L b)]) Tryz.func222 rfl (by kernel_rfl) ⟨hL, hL, nlt_d hba, hL, hL, lt_d hcb, hL, hL, nlt_d hca, hL, hL, lt_d hdb, hL, hL, lt_d hdc, hL, hL, nlt_d hda, trivial⟩)
          · have e : sort4 a b c d = [b, d, c, a] := by simp only [sort4, insQ, hba, hcb, hca, hdb, hdc, ↓reduceIte]
            rw [e]
            exact (wkL (hint := (fun _ => none)) (es := tC) (alts := []) (ls := []) tC_ok trivial trivial (ds := [none, none, none, some false, none, none, none, none, some true, none, none, none, some false, none, none, none, none, some true, none, none, none, some false, none, none]) (fuel := 40) (obs := [L ≤ 65535, L ≤ 65535, decide (cmpQ b a < (0 : Int)) = false, L ≤ 65535, L ≤ 65535, decide (cmpQ c b < (0 : Int)) = true, L ≤ 65535, L ≤ 65535, decide (cmpQ c a < (0 : Int)) = false, L ≤ 65535, L ≤ 65535, decide (cmpQ d b < (0 : Int)) = true, L ≤ 65535, L ≤ 65535, decide (cmpQ d c < (0 : Int)) = false]) (r := AV.tup []) (ss' := [Seg.sem (Kn.rx k L a), Seg.sem (Kn.rx k L c), Seg.sem (Kn.rx k L d), Seg.sem (Kn.rx k L b)]) Tryz.func222 rfl (by kernel_rfl) ⟨hL, hL, nlt_d hba, hL, hL, lt_d hcb, hL, hL, nlt_d hca, hL, hL, lt_d hdb, hL, hL, nlt_d hdc, trivial⟩)
        · have e : sort4 a b c d = [d, b, c, a] := by simp only [sort4, insQ, hba, hcb, hca, hdb, ↓reduceIte]
          rw [e]
          exact (wkL (hint := (fun _ => none)) (es := tC) (alts := []) (ls := []) tC_ok trivial trivial (ds := [none, none, none, some false, none, none, none, none, some true, none, none, none, some false, none, none, none, none, some false, none, none]) (fuel := 40) (obs := [L ≤ 65535, L ≤ 65535, decide (cmpQ b a < (0 : Int)) = false, L ≤ 65535, L ≤ 65535, decide (cmpQ c b < (0 : Int)) = true, L ≤ 65535, L ≤ 65535, decide (cmpQ c a < (0 : Int)) = false, L ≤ 65535, L ≤ 65535, decide (cmpQ d b < (0 : Int)) = false]) (r := AV.tup []) (ss' := [Seg.sem (Kn.rx k L a), Seg.sem (Kn.rx k L c), Seg.sem (Kn.rx k L b), Seg.sem (Kn.rx k L d)]) Tryz.func222 rfl (by kernel_rfl) ⟨hL, hL, nlt_d hba, hL, hL, lt_d hcb, hL, hL, nlt_d hca, hL, hL, nlt_d hdb, trivial⟩)
    · by_cases hdc : d < c
      · by_cases hdb : d < b
        · by_cases hda : d < a
          · have e : sort4 a b c d = [c, b, a, d] := by simp only [sort4, insQ, hba, hcb, hdc, hdb, hda, ↓reduceIte]
            rw [e]
            exact (wkL (hint := (fun _ => none)) (es := tC) (alts := []) (ls := []) tC_ok trivial trivial (ds := [none, none, none, some false, none, none, none, none, some false, none, none, none, none, some true, none, none, none, some true, none, none, none, some true, none, none, none, none, none]) (fuel := 40) (obs := [L ≤ 65535, L ≤ 65535, decide (cmpQ b a < (0 : Int)) = false, L ≤ 65535, L ≤ 65535, decide (cmpQ c b < (0 : Int)) = false, L ≤ 65535, L ≤ 65535, decide (cmpQ d c < (0 : Int)) = true, L ≤ 65535, L ≤ 65535, decide (cmpQ d b < (0 : Int)) = true, L ≤ 65535, L ≤ 65535, decide (cmpQ d a < (0 : Int)) = true]) (r := AV.tup []) (ss' := [Seg.sem (Kn.rx k L d), Seg.sem (Kn.rx k L a), Seg.sem (Kn.rx k L b), Seg.sem (Kn.rx k L c)]) Tryz.func222 rfl (by kernel_rfl) ⟨hL, hL, nlt_d hba, hL, hL, nlt_d hcb, hL, hL, lt_d hdc, hL, hL, lt_d hdb, hL, hL, lt_d hda, trivial⟩)
          · have e : sort4 a b c d = [c, b, d, a] := by simp only [sort4, insQ, hba, hcb, hdc, hdb, hda, ↓reduceIte]
            rw [e]
            exact (wkL (hint := (fun _ => none)) (es := tC) (alts := []) (ls := []) tC_ok trivial trivial (ds := [none, none, none, some false, none, none, none, none, some false, none, none, none, none, some true, none, none, none, some true, none, none, none, some false, none, none]) (fuel := 40) (obs := [L ≤ 65535, L ≤ 65535, decide (cmpQ b a < (0 : Int)) = false, L ≤ 65535, L ≤ 65535, decide (cmpQ c b < (0 : Int)) = false, L ≤ 65535, L ≤ 65535, decide (cmpQ d c < (0 : Int)) = true, L ≤ 65535, L ≤ 65535, decide (cmpQ d b < (0 : Int)) = true, L ≤ 65535, L ≤ 65535, decide (cmpQ d a < (0 : Int)) = false]) (r := AV.tup []) (ss' := [Seg.sem (Kn.rx k L a), Seg.sem (Kn.rx k L d), Seg.sem (Kn.rx k L b), Seg.sem (Kn.rx k L c)]) Tryz.func222 rfl (by kernel_rfl) ⟨hL, hL, nlt_d hba, hL, hL, nlt_d hcb, hL, hL, lt_d hdc, hL, hL, lt_d hdb, hL, hL, nlt_d hda, trivial⟩)
        · have e : sort4 a b c d = [c, d, b, a] := by simp only [sort4, insQ, hba, hcb, hdc, hdb, ↓reduceIte]
          rw [e]
          exact (wkL (hint := (fun _ => none)) (es := tC) (alts := []) (ls := []) tC_ok trivial trivial (ds := [none, none, none, some false, none, none, none, none, some false, none, none, none, none, some true, none, none, none, some false, none, none]) (fuel := 40) (obs := [L ≤ 65535, L ≤ 65535, decide (cmpQ b a < (0 : Int)) = false, L ≤ 65535, L ≤ 65535, decide (cmpQ c b < (0 : Int)) = false, L ≤ 65535, L ≤ 65535, decide (cmpQ d c < (0 : Int)) = true, L ≤ 65535, L ≤ 65535, decide (cmpQ d b < (0 : Int)) = false]) (r := AV.tup []) (ss' := [Seg.sem (Kn.rx k L a), Seg.sem (Kn.rx k L b), Seg.sem (Kn.rx k L d), Seg.sem (Kn.rx k L c)]) Tryz.func222 rfl (by kernel_rfl) ⟨hL, hL, nlt_d hba, hL, hL, nlt_d hcb, hL, hL, lt_d hdc, hL, hL, nlt_d hdb, trivial⟩)
      · have e : sort4 a b c d = [d, c, b, a] := by simp only [sort4, insQ, hba, hcb, hdc, ↓reduceIte]
        rw [e]
        exact (wkL (hint := (fun _ => none)) (es := tC) (alts := []) (ls := []) tC_ok trivial trivial (ds := [none, none, none, some false, none, none, none, none, some false, none, none, none, none, some false, none, none]) (fuel := 40) (obs := [L ≤ 65535, L ≤ 65535, decide (cmpQ b a < (0 : Int)) = false, L ≤ 65535, L ≤ 65535, decide (cmpQ c b < (0 : Int)) = false, L ≤ 65535, L ≤ 65535, decide (cmpQ d c < (0 : Int)) = false]) (r := AV.tup []) (ss' := [Seg.sem (Kn.rx k L a), Seg.sem (Kn.rx k L b), Seg.sem (Kn.rx k L c), Seg.sem (Kn.rx k L d)]) Tryz.func222 rfl (by kernel_rfl) ⟨hL, hL, nlt_d hba, hL, hL, nlt_d hcb, hL, hL, nlt_d hdc, trivial⟩)

def tL0 : List Ent := []

theorem tL0_ok : EntsOk tL0 := trivial

theorem len2 : Cn 216 [.val false [.lit (.int .u64 2)]] (avI 2) := (wk tL0_ok (ds := []) (fuel := 40) (obs := []) (r := AV.val false [Seg.lit (Value.int IntKind.i64 (IntKind.wrap IntKind.i64 ((0 : Int) + IntKind.wrap IntKind.i64 (↑2 : Int))))]) Tryz.func216 rfl (by kernel_rfl) trivial)

theorem len4 : Cn 216 [.val false [.lit (.int .u64 4)]] (avI 3) := (wk tL0_ok (ds := []) (fuel := 40) (obs := []) (r := AV.val false [Seg.lit (Value.int IntKind.i64 (IntKind.wrap IntKind.i64 ((0 : Int) + IntKind.wrap IntKind.i64 (↑3 : Int))))]) Tryz.func216 rfl (by kernel_rfl) trivial)

abbrev k_len : List Av → Option (List Prop × Av)
  | [.val false [.lit (.int .u64 2)]] => some ([], avI 2)
  | [.val false [.lit (.int .u64 4)]] => some ([], avI 3)
  | _ => none

theorem e_len64 (args : List Av) (obs : List Prop) (r : Av) (h : k_len args = some (obs, r)) (_ho : ∀ p ∈ obs, p) : Cn 216 args r := by
  unfold k_len at h
  split at h
  · cases h; exact len2
  · cases h; exact len4
  · cases h

def tL1 : List Ent := [(216, k_len)]

theorem tL1_ok : EntsOk tL1 := ⟨e_len64, trivial⟩

theorem len2' : Cn 202 [.val false [.lit (.int .u64 2)]] (avI 2) := (wk tL1_ok (ds := []) (fuel := 40) (obs := []) (r := AV.val false [Seg.lit (Value.int IntKind.i64 (2 : Int))]) Tryz.func202 rfl (by kernel_rfl) trivial)

theorem len4' : Cn 202 [.val false [.lit (.int .u64 4)]] (avI 3) := (wk tL1_ok (ds := []) (fuel := 40) (obs := []) (r := AV.val false [Seg.lit (Value.int IntKind.i64 (3 : Int))]) Tryz.func202 rfl (by kernel_rfl) trivial)

theorem e_len (args : List Av) (obs : List Prop) (r : Av) (h : k_len args = some (obs, r)) (_ho : ∀ p ∈ obs, p) : Cn 202 args r := by
  unfold k_len at h
  split at h
  · cases h; exact len2'
  · cases h; exact len4'
  · cases h

def tL : List Ent := [(202, k_len)]

theorem tL_ok : EntsOk tL := ⟨e_len, trivial⟩

abbrev kl_ins : List Av → TypeId → List (Seg Kn) → Option (List Prop × Av × List (Seg Kn))
  | [.sl 0 0 2 2, .val false [.lit (.int .i64 0)], .val false [.lit (.int .i64 2)], .val false [.lit (.func (.func 23) ⟨[]⟩ ⟨[]⟩)]], 116, [.sem (.rx k L a), .sem (.rx k1 L1 b)] => some ([k1 = k ∧ L1 = L ∧ L ≤ 65535], .tup [], srt2 k L a b)
  | [.sl 0 0 4 4, .val false [.lit (.int .i64 0)], .val false [.lit (.int .i64 4)], .val false [.lit (.func (.func 23) ⟨[]⟩ ⟨[]⟩)]], 118, [.sem (.rx k L a), .sem (.rx k1 L1 b), .sem (.rx k2 L2 c), .sem (.rx k3 L3 d)] => some ([k1 = k ∧ L1 = L ∧ k2 = k ∧ L2 = L ∧ k3 = k ∧ L3 = L ∧ L ≤ 65535], .tup [], srt4 k L a b c d)
  | _, _, _ => none

theorem el_ins (args : List Av) (T : TypeId) (ss : List (Seg Kn)) (obs : List Prop) (r : Av) (ss' : List (Seg Kn)) (h : kl_ins args T ss = some (obs, r, ss')) (ho : ∀ p ∈ obs, p) : CnL 222 args T ss r ss' := by
  unfold kl_ins at h
  split at h
  · cases h; obtain ⟨rfl, rfl, hL⟩ := ho _ (List.mem_singleton_self _); exact ins2 _ _ _ _ hL
  · cases h; obtain ⟨rfl, rfl, rfl, rfl, rfl, rfl, hL⟩ := ho _ (List.mem_singleton_self _); exact ins4 _ _ _ _ _ _ hL
  · cases h

def l_ins : List EntL := [(222, kl_ins)]

theorem l_ins_ok : EntsLOk l_ins := ⟨el_ins, trivial⟩

theorem pdq2 (k : Bool) (L : Nat) (a b : Rat) (hL : L ≤ 65535) : CnL 206 [.sl 0 0 2 2, .val false [.lit (.int .i64 0)], .val false [.lit (.int .i64 2)], .val false [.lit (.int .i64 2)], .val false [.lit (.func (.func 23) ⟨[]⟩ ⟨[]⟩)]] 116 [.sem (.rx k L a), .sem (.rx k L b)] (.tup []) (srt2 k L a b) :=
  (wkL (hint := (fun _ => none)) (es := []) (alts := []) (ls := l_ins) trivial trivial l_ins_ok (ds := []) (fuel := 40) (obs := [k = k ∧ L = L ∧ L ≤ 65535]) (r := AV.tup []) (ss' := [Seg.sem (Kn.rx k L (nthQ (sort2 a b) 1)), Seg.sem (Kn.rx k L (nthQ (sort2 a b) 0))]) Tryz.func206 rfl (by kernel_rfl) ⟨⟨rfl, rfl, hL⟩, trivial⟩)

theorem pdq4 (k : Bool) (L : Nat) (a b c d : Rat) (hL : L ≤ 65535) : CnL 206 [.sl 0 0 4 4, .val false [.lit (.int .i64 0)], .val false [.lit (.int .i64 4)], .val false [.lit (.int .i64 3)], .val false [.lit (.func (.func 23) ⟨[]⟩ ⟨[]⟩)]] 118 [.sem (.rx k L a), .sem (.rx k L b), .sem (.rx k L c), .sem (.rx k L d)] (.tup []) (srt4 k L a b c d) :=
  (wkL (hint := (fun _ => none)) (es := []) (alts := []) (ls := l_ins) trivial trivial l_ins_ok (ds := []) (fuel := 40) (obs := [k = k ∧ L = L ∧ k = k ∧ L = L ∧ k = k ∧ L = L ∧ L ≤ 65535]) (r := AV.tup []) (ss' := [Seg.sem (Kn.rx k L (nthQ (sort4 a b c d) 3)), Seg.sem (Kn.rx k L (nthQ (sort4 a b c d) 2)), Seg.sem (Kn.rx k L (nthQ (sort4 a b c d) 1)), Seg.sem (Kn.rx k L (nthQ (sort4 a b c d) 0))]) Tryz.func206 rfl (by kernel_rfl) ⟨⟨rfl, rfl, rfl, rfl, rfl, rfl, hL⟩, trivial⟩)

abbrev kl_pdq : List Av → TypeId → List (Seg Kn) → Option (List Prop × Av × List (Seg Kn))
  | [.sl 0 0 2 2, .val false [.lit (.int .i64 0)], .val false [.lit (.int .i64 2)], .val false [.lit (.int .i64 2)], .val false [.lit (.func (.func 23) ⟨[]⟩ ⟨[]⟩)]], 116, [.sem (.rx k L a), .sem (.rx k1 L1 b)] => some ([k1 = k ∧ L1 = L ∧ L ≤ 65535], .tup [], srt2 k L a b)
  | [.sl 0 0 4 4, .val false [.lit (.int .i64 0)], .val false [.lit (.int .i64 4)], .val false [.lit (.int .i64 3)], .val false [.lit (.func (.func 23) ⟨[]⟩ ⟨[]⟩)]], 118, [.sem (.rx k L a), .sem (.rx k1 L1 b), .sem (.rx k2 L2 c), .sem (.rx k3 L3 d)] => some ([k1 = k ∧ L1 = L ∧ k2 = k ∧ L2 = L ∧ k3 = k ∧ L3 = L ∧ L ≤ 65535], .tup [], srt4 k L a b c d)
  | _, _, _ => none

theorem el_pdq (args : List Av) (T : TypeId) (ss : List (Seg Kn)) (obs : List Prop) (r : Av) (ss' : List (Seg Kn)) (h : kl_pdq args T ss = some (obs, r, ss')) (ho : ∀ p ∈ obs, p) : CnL 206 args T ss r ss' := by
  unfold kl_pdq at h
  split at h
  · cases h; obtain ⟨rfl, rfl, hL⟩ := ho _ (List.mem_singleton_self _); exact pdq2 _ _ _ _ hL
  · cases h; obtain ⟨rfl, rfl, rfl, rfl, rfl, rfl, hL⟩ := ho _ (List.mem_singleton_self _); exact pdq4 _ _ _ _ _ _ hL
  · cases h

def l_pdq : List EntL := [(206, kl_pdq)]

theorem l_pdq_ok : EntsLOk l_pdq := ⟨el_pdq, trivial⟩

theorem srtf2 (k : Bool) (L : Nat) (a b : Rat) (hL : L ≤ 65535) : CnL 185 [.sl 0 0 2 2, .val false [.lit (.func (.func 23) ⟨[]⟩ ⟨[]⟩)]] 116 [.sem (.rx k L a), .sem (.rx k L b)] (.tup []) (srt2 k L a b) :=
  (wkL (hint := (fun _ => none)) (es := tL) (alts := []) (ls := l_pdq) tL_ok trivial l_pdq_ok (ds := []) (fuel := 40) (obs := [k = k ∧ L = L ∧ L ≤ 65535]) (r := AV.tup []) (ss' := [Seg.sem (Kn.rx k L (nthQ (sort2 a b) 1)), Seg.sem (Kn.rx k L (nthQ (sort2 a b) 0))]) Tryz.func185 rfl (by kernel_rfl) ⟨⟨rfl, rfl, hL⟩, trivial⟩)

theorem srtf4 (k : Bool) (L : Nat) (a b c d : Rat) (hL : L ≤ 65535) : CnL 185 [.sl 0 0 4 4, .val false [.lit (.func (.func 23) ⟨[]⟩ ⟨[]⟩)]] 118 [.sem (.rx k L a), .sem (.rx k L b), .sem (.rx k L c), .sem (.rx k L d)] (.tup []) (srt4 k L a b c d) :=
  (wkL (hint := (fun _ => none)) (es := tL) (alts := []) (ls := l_pdq) tL_ok trivial l_pdq_ok (ds := []) (fuel := 40) (obs := [k = k ∧ L = L ∧ k = k ∧ L = L ∧ k = k ∧ L = L ∧ L ≤ 65535]) (r := AV.tup []) (ss' := [Seg.sem (Kn.rx k L (nthQ (sort4 a b c d) 3)), Seg.sem (Kn.rx k L (nthQ (sort4 a b c d) 2)), Seg.sem (Kn.rx k L (nthQ (sort4 a b c d) 1)), Seg.sem (Kn.rx k L (nthQ (sort4 a b c d) 0))]) Tryz.func185 rfl (by kernel_rfl) ⟨⟨rfl, rfl, rfl, rfl, rfl, rfl, hL⟩, trivial⟩)

abbrev kl_srtf : List Av → TypeId → List (Seg Kn) → Option (List Prop × Av × List (Seg Kn))
  | [.sl 0 0 2 2, .val false [.lit (.func (.func 23) ⟨[]⟩ ⟨[]⟩)]], 116, [.sem (.rx k L a), .sem (.rx k1 L1 b)] => some ([k1 = k ∧ L1 = L ∧ L ≤ 65535], .tup [], srt2 k L a b)
  | [.sl 0 0 4 4, .val false [.lit (.func (.func 23) ⟨[]⟩ ⟨[]⟩)]], 118, [.sem (.rx k L a), .sem (.rx k1 L1 b), .sem (.rx k2 L2 c), .sem (.rx k3 L3 d)] => some ([k1 = k ∧ L1 = L ∧ k2 = k ∧ L2 = L ∧ k3 = k ∧ L3 = L ∧ L ≤ 65535], .tup [], srt4 k L a b c d)
  | _, _, _ => none

theorem el_srtf (args : List Av) (T : TypeId) (ss : List (Seg Kn)) (obs : List Prop) (r : Av) (ss' : List (Seg Kn)) (h : kl_srtf args T ss = some (obs, r, ss')) (ho : ∀ p ∈ obs, p) : CnL 185 args T ss r ss' := by
  unfold kl_srtf at h
  split at h
  · cases h; obtain ⟨rfl, rfl, hL⟩ := ho _ (List.mem_singleton_self _); exact srtf2 _ _ _ _ hL
  · cases h; obtain ⟨rfl, rfl, rfl, rfl, rfl, rfl, hL⟩ := ho _ (List.mem_singleton_self _); exact srtf4 _ _ _ _ _ _ hL
  · cases h

def l_srtf : List EntL := [(185, kl_srtf)]

theorem l_srtf_ok : EntsLOk l_srtf := ⟨el_srtf, trivial⟩

theorem span2 (k : Bool) (L : Nat) (a b : Rat) (hL : L ≤ 65535) : CnL 146 [.sl 0 0 2 2] 116 [.sem (.rx k L a), .sem (.rx k L b)] (.val true [.sem (.rx k L (nthQ (sort2 a b) 1)), .sem (.rx k L (nthQ (sort2 a b) 0))]) (srt2 k L a b) :=
  (wkL (hint := (fun _ => none)) (es := []) (alts := []) (ls := l_srtf) trivial trivial l_srtf_ok (ds := []) (fuel := 40) (obs := [k = k ∧ L = L ∧ L ≤ 65535]) (r := AV.val (match TypeDesc.struct { toList := [{ name := "Lo", type := 26, offset := 0, embedded := false, tag := "", pkgPath := "", byteOffset := 0 }, { name := "Hi", type := 26, offset := 3, embedded := false, tag := "", pkgPath := "", byteOffset := 56 }] } with | TypeDesc.struct fields => true | TypeDesc.array len elem => true | x => false) [Seg.sem (Kn.rx k L (nthQ (sort2 a b) 1)), Seg.sem (Kn.rx k L (nthQ (sort2 a b) 0))]) (ss' := [Seg.sem (Kn.rx k L (nthQ (sort2 a b) 1)), Seg.sem (Kn.rx k L (nthQ (sort2 a b) 0))]) Tryz.func146 rfl (by kernel_rfl) ⟨⟨rfl, rfl, hL⟩, trivial⟩)

theorem span4 (k : Bool) (L : Nat) (a b c d : Rat) (hL : L ≤ 65535) : CnL 146 [.sl 0 0 4 4] 118 [.sem (.rx k L a), .sem (.rx k L b), .sem (.rx k L c), .sem (.rx k L d)] (.val true [.sem (.rx k L (nthQ (sort4 a b c d) 3)), .sem (.rx k L (nthQ (sort4 a b c d) 0))]) (srt4 k L a b c d) :=
  (wkL (hint := (fun _ => none)) (es := []) (alts := []) (ls := l_srtf) trivial trivial l_srtf_ok (ds := []) (fuel := 40) (obs := [k = k ∧ L = L ∧ k = k ∧ L = L ∧ k = k ∧ L = L ∧ L ≤ 65535]) (r := AV.val (match TypeDesc.struct { toList := [{ name := "Lo", type := 26, offset := 0, embedded := false, tag := "", pkgPath := "", byteOffset := 0 }, { name := "Hi", type := 26, offset := 3, embedded := false, tag := "", pkgPath := "", byteOffset := 56 }] } with | TypeDesc.struct fields => true | TypeDesc.array len elem => true | x => false) [Seg.sem (Kn.rx k L (nthQ (sort4 a b c d) 3)), Seg.sem (Kn.rx k L (nthQ (sort4 a b c d) 0))]) (ss' := [Seg.sem (Kn.rx k L (nthQ (sort4 a b c d) 3)), Seg.sem (Kn.rx k L (nthQ (sort4 a b c d) 2)), Seg.sem (Kn.rx k L (nthQ (sort4 a b c d) 1)), Seg.sem (Kn.rx k L (nthQ (sort4 a b c d) 0))]) Tryz.func146 rfl (by kernel_rfl) ⟨⟨rfl, rfl, rfl, rfl, rfl, rfl, hL⟩, trivial⟩)

theorem segs_rx {c : Bool} {L : Nat} {w : World} : ∀ {rs : List Rat} {cs : List Value}, (∀ r ∈ rs, nq r ≤ L) → segs Dn w (rs.map fun r => .sem (.rat r)) cs → segs Dn w (rs.map fun r => .sem (.rx c L r)) cs
  | [], _, _, h => h
  | _ :: _, _, hn, ⟨a, b, e, h1, h2⟩ => ⟨a, b, e, seg_rx h1 (hn _ List.mem_cons_self), segs_rx (fun r hr => hn r (List.mem_cons_of_mem _ hr)) h2⟩

theorem segs_rxr {L : Nat} {w : World} : ∀ {rs : List Rat} {cs : List Value}, segs Dn w (rs.map fun r => .sem (.rrat L r)) cs → segs Dn w (rs.map fun r => .sem (.rx false L r)) cs
  | [], _, h => h
  | _ :: _, _, ⟨a, b, e, h1, h2⟩ => ⟨a, b, e, seg_rxr h1, segs_rxr h2⟩

theorem rx_segs {L : Nat} {w : World} : ∀ {rs : List Rat} {cs : List Value}, segs Dn w (rs.map fun r => .sem (.rx true L r)) cs → segs Dn w (rs.map fun r => .sem (.rat r)) cs
  | [], _, h => h
  | _ :: _, _, ⟨a, b, e, h1, h2⟩ => ⟨a, b, e, rx_seg h1, rx_segs h2⟩

theorem rxr_segs {c : Bool} {L : Nat} {w : World} : ∀ {rs : List Rat} {cs : List Value}, segs Dn w (rs.map fun r => .sem (.rx c L r)) cs → segs Dn w (rs.map fun r => .sem (.rrat L r)) cs
  | [], _, h => h
  | _ :: _, _, ⟨a, b, e, h1, h2⟩ => ⟨a, b, e, rxr_seg h1, rxr_segs h2⟩

theorem cnL_res {f : FuncId} {args : List Av} {T : TypeId} {ss ss' : List (Seg Kn)} {r r' : Av} (h : CnL f args T ss r ss') (hr : ∀ w u, r.holds Dn none' w u → r'.holds Dn none' w u) : CnL f args T ss r' ss' :=
  ⟨h.1, fun S w vs A cs hE hS hA hc hp hs hv => (h.2 S w vs A cs hE hS hA hc hp hs hv).mono (by rintro e w' ⟨u, cs', k1, k2, k3⟩; exact ⟨u, cs', k1, hr _ _ k2, k3⟩)⟩

theorem av_segs {ss ss' : List (Seg Kn)} (h : ∀ w cs, segs Dn w ss cs → segs Dn w ss' cs) (w : World) (u : Value) (hu : (AV.val true ss : Av).holds Dn none' w u) : (AV.val true ss' : Av).holds Dn none' w u := by
  obtain ⟨cs, h1, h2, -⟩ := hu
  exact ⟨cs, h w cs h1, h2, fun h => by cases h⟩

theorem span2c (a b : Rat) (_ha : nq a ≤ 65535) (_hb : nq b ≤ 65535) : CnL 146 [.sl 0 0 2 2] 116 [.sem (.rat a), .sem (.rat b)] (.val true [.sem (.rat (minQ a b)), .sem (.rat (maxQ a b))]) [.sem (.rat (minQ a b)), .sem (.rat (maxQ a b))] := by
  have h := span2 true 65535 a b (Nat.le_refl _)
  unfold srt2 at h
  rw [sort2_lo, sort2_hi] at h
  refine cnL_weak (cnL_res h (av_segs fun w cs => rx_segs (rs := [_, _]))) (fun w cs => segs_rx (rs := [a, b]) fun r hr => ?_) (fun w cs => rx_segs (rs := [_, _]))
  simp only [List.mem_cons, List.not_mem_nil, or_false] at hr
  rcases hr with rfl | rfl <;> assumption

theorem span4c (a b c d : Rat) (_ha : nq a ≤ 65535) (_hb : nq b ≤ 65535) (_hc : nq c ≤ 65535) (_hd : nq d ≤ 65535) : CnL 146 [.sl 0 0 4 4] 118 [.sem (.rat a), .sem (.rat b), .sem (.rat c), .sem (.rat d)] (.val true [.sem (.rat (min4 a b c d)), .sem (.rat (max4 a b c d))]) [.sem (.rat (min4 a b c d)), .sem (.rat (nthQ (sort4 a b c d) 2)), .sem (.rat (nthQ (sort4 a b c d) 1)), .sem (.rat (max4 a b c d))] := by
  have h := span4 true 65535 a b c d (Nat.le_refl _)
  unfold srt4 at h
  rw [sort4_lo, sort4_hi] at h
  refine cnL_weak (cnL_res h (av_segs fun w cs => rx_segs (rs := [_, _]))) (fun w cs => segs_rx (rs := [a, b, c, d]) fun r hr => ?_) (fun w cs => rx_segs (rs := [_, _, _, _]))
  simp only [List.mem_cons, List.not_mem_nil, or_false] at hr
  rcases hr with rfl | rfl | rfl | rfl <;> assumption

theorem span4r (L : Nat) (a b c d : Rat) (hL : L ≤ 65535) : CnL 146 [.sl 0 0 4 4] 118 [.sem (.rrat L a), .sem (.rrat L b), .sem (.rrat L c), .sem (.rrat L d)] (.val true [.sem (.rrat L (min4 a b c d)), .sem (.rrat L (max4 a b c d))]) [.sem (.rrat L (min4 a b c d)), .sem (.rrat L (nthQ (sort4 a b c d) 2)), .sem (.rrat L (nthQ (sort4 a b c d) 1)), .sem (.rrat L (max4 a b c d))] := by
  have h := span4 false L a b c d hL
  unfold srt4 at h
  rw [sort4_lo, sort4_hi] at h
  exact cnL_weak (cnL_res h (av_segs fun w cs => rxr_segs (rs := [_, _]))) (fun w cs => segs_rxr (rs := [a, b, c, d])) (fun w cs => rxr_segs (rs := [_, _, _, _]))

abbrev kl_span : List Av → TypeId → List (Seg Kn) → Option (List Prop × Av × List (Seg Kn))
  | [.sl 0 0 2 2], 116, [.sem (.rat a), .sem (.rat b)] => some ([nq a ≤ 65535 ∧ nq b ≤ 65535], .val true [.sem (.rat (minQ a b)), .sem (.rat (maxQ a b))], [.sem (.rat (minQ a b)), .sem (.rat (maxQ a b))])
  | [.sl 0 0 4 4], 118, [.sem (.rat a), .sem (.rat b), .sem (.rat c), .sem (.rat d)] => some ([nq a ≤ 65535 ∧ nq b ≤ 65535 ∧ nq c ≤ 65535 ∧ nq d ≤ 65535], .val true [.sem (.rat (min4 a b c d)), .sem (.rat (max4 a b c d))], [.sem (.rat (min4 a b c d)), .sem (.rat (nthQ (sort4 a b c d) 2)), .sem (.rat (nthQ (sort4 a b c d) 1)), .sem (.rat (max4 a b c d))])
  | [.sl 0 0 4 4], 118, [.sem (.rrat L a), .sem (.rrat L1 b), .sem (.rrat L2 c), .sem (.rrat L3 d)] => some ([L1 = L ∧ L2 = L ∧ L3 = L ∧ L ≤ 65535], .val true [.sem (.rrat L (min4 a b c d)), .sem (.rrat L (max4 a b c d))], [.sem (.rrat L (min4 a b c d)), .sem (.rrat L (nthQ (sort4 a b c d) 2)), .sem (.rrat L (nthQ (sort4 a b c d) 1)), .sem (.rrat L (max4 a b c d))])
  | _, _, _ => none

theorem el_span (args : List Av) (T : TypeId) (ss : List (Seg Kn)) (obs : List Prop) (r : Av) (ss' : List (Seg Kn)) (h : kl_span args T ss = some (obs, r, ss')) (ho : ∀ p ∈ obs, p) : CnL 146 args T ss r ss' := by
  unfold kl_span at h
  split at h
  · cases h; obtain ⟨h1, h2⟩ := ho _ (List.mem_singleton_self _); exact span2c _ _ h1 h2
  · cases h; obtain ⟨h1, h2, h3, h4⟩ := ho _ (List.mem_singleton_self _); exact span4c _ _ _ _ h1 h2 h3 h4
  · cases h; obtain ⟨rfl, rfl, rfl, hL⟩ := ho _ (List.mem_singleton_self _); exact span4r _ _ _ _ _ hL
  · cases h

def lSp : List EntL := [(146, kl_span)]

theorem lSp_ok : EntsLOk lSp := ⟨el_span, trivial⟩

end Go.Proofs.YtagciepnhjbopaaGreatDoor
