/- What an argument of type api.Int reads as; sizes of sums and products. -/
import Derived.Test.YtfjhdhmneknmkaaInt13
import Derived.Test.YtfjhdhmneknmkaaOpen
import Derived.Lib.SmallJoins
namespace Go.Proofs.Ytfjhdhmneknmkaa
open Go.Joins Go.ChangeShapes Go.WideShapes Go.ChangeAt Go.RowKit Go.Deep

theorem Try.cellsI : Try.prog.cellsOf 40 = 2 := by kernel_rfl

theorem view_slice {H : Type} {enc : TypeId × Value → H} {W : World} {fuel : Nat} {v : Value} {y : DataW H × List MemPlace}
    (hf : DataW.trod enc Try.prog W 0 (fun _ => true) true fuel 22 [v] = some y) : ∃ a0 len cap xs, v = .slice a0 len cap ∧ Sl W a0 len cap xs := by
  rcases open_ints Try.underlying22 Try.underlying57 Try.cellsU hf with ⟨hcs, _⟩ | ⟨a, len', cap', zs, hcs, _, hl, hm, hz, _, hcell, hwz⟩
  · simp at hcs
    exact ⟨none, 0, 0, [], hcs, Sl.zero W⟩
  · simp at hcs
    subst hcs
    refine ⟨some a, len', cap', ?_⟩
    exact (view_digits (enc := enc) (d := y.1) (p := y.2) ⟨fuel, by simpa [Value.cells] using hf⟩).imp fun xs h => ⟨rfl, h⟩

theorem view_int {H : Type} {enc : TypeId × Value → H} {W : World} {r : Reach} {b0 : Nat} {v : Value} {d : DataW H} {p : List MemPlace}
    (hv : Value.okWide Try.prog W r b0 40 v) (h : DataW.Trod enc Try.prog W 0 (fun _ => true) true 40 v d p) : ∃ g q n c xs, v = iw g q n c ∧ Sl W q n c xs := by
  obtain ⟨v0, v1, y0, y1, k, rfl, _, _, h0, h1⟩ := open_agg2 Try.underlying40 (by kernel_rfl) Try.cellsI hv h
  obtain ⟨a0, len, cap, xs, rfl, hs⟩ := view_slice h1
  obtain ⟨b, rfl⟩ : ∃ b, v0 = .bool b := by
    obtain ⟨b, hb, _⟩ := DataW.trod_bool Try.underlying4 h0
    simp at hb
    exact ⟨b, hb⟩
  exact ⟨b, a0, len, cap, xs, rfl, hs⟩

theorem staysI {H : Type} {enc : TypeId × Value → H} {W W' : World} {v : Value} {d : DataW H} {ps : List MemPlace} (h : DataW.Trod enc Try.prog W 0 (fun _ => true) true 40 v d ps) (hb : Below W.heap.size W W') (hlt : ∀ x ∈ ps, x.block < W.heap.size) :
    DataW.Trod enc Try.prog W' 0 (fun b => decide (b < W.heap.size)) true 40 v d ps :=
  Below.trod Try.laidOut (by kernel_rfl) (of_decide_eq_true (by kernel_rfl)) h hb hlt

theorem iv_len {x : Int} {g : Bool} {w : World} {p : Option Addr} {n c : Nat} {xs : List Nat} (hx : x = iv g (val xs)) (h : Sl w p n c xs) : (dg x.natAbs).length ≤ n := by
  rw [hx, iv_abs, ← h.len]
  exact dg_len_val h.dig
theorem len_add (x y : Int) : (dg (x + y).natAbs).length ≤ (dg x.natAbs).length + (dg y.natAbs).length + 1 :=
  Nat.le_trans (dg_len_mono (Int.natAbs_add_le x y)) (dg_add_len _ _)
theorem len_mul (x y : Int) : (dg (x * y).natAbs).length ≤ (dg x.natAbs).length + (dg y.natAbs).length := by
  rw [Int.natAbs_mul]; exact dg_mul_len _ _
theorem len_neg (x : Int) : (dg (-x).natAbs).length = (dg x.natAbs).length := by rw [Int.natAbs_neg]
theorem len_zero : (dg (0 : Int).natAbs).length ≤ 0 := by rw [Int.natAbs_zero, dg_zero]; exact Nat.le_refl _
/-- A contract's end at a named value. -/
theorem calls_rj {P : Program} {f : FuncId} {vs : Array Value} {w : World} {z v : Int} {b : Bool} {m : Nat} (h : Calls P f vs w (RetI w z)) (e : z = v) (hb : decide (v < 0) = b) (hm : v.natAbs = m) :
    Calls P f vs w fun e w' => ∃ p c, e = .returned (iw b p (dg m).length c) ∧ Ow w' w.heap.size p (dg m).length c (dg m) ∧ Fr [] w w' := by
  subst e
  exact calls_ri h hb hm

end Go.Proofs.Ytfjhdhmneknmkaa
