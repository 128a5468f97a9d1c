/- Parts of nat.Gcd: next of a difference, apply. -/
import Derived.Test.YtfjhdhmneknmkaaGcd1
import Derived.Test.YtfjhdhmneknmkaaGcdNum
import Derived.Test.YtfjhdhmneknmkaaInt1
namespace Go.Proofs.Ytfjhdhmneknmkaa
open Go.RowKit

theorem Bx.set3 {w : World} {b : Nat} {T : TypeId} {v0 v1 v2 : Value} (h : Bx w b T #[v0, v1, v2]) (u0 u1 u2 : Value) : Bx (((w.setCell ⟨b, 0, none⟩ u0).setCell ⟨b, 1, none⟩ u1).setCell ⟨b, 2, none⟩ u2) b T #[u0, u1, u2] := by
  have h' : w.heap[b]? = some (.cells #[v0, v1, v2] T (0, 0)) := h
  unfold Bx
  simp [World.setCell, Array.getElem?_modify, h']
theorem set3_fr (w : World) (b : Nat) (u0 u1 u2 : Value) : Fr [b] w (((w.setCell ⟨b, 0, none⟩ u0).setCell ⟨b, 1, none⟩ u1).setCell ⟨b, 2, none⟩ u2) :=
  (set2_fr w b u0 u1).trans ((Fr.refl [b] _).setCell ⟨b, 2, none⟩ _ (fun _ => List.mem_singleton.2 rfl)) (by simp)
theorem Bx.keep {S : List Nat} {w w' : World} {b : Nat} {T : TypeId} {vs : Array Value} (h : Bx w b T vs) (f : Fr S w w') (hs : b ∉ S) : Bx w' b T vs := (f.block b h.lt hs).trans h

/-- What 'next' makes of the carries: digit D, borrow B'. -/
def Nx (A G P M B D B' : Nat) : Prop := D < 4294967296 ∧ B' ≤ 1 ∧ D + (G + M) % 4294967296 + B = (A + P) % 4294967296 + 4294967296 * B'

theorem next_word (A P G M B : Nat) (hB : B ≤ 1) : ∃ D B' : Nat, Nx A G P M B D B' ∧
    IntKind.u64.wrap (IntKind.u64.wrap (((A : Int) + P) % 4294967296 - ((G : Int) + M) % 4294967296) - B) / 9223372036854775808 = B' ∧ IntKind.u64.wrap (IntKind.u64.wrap (((A : Int) + P) % 4294967296 - ((G : Int) + M) % 4294967296) - B) % 4294967296 = D := by
  obtain ⟨x, hx⟩ : ∃ x, x = (A + P) % 4294967296 := ⟨_, rfl⟩
  obtain ⟨y, hy⟩ : ∃ y, y = (G + M) % 4294967296 := ⟨_, rfl⟩
  have e1 : ((A : Int) + P) % 4294967296 = x := by omega
  have e2 : ((G : Int) + M) % 4294967296 = y := by omega
  obtain ⟨D, B', h1, h2, h3, h4, h5⟩ := sub_word x y B (by omega) (by omega) hB
  rw [e1, e2]
  exact ⟨D, B', ⟨h1, h2, by rw [← hx, ← hy]; exact h5⟩, h3, h4⟩

set_option maxRecDepth 100000 in
set_option maxHeartbeats 2000000 in
theorem next_any (b A G P M B : Nat) (w : World) (hb : Bx w b 88 #[.int .u64 P, .int .u64 M, .int .u64 B]) (hA : A + P < 18446744073709551616) (hG : G + M < 18446744073709551616) (hB : B ≤ 1) :
    Calls Try.prog 104 #[.pointer (some ⟨b, 0, none⟩), .int .u64 A, .int .u64 G] w fun e w' => ∃ D B', e = .returned (.int .u32 (D : Nat)) ∧ Nx A G P M B D B' ∧ Bx w' b 88 #[.int .u64 ((A + P) / 4294967296 : Nat), .int .u64 ((G + M) / 4294967296 : Nat), .int .u64 (B' : Nat)] ∧ Fr [b] w w' := by
  have c0 := hb.cell (j := 0) rfl
  have c1 := hb.cell (j := 1) rfl
  have c2 := hb.cell (j := 2) rfl
  have z0 := hb.free 0
  have z1 := hb.free 1
  have z2 := hb.free 2
  obtain ⟨D, B', hN, e1, e2⟩ := next_word A P G M B hB
  have E1 := Lib.hid e1
  have E2 := Lib.hid e2
  have HS := Lib.hid (hb.set3 (.int .u64 ((A + P) / 4294967296 : Nat)) (.int .u64 ((G + M) / 4294967296 : Nat)) (.int .u64 (B' : Nat)))
  have E3 : Hid (((A : Int) + P) / 4294967296 = (((A + P) / 4294967296 : Nat) : Int)) := by show _ = _; omega
  have E4 : Hid (((G : Int) + M) / 4294967296 = (((G + M) / 4294967296 : Nat) : Int)) := by show _ = _; omega
  clear e1 e2
  go_enter Try.func104, Try.ntmps104
  go_wp2_with fail
  go_ret
  rw [E1.out, E2.out, E3.out, E4.out]
  exact ⟨D, B', rfl, hN, HS.out, set3_fr _ _ _ _ _⟩

end Go.Proofs.Ytfjhdhmneknmkaa
