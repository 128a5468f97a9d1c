/- Texts: what Parse answers at every text of at most 4096 bytes; Parse undoes Format. -/
import Derived.Test.YtfjhdhmneknmkaaTxt3
import Derived.ChangeMaps5
namespace Go.Proofs.Ytfjhdhmneknmkaa
open Go.RowKit

open Classical in
/-- What Parse returns. -/
noncomputable def prx (s : ByteArray) : List Nat := if Good s then dg (pv (by' s) s.size) else []
open Classical in
noncomputable def pre (s : ByteArray) : Int := if Good s then 0 else 6

theorem parse_sl (s : ByteArray) (w : World) (h : s.size ≤ 4096) :
    Calls Try.prog 90 #[.string s] w fun e w' => ∃ p c, e = .returned (.tuple #[.slice p (prx s).length c, .int .i64 (pre s)]) ∧ Ow w' w.heap.size p (prx s).length c (prx s) ∧ Fr [] w w' := by
  refine (parse_any s w h).mono ?_
  rintro e w' ⟨hf, ⟨hg, p, c, rfl, ho⟩ | ⟨hb, rfl⟩⟩
  · have e1 : prx s = dg (pv (by' s) s.size) := if_pos hg
    have e2 : pre s = 0 := if_pos hg
    rw [e1, e2]
    exact ⟨p, c, rfl, ho, hf⟩
  · have e1 : prx s = [] := if_neg hb
    have e2 : pre s = 6 := if_neg hb
    rw [e1, e2]
    exact ⟨none, 0, rfl, Ow.zero _ _, hf⟩
theorem rparse_sl (s : ByteArray) (w : World) (h : s.size ≤ 4096) :
    Calls Try.prog 91 #[.string s] w fun e w' => ∃ p c, e = .returned (.tuple #[.slice p (prx s).length c, .int .i64 (pre s)]) ∧ Ow w' w.heap.size p (prx s).length c (prx s) ∧ Fr [] w w' := by
  refine (rparse_any s w h).mono ?_
  rintro e w' ⟨hf, ⟨hg, p, c, rfl, ho⟩ | ⟨hb, rfl⟩⟩
  · have e1 : prx s = dg (pv (by' s) s.size) := if_pos hg
    have e2 : pre s = 0 := if_pos hg
    rw [e1, e2]
    exact ⟨p, c, rfl, ho, hf⟩
  · have e1 : prx s = [] := if_neg hb
    have e2 : pre s = 6 := if_neg hb
    rw [e1, e2]
    exact ⟨none, 0, rfl, Ow.zero _ _, hf⟩

theorem parse_s (s : ByteArray) (w : World) (h : s.size ≤ 4096) :
    Calls Try.prog 90 #[.string s] w fun e w' => ∃ p c, e = .returned (.tuple #[.slice p (prx s).length c, .int .i64 (pre s)]) ∧ Sl w' p (prx s).length c (prx s) ∧ Fr [] w w' :=
  (parse_sl s w h).mono fun _ _ ⟨p, c, h1, h2, h3⟩ => ⟨p, c, h1, h2.sl, h3⟩
theorem rparse_s (s : ByteArray) (w : World) (h : s.size ≤ 4096) :
    Calls Try.prog 91 #[.string s] w fun e w' => ∃ p c, e = .returned (.tuple #[.slice p (prx s).length c, .int .i64 (pre s)]) ∧ Sl w' p (prx s).length c (prx s) ∧ Fr [] w w' :=
  (rparse_sl s w h).mono fun _ _ ⟨p, c, h1, h2, h3⟩ => ⟨p, c, h1, h2.sl, h3⟩

theorem by'_txt {S : List Nat} (hd : Dd S) {k : Nat} (hk : k < S.length) : by' (txt S) k = 48 + gd S k := by
  unfold by' txt
  rw [List.getD_eq_getElem?_getD]
  simp only [List.getElem?_map, List.getElem?_eq_getElem hk, Option.map_some, Option.getD_some]
  have h6 : S[k] < 10 := hd _ (List.getElem_mem _)
  rw [gd_lt hk]
  exact UInt8.toNat_ofNat_of_lt' (by show _ < 256; omega)
theorem pv_txt {S : List Nat} (hd : Dd S) (k : Nat) (hk : k ≤ S.length) : pv (by' (txt S)) k = dvB (S.take k) := by
  induction k with
  | zero => rfl
  | succ k ih =>
    rw [pv, ih (by omega), by'_txt hd (by omega)]
    rw [List.take_succ_eq_append_getElem (by omega), dvB_snoc, gd_lt (by omega)]
    omega
theorem dB_head (n : Nat) : n ≠ 0 → gd (dB n) 0 ≠ 0 ∧ dB n ≠ [] := by
  induction n using Nat.strongRecOn with
  | ind n ih =>
    intro h
    rw [dB_pos h]
    by_cases h0 : n / 10 = 0
    · rw [h0, dB_zero]
      exact ⟨by show n % 10 ≠ 0; omega, by simp⟩
    · have h1 := ih (n / 10) (by omega) h0
      have h2 : 0 < (dB (n / 10)).length := List.length_pos_iff.2 h1.2
      exact ⟨by rw [gd_append_left h2]; exact h1.1, by simp⟩
theorem fmt_dd (n : Nat) : Dd (fmt n) := by
  unfold fmt
  split
  · exact Dd.cons (by decide) Dd.nil
  · exact dB_dd n
theorem fmt_val (n : Nat) : dvB (fmt n) = n := by
  unfold fmt
  split
  · next h => rw [h]; rfl
  · exact dvB_dB n
theorem fmt_good (n : Nat) : Good (txt (fmt n)) := by
  have hd := fmt_dd n
  have hl : 0 < (fmt n).length := by
    unfold fmt
    split
    · decide
    · next h => exact List.length_pos_iff.2 (dB_head n h).2
  refine ⟨by rw [txt_size]; omega, fun h0 => ?_, fun j hj => ?_⟩
  · rw [by'_txt hd hl] at h0
    have h1 : gd (fmt n) 0 = 0 := by omega
    rw [txt_size]
    by_cases hn : n = 0
    · unfold fmt
      rw [if_pos hn]
      rfl
    · unfold fmt at h1
      rw [if_neg hn] at h1
      exact absurd h1 (dB_head n hn).1
  · rw [txt_size] at hj
    rw [by'_txt hd hj, gd_lt hj]
    have h6 : (fmt n)[j] < 10 := hd _ (List.getElem_mem _)
    omega
theorem prx_fmt (n : Nat) : prx (txt (fmt n)) = dg n := by
  have e : prx (txt (fmt n)) = dg (pv (by' (txt (fmt n))) (txt (fmt n)).size) := if_pos (fmt_good n)
  rw [e, txt_size, pv_txt (fmt_dd n) _ (Nat.le_refl _), List.take_length, fmt_val]
theorem pre_fmt (n : Nat) : pre (txt (fmt n)) = 0 := if_pos (fmt_good n)
theorem fmt_len {n L : Nat} (h : n < pB L) (hL : L ≤ 10) : (txt (fmt n)).size ≤ 4096 := by
  rw [txt_size]
  unfold fmt
  split
  · decide
  · next h0 =>
    have h1 := dB_len_pow n h0
    have h2 := dec_len h1 h
    omega

end Go.Proofs.Ytfjhdhmneknmkaa
