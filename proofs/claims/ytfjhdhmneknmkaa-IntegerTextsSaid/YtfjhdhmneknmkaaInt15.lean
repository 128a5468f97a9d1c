/- Integers: strings.CutPrefix at "-"; texts with a sign. -/
import Derived.Test.YtfjhdhmneknmkaaIntOpen
import Derived.Test.YtfjhdhmneknmkaaTxt4
namespace Go.Proofs.Ytfjhdhmneknmkaa
open Go.RowKit

theorem minus_ext (b : ByteArray) : (({ data := #[45] } : ByteArray) ++ b).extract 1 (({ data := #[45] } : ByteArray) ++ b).size = b :=
  ByteArray.extract_append_eq_right (a := ({ data := #[45] } : ByteArray)) (b := b) (i := 1) (j := (({ data := #[45] } : ByteArray) ++ b).size) rfl (by rw [ByteArray.size_append])
theorem minus_list (b : ByteArray) : (({ data := #[45] } : ByteArray) ++ b).data.toList = 45 :: b.data.toList := by
  simp [ByteArray.data_append]
theorem head_list (s : ByteArray) (h : 1 ≤ s.size) : (s.extract 0 1).data.toList = [s.data.toList.getD 0 0] := by
  have hl : 0 < s.data.toList.length := by rw [Array.length_toList]; exact h
  rw [ByteArray.data_extract, Array.toList_extract]
  cases hd : s.data.toList with
  | nil => rw [hd] at hl; simp at hl
  | cons x xs => simp [List.extract]
theorem head_iff (s : ByteArray) (h : 1 ≤ s.size) (b : UInt8) : (s.extract 0 1 = { data := #[b] }) ↔ s.data.toList.getD 0 0 = b := by
  have h0 := head_list s h
  constructor
  · intro e
    rw [e] at h0
    simpa using h0.symm
  · intro e
    rw [e] at h0
    have : s.extract 0 1 = ⟨(s.extract 0 1).data⟩ := rfl
    rw [this]
    congr 1
    apply Array.toList_inj.1
    rw [h0]
/-- The text begins with a minus sign. -/
def isM (s : ByteArray) : Prop := 1 ≤ s.size ∧ by' s 0 = 45
theorem isM_iff (s : ByteArray) (h : 1 ≤ s.size) : isM s ↔ s.extract 0 1 = { data := #[45] } := by
  rw [head_iff s h]
  unfold isM by'
  constructor
  · rintro ⟨_, e⟩
    exact UInt8.toNat_inj.1 e
  · intro e
    exact ⟨h, by rw [e]; rfl⟩

instance (s : ByteArray) : Decidable (isM s) := by unfold isM; infer_instance
theorem isM_test (s : ByteArray) (h : 1 ≤ s.size) : ((s.extract 0 1).toList == [45]) = decide (isM s) := by
  rw [Lib.toList_data, head_list s h]
  by_cases e : s.data.toList.getD 0 0 = 45
  · have hm : isM s := ⟨h, by unfold by'; rw [e]; rfl⟩
    rw [decide_eq_true hm, e]; rfl
  · have hm : ¬ isM s := fun q => e (UInt8.toNat_inj.1 q.2)
    rw [decide_eq_false hm]
    simpa using e

set_option maxRecDepth 100000 in
set_option maxHeartbeats 2000000 in
theorem hasprefix_any (s : ByteArray) (w : World) (h : s.size ≤ 8192) :
    Calls Try.prog 114 #[.string s, .string { data := #[45] }] w fun e w' => e = .returned (.bool (decide (isM s))) ∧ w = w' := by
  by_cases h1 : 1 ≤ s.size
  · have ht := Lib.hid (isM_test s h1)
    go_enter Try.func114, Try.ntmps114
    go_wp2_with fail
    go_ret
    rw [ht.out]
    exact ⟨rfl, rfl⟩
  · have hf : decide (isM s) = false := decide_eq_false (fun q => h1 q.1)
    rw [hf]
    clear hf
    go_enter Try.func114, Try.ntmps114
    go_wp2_with fail
    go_ret
    exact ⟨rfl, rfl⟩

end Go.Proofs.Ytfjhdhmneknmkaa
