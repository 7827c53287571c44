import Derived.Test.YtcckhngbdoiikaaM12
import Derived.Test.YtcckhngbdoiikaaM23
import Derived.Laws.IdiomStrings

namespace Go.Proofs.Ytcckhngbdoiikaa
open Go.RowKit Go.Deep
set_option linter.unusedVariables false

/-- A list of numbers as a string's bytes. -/
def bytesOf (l : List Nat) : ByteArray := ⟨(l.map UInt8.ofNat).toArray⟩
theorem bytesOf_append (l m : List Nat) : bytesOf l ++ bytesOf m = bytesOf (l ++ m) := by
  apply ByteArray.ext
  rw [ByteArray.data_append]
  simp [bytesOf]
theorem conv1 (b : Nat) (hb : b < 256) (w : World) : (convert 183 9 (.slice (some ⟨w.heap.size, 0, none⟩) 1 1)).run Try.prog (w.alloc (.cells #[.int .u8 (b : Int)] 5)) = .ok (.string (bytesOf [b])) (w.alloc (.cells #[.int .u8 (b : Int)] 5)) :=
  run_convert_bytes_back _ 183 9 5 _ 1 [UInt8.ofNat b] Try.underlying183 Try.underlying5 Try.underlying9 (fun j hj => by
    have : j = 0 := by simp at hj; omega
    subst this
    have e : (UInt8.ofNat b).toNat = b := by simp; omega
    simp only [List.getElem_cons_zero, e]
    exact World.cell?_alloc_mark w _ _ _ 0)
theorem conv2 (b : Nat) (hb : b < 256) (w : World) : (convert 183 9 (.slice (some ⟨w.heap.size, 0, none⟩) 2 2)).run Try.prog (w.alloc (.cells #[.int .u8 92, .int .u8 (b : Int)] 5)) = .ok (.string (bytesOf [92, b])) (w.alloc (.cells #[.int .u8 92, .int .u8 (b : Int)] 5)) :=
  run_convert_bytes_back _ 183 9 5 _ 2 [92, UInt8.ofNat b] Try.underlying183 Try.underlying5 Try.underlying9 (fun j hj => by
    have e : (UInt8.ofNat b).toNat = b := by simp; omega
    obtain h | h : j = 0 ∨ j = 1 := by simp at hj; omega
    · subst h
      exact World.cell?_alloc_mark w _ _ _ 0
    · subst h
      simp only [List.getElem_cons_succ, List.getElem_cons_zero, e]
      exact World.cell?_alloc_mark w _ _ _ 1)
theorem bytesOf_size (l : List Nat) : (bytesOf l).size = l.length := by simp [bytesOf, ByteArray.size]

set_option maxHeartbeats 3200000 in
set_option maxRecDepth 20000 in
theorem byteText_any (b : Nat) (hb : b < 256) (w : World) : Calls Try.prog 87 #[.int .i64 (b : Int)] w fun e w' => e = .returned (.string (bytesOf (byteT b))) ∧ Below w.heap.size w w' := by
  by_cases h10 : b = 10
  · subst h10
    go_enter Try.func87, Try.ntmps87
    go_wp2_with fail
    go_ret
    exact ⟨rfl, Below.refl _ _⟩
  by_cases h110 : b = 110
  · subst h110
    go_enter Try.func87, Try.ntmps87
    go_wp2_with fail
    go_ret
    exact ⟨rfl, Below.refl _ _⟩
  have e10 : ((b : Int) == 10) = false := by simp; omega
  have e110 : ((b : Int) == 110) = false := by simp; omega
  have hp : plainB b = true ∨ plainB b = false := by cases plainB b <;> simp
  rcases (by omega : b < 48 ∨ (48 ≤ b ∧ b ≤ 57) ∨ (57 < b ∧ b < 65) ∨ (65 ≤ b ∧ b ≤ 90) ∨ (90 < b ∧ b < 97) ∨ (97 ≤ b ∧ b ≤ 122) ∨ 122 < b) with h | h | h | h | h | h | h
  · have e0 : decide ((48 : Int) ≤ (b : Int)) = false := by simp; omega
    have e1 : decide ((b : Int) ≤ 57) = true := by simp; omega
    have e2 : decide ((97 : Int) ≤ (b : Int)) = false := by simp; omega
    have e3 : decide ((b : Int) ≤ 122) = true := by simp; omega
    have e4 : decide ((65 : Int) ≤ (b : Int)) = false := by simp; omega
    have e5 : decide ((b : Int) ≤ 90) = true := by simp; omega
    have ht : byteT b = [92, b] := by unfold byteT; rw [if_neg h10, if_neg (by rw [plainB_iff]; omega)]
    rw [ht]
    clear ht hp h
    go_enter Try.func87, Try.ntmps87
    have hcv := conv2 b hb w
    go_wp2_with fail
    go_ret
    exact ⟨rfl, Below1 _ _⟩
  · have e0 : decide ((48 : Int) ≤ (b : Int)) = true := by simp; omega
    have e1 : decide ((b : Int) ≤ 57) = true := by simp; omega
    have e2 : decide ((97 : Int) ≤ (b : Int)) = false := by simp; omega
    have e3 : decide ((b : Int) ≤ 122) = true := by simp; omega
    have e4 : decide ((65 : Int) ≤ (b : Int)) = false := by simp; omega
    have e5 : decide ((b : Int) ≤ 90) = true := by simp; omega
    have ht : byteT b = [b] := by unfold byteT; rw [if_neg h10, if_pos (by rw [plainB_iff]; omega)]
    rw [ht]
    clear ht hp h
    go_enter Try.func87, Try.ntmps87
    have hcv := conv1 b hb w
    go_wp2_with fail
    go_ret
    exact ⟨rfl, Below1 _ _⟩
  · have e0 : decide ((48 : Int) ≤ (b : Int)) = true := by simp; omega
    have e1 : decide ((b : Int) ≤ 57) = false := by simp; omega
    have e2 : decide ((97 : Int) ≤ (b : Int)) = false := by simp; omega
    have e3 : decide ((b : Int) ≤ 122) = true := by simp; omega
    have e4 : decide ((65 : Int) ≤ (b : Int)) = false := by simp; omega
    have e5 : decide ((b : Int) ≤ 90) = true := by simp; omega
    have ht : byteT b = [92, b] := by unfold byteT; rw [if_neg h10, if_neg (by rw [plainB_iff]; omega)]
    rw [ht]
    clear ht hp h
    go_enter Try.func87, Try.ntmps87
    have hcv := conv2 b hb w
    go_wp2_with fail
    go_ret
    exact ⟨rfl, Below1 _ _⟩
  · have e0 : decide ((48 : Int) ≤ (b : Int)) = true := by simp; omega
    have e1 : decide ((b : Int) ≤ 57) = false := by simp; omega
    have e2 : decide ((97 : Int) ≤ (b : Int)) = false := by simp; omega
    have e3 : decide ((b : Int) ≤ 122) = true := by simp; omega
    have e4 : decide ((65 : Int) ≤ (b : Int)) = true := by simp; omega
    have e5 : decide ((b : Int) ≤ 90) = true := by simp; omega
    have ht : byteT b = [b] := by unfold byteT; rw [if_neg h10, if_pos (by rw [plainB_iff]; omega)]
    rw [ht]
    clear ht hp h
    go_enter Try.func87, Try.ntmps87
    have hcv := conv1 b hb w
    go_wp2_with fail
    go_ret
    exact ⟨rfl, Below1 _ _⟩
  · have e0 : decide ((48 : Int) ≤ (b : Int)) = true := by simp; omega
    have e1 : decide ((b : Int) ≤ 57) = false := by simp; omega
    have e2 : decide ((97 : Int) ≤ (b : Int)) = false := by simp; omega
    have e3 : decide ((b : Int) ≤ 122) = true := by simp; omega
    have e4 : decide ((65 : Int) ≤ (b : Int)) = true := by simp; omega
    have e5 : decide ((b : Int) ≤ 90) = false := by simp; omega
    have ht : byteT b = [92, b] := by unfold byteT; rw [if_neg h10, if_neg (by rw [plainB_iff]; omega)]
    rw [ht]
    clear ht hp h
    go_enter Try.func87, Try.ntmps87
    have hcv := conv2 b hb w
    go_wp2_with fail
    go_ret
    exact ⟨rfl, Below1 _ _⟩
  · have e0 : decide ((48 : Int) ≤ (b : Int)) = true := by simp; omega
    have e1 : decide ((b : Int) ≤ 57) = false := by simp; omega
    have e2 : decide ((97 : Int) ≤ (b : Int)) = true := by simp; omega
    have e3 : decide ((b : Int) ≤ 122) = true := by simp; omega
    have e4 : decide ((65 : Int) ≤ (b : Int)) = true := by simp; omega
    have e5 : decide ((b : Int) ≤ 90) = false := by simp; omega
    have ht : byteT b = [b] := by unfold byteT; rw [if_neg h10, if_pos (by rw [plainB_iff]; omega)]
    rw [ht]
    clear ht hp h
    go_enter Try.func87, Try.ntmps87
    have hcv := conv1 b hb w
    go_wp2_with fail
    go_ret
    exact ⟨rfl, Below1 _ _⟩
  · have e0 : decide ((48 : Int) ≤ (b : Int)) = true := by simp; omega
    have e1 : decide ((b : Int) ≤ 57) = false := by simp; omega
    have e2 : decide ((97 : Int) ≤ (b : Int)) = true := by simp; omega
    have e3 : decide ((b : Int) ≤ 122) = false := by simp; omega
    have e4 : decide ((65 : Int) ≤ (b : Int)) = true := by simp; omega
    have e5 : decide ((b : Int) ≤ 90) = false := by simp; omega
    have ht : byteT b = [92, b] := by unfold byteT; rw [if_neg h10, if_neg (by rw [plainB_iff]; omega)]
    rw [ht]
    clear ht hp h
    go_enter Try.func87, Try.ntmps87
    have hcv := conv2 b hb w
    go_wp2_with fail
    go_ret
    exact ⟨rfl, Below1 _ _⟩
end Go.Proofs.Ytcckhngbdoiikaa
