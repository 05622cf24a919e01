/- What Parse finds is the name, and the other way round; numbers of profiles. Nothing of the program. -/
import Derived.Test.YtgndlgcgphgilaaDoorProfParse
import Derived.Test.YtgndlgcgphgilaaDoorProfRef
namespace Go.Proofs.YtgndlgcgphgilaaDoor
open Go.RowKit Num
set_option linter.unusedVariables false

theorem cut_join {p s : ByteArray} (h : preB p s = true) : p ++ cutS p s = s := by
  unfold cutS
  rw [if_pos h]
  unfold preB at h
  split at h
  · rename_i hle
    have h := eq_of_beq h
    rw [Go.ByteArray.toList_eq, Go.ByteArray.toList_eq] at h
    have h2 : s.extract 0 p.size = p := Go.WideShapes.bytes_inj h
    have h4 : p ++ s.extract p.size s.size = s.extract 0 p.size ++ s.extract p.size s.size := by rw [h2]
    rw [h4]
    apply Go.WideShapes.bytes_inj
    simp [hle]
  · cases h
theorem ap_join (p s x : ByteArray) : ap (preB p s) p x ++ cutS p s = x ++ s := by
  by_cases h : preB p s = true
  · rw [h]
    show (x ++ p) ++ cutS p s = x ++ s
    rw [ByteArray.append_assoc, cut_join h]
  · have h : preB p s = false := by simpa using h
    have e : cutS p s = s := by unfold cutS; rw [h]; rfl
    rw [h, e]
    rfl
theorem lev_join (s : ByteArray) (h : 1 ≤ levOf s) : levS (levOf s) ++ rest0 s = s := by
  unfold levOf at h ⊢
  unfold rest0
  by_cases h1 : preB c8 s = true
  · simp only [h1, if_true]; exact cut_join h1
  · by_cases h2 : preB sc s = true
    · simp only [h1, h2, if_true]; exact cut_join h2
    · by_cases h3 : preB xo s = true
      · simp only [h1, h2, h3, if_true]; exact cut_join h3
      · simp [h1, h2, h3] at h

theorem size0 {b : ByteArray} (h : b.size = 0) : b = ByteArray.empty := Go.WideShapes.bytes_inj (List.eq_nil_of_length_eq_zero h)
theorem ap_join2 {b : Bool} {p s : ByteArray} (h : b = preB p s) (x : ByteArray) : ap b p x ++ cutS p s = x ++ s := by
  rw [h]
  exact ap_join p s x
theorem rest_succ (r : ByteArray) (k : Nat) : restTo r (k + 1) = cutS (wq k) (restTo r k) := rfl
theorem name_succ0 (l : Int) (b0 b1 b2 b3 b4 b5 b6 : Bool) : nameTo l b0 b1 b2 b3 b4 b5 b6 1 = ap b0 (wq 0) (nameTo l b0 b1 b2 b3 b4 b5 b6 0) := rfl
theorem name_succ1 (l : Int) (b0 b1 b2 b3 b4 b5 b6 : Bool) : nameTo l b0 b1 b2 b3 b4 b5 b6 2 = ap b1 (wq 1) (nameTo l b0 b1 b2 b3 b4 b5 b6 1) := rfl
theorem name_succ2 (l : Int) (b0 b1 b2 b3 b4 b5 b6 : Bool) : nameTo l b0 b1 b2 b3 b4 b5 b6 3 = ap b2 (wq 2) (nameTo l b0 b1 b2 b3 b4 b5 b6 2) := rfl
theorem name_succ3 (l : Int) (b0 b1 b2 b3 b4 b5 b6 : Bool) : nameTo l b0 b1 b2 b3 b4 b5 b6 4 = ap b3 (wq 3) (nameTo l b0 b1 b2 b3 b4 b5 b6 3) := rfl
theorem name_succ4 (l : Int) (b0 b1 b2 b3 b4 b5 b6 : Bool) : nameTo l b0 b1 b2 b3 b4 b5 b6 5 = ap b4 (wq 4) (nameTo l b0 b1 b2 b3 b4 b5 b6 4) := rfl
theorem name_succ5 (l : Int) (b0 b1 b2 b3 b4 b5 b6 : Bool) : nameTo l b0 b1 b2 b3 b4 b5 b6 6 = ap b5 (wq 5) (nameTo l b0 b1 b2 b3 b4 b5 b6 5) := rfl
theorem name_succ6 (l : Int) (b0 b1 b2 b3 b4 b5 b6 : Bool) : nameTo l b0 b1 b2 b3 b4 b5 b6 7 = ap b6 (wq 6) (nameTo l b0 b1 b2 b3 b4 b5 b6 6) := rfl
theorem chain (l : Int) (b0 b1 b2 b3 b4 b5 b6 : Bool) (r : ByteArray) (h0 : b0 = preB (wq 0) (restTo r 0)) (h1 : b1 = preB (wq 1) (restTo r 1)) (h2 : b2 = preB (wq 2) (restTo r 2)) (h3 : b3 = preB (wq 3) (restTo r 3)) (h4 : b4 = preB (wq 4) (restTo r 4)) (h5 : b5 = preB (wq 5) (restTo r 5)) (h6 : b6 = preB (wq 6) (restTo r 6)) : nameTo l b0 b1 b2 b3 b4 b5 b6 7 ++ restTo r 7 = levS l ++ r := by
  rw [name_succ6, show restTo r 7 = cutS (wq 6) (restTo r 6) from rfl, ap_join2 h6]
  rw [name_succ5, show restTo r 6 = cutS (wq 5) (restTo r 5) from rfl, ap_join2 h5]
  rw [name_succ4, show restTo r 5 = cutS (wq 4) (restTo r 4) from rfl, ap_join2 h4]
  rw [name_succ3, show restTo r 4 = cutS (wq 3) (restTo r 3) from rfl, ap_join2 h3]
  rw [name_succ2, show restTo r 3 = cutS (wq 2) (restTo r 2) from rfl, ap_join2 h2]
  rw [name_succ1, show restTo r 2 = cutS (wq 1) (restTo r 1) from rfl, ap_join2 h1]
  rw [name_succ0, show restTo r 1 = cutS (wq 0) (restTo r 0) from rfl, ap_join2 h0]
  rfl
theorem parse_join (s : ByteArray) (h : 1 ≤ levOf s) (hr : (restTo (rest0 s) 7).size = 0) : nameTo (levOf s) (parB (rest0 s) 7 0) (parB (rest0 s) 7 1) (parB (rest0 s) 7 2) (parB (rest0 s) 7 3) (parB (rest0 s) 7 4) (parB (rest0 s) 7 5) (parB (rest0 s) 7 6) 7 = s := by
  have e := chain (levOf s) (parB (rest0 s) 7 0) (parB (rest0 s) 7 1) (parB (rest0 s) 7 2) (parB (rest0 s) 7 3) (parB (rest0 s) 7 4) (parB (rest0 s) 7 5) (parB (rest0 s) 7 6) (rest0 s) (by simp [parB]) (by simp [parB]) (by simp [parB]) (by simp [parB]) (by simp [parB]) (by simp [parB]) (by simp [parB])
  rw [lev_join s h] at e
  generalize nameTo (levOf s) (parB (rest0 s) 7 0) (parB (rest0 s) 7 1) (parB (rest0 s) 7 2) (parB (rest0 s) 7 3) (parB (rest0 s) 7 4) (parB (rest0 s) 7 5) (parB (rest0 s) 7 6) 7 = N at *
  rw [size0 hr, ByteArray.append_empty] at e
  exact e

theorem name_parse1 : ∀ (b0 b1 b2 b3 b4 b5 b6 : Bool), (levOf (nameTo 1 b0 b1 b2 b3 b4 b5 b6 7) = 1 ∧ (restTo (rest0 (nameTo 1 b0 b1 b2 b3 b4 b5 b6 7)) 7).size = 0 ∧ parB (rest0 (nameTo 1 b0 b1 b2 b3 b4 b5 b6 7)) 7 0 = b0 ∧ parB (rest0 (nameTo 1 b0 b1 b2 b3 b4 b5 b6 7)) 7 1 = b1 ∧ parB (rest0 (nameTo 1 b0 b1 b2 b3 b4 b5 b6 7)) 7 2 = b2 ∧ parB (rest0 (nameTo 1 b0 b1 b2 b3 b4 b5 b6 7)) 7 3 = b3 ∧ parB (rest0 (nameTo 1 b0 b1 b2 b3 b4 b5 b6 7)) 7 4 = b4 ∧ parB (rest0 (nameTo 1 b0 b1 b2 b3 b4 b5 b6 7)) 7 5 = b5 ∧ parB (rest0 (nameTo 1 b0 b1 b2 b3 b4 b5 b6 7)) 7 6 = b6) := by decide +kernel
theorem name_parse2 : ∀ (b0 b1 b2 b3 b4 b5 b6 : Bool), (levOf (nameTo 2 b0 b1 b2 b3 b4 b5 b6 7) = 2 ∧ (restTo (rest0 (nameTo 2 b0 b1 b2 b3 b4 b5 b6 7)) 7).size = 0 ∧ parB (rest0 (nameTo 2 b0 b1 b2 b3 b4 b5 b6 7)) 7 0 = b0 ∧ parB (rest0 (nameTo 2 b0 b1 b2 b3 b4 b5 b6 7)) 7 1 = b1 ∧ parB (rest0 (nameTo 2 b0 b1 b2 b3 b4 b5 b6 7)) 7 2 = b2 ∧ parB (rest0 (nameTo 2 b0 b1 b2 b3 b4 b5 b6 7)) 7 3 = b3 ∧ parB (rest0 (nameTo 2 b0 b1 b2 b3 b4 b5 b6 7)) 7 4 = b4 ∧ parB (rest0 (nameTo 2 b0 b1 b2 b3 b4 b5 b6 7)) 7 5 = b5 ∧ parB (rest0 (nameTo 2 b0 b1 b2 b3 b4 b5 b6 7)) 7 6 = b6) := by decide +kernel
theorem name_parse3 : ∀ (b0 b1 b2 b3 b4 b5 b6 : Bool), (levOf (nameTo 3 b0 b1 b2 b3 b4 b5 b6 7) = 3 ∧ (restTo (rest0 (nameTo 3 b0 b1 b2 b3 b4 b5 b6 7)) 7).size = 0 ∧ parB (rest0 (nameTo 3 b0 b1 b2 b3 b4 b5 b6 7)) 7 0 = b0 ∧ parB (rest0 (nameTo 3 b0 b1 b2 b3 b4 b5 b6 7)) 7 1 = b1 ∧ parB (rest0 (nameTo 3 b0 b1 b2 b3 b4 b5 b6 7)) 7 2 = b2 ∧ parB (rest0 (nameTo 3 b0 b1 b2 b3 b4 b5 b6 7)) 7 3 = b3 ∧ parB (rest0 (nameTo 3 b0 b1 b2 b3 b4 b5 b6 7)) 7 4 = b4 ∧ parB (rest0 (nameTo 3 b0 b1 b2 b3 b4 b5 b6 7)) 7 5 = b5 ∧ parB (rest0 (nameTo 3 b0 b1 b2 b3 b4 b5 b6 7)) 7 6 = b6) := by decide +kernel
theorem name_parse (l : Int) (b0 b1 b2 b3 b4 b5 b6 : Bool) (h0 : 1 ≤ l) (h1 : l ≤ 3) : parseV (nameTo l b0 b1 b2 b3 b4 b5 b6 7) = .tuple #[profV l b0 b1 b2 b3 b4 b5 b6, .int .i64 0] := by
  have h : levOf (nameTo l b0 b1 b2 b3 b4 b5 b6 7) = l ∧ (restTo (rest0 (nameTo l b0 b1 b2 b3 b4 b5 b6 7)) 7).size = 0 ∧ parB (rest0 (nameTo l b0 b1 b2 b3 b4 b5 b6 7)) 7 0 = b0 ∧ parB (rest0 (nameTo l b0 b1 b2 b3 b4 b5 b6 7)) 7 1 = b1 ∧ parB (rest0 (nameTo l b0 b1 b2 b3 b4 b5 b6 7)) 7 2 = b2 ∧ parB (rest0 (nameTo l b0 b1 b2 b3 b4 b5 b6 7)) 7 3 = b3 ∧ parB (rest0 (nameTo l b0 b1 b2 b3 b4 b5 b6 7)) 7 4 = b4 ∧ parB (rest0 (nameTo l b0 b1 b2 b3 b4 b5 b6 7)) 7 5 = b5 ∧ parB (rest0 (nameTo l b0 b1 b2 b3 b4 b5 b6 7)) 7 6 = b6 := by
    obtain rfl | rfl | rfl : l = 1 ∨ l = 2 ∨ l = 3 := by omega
    · exact name_parse1 b0 b1 b2 b3 b4 b5 b6
    · exact name_parse2 b0 b1 b2 b3 b4 b5 b6
    · exact name_parse3 b0 b1 b2 b3 b4 b5 b6
  obtain ⟨e1, e2, f0, f1, f2, f3, f4, f5, f6⟩ := h
  unfold parseV
  rw [if_pos ⟨by omega, e2⟩, e1, f0, f1, f2, f3, f4, f5, f6]
/-- Parse gives what a text is the name of; or the text is the name of no profile. -/
theorem parse_ways (s : ByteArray) : (∃ (l : Int) (b0 b1 b2 b3 b4 b5 b6 : Bool), 1 ≤ l ∧ l ≤ 3 ∧ s = nameTo l b0 b1 b2 b3 b4 b5 b6 7 ∧ parseV s = .tuple #[profV l b0 b1 b2 b3 b4 b5 b6, .int .i64 0]) ∨
    (parseV s = .tuple #[profV 0 false false false false false false false, .int .i64 6] ∧ ∀ (l : Int) (b0 b1 b2 b3 b4 b5 b6 : Bool), 1 ≤ l → l ≤ 3 → nameTo l b0 b1 b2 b3 b4 b5 b6 7 ≠ s) := by
  by_cases h : 1 ≤ levOf s ∧ (restTo (rest0 s) 7).size = 0
  · refine .inl ⟨levOf s, parB (rest0 s) 7 0, parB (rest0 s) 7 1, parB (rest0 s) 7 2, parB (rest0 s) 7 3, parB (rest0 s) 7 4, parB (rest0 s) 7 5, parB (rest0 s) 7 6, h.1, (levOf_bd s).2, (parse_join s h.1 h.2).symm, ?_⟩
    unfold parseV
    rw [if_pos h]
  · refine .inr ⟨?_, fun l b0 b1 b2 b3 b4 b5 b6 h0 h1 e => ?_⟩
    · unfold parseV
      rw [if_neg h]
    · have hp := name_parse l b0 b1 b2 b3 b4 b5 b6 h0 h1
      rw [e] at hp
      unfold parseV at hp
      rw [if_neg h] at hp
      simp at hp
end Go.Proofs.YtgndlgcgphgilaaDoor
