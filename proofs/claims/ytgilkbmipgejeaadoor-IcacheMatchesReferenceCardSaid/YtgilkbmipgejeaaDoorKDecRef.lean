/- The reference of layer 14: its Op and Level, and lists. -/
import Derived.Deep.WholeRow
import Derived.Test.YtgilkbmipgejeaaDoorKDec
namespace Go.Proofs.YtgilkbmipgejeaaDoor
open Go.RowKit Num Dec
set_option linter.unusedVariables false
set_option linter.unusedSimpArgs false

/-- Fields by value. -/
def fv (hd x y n nn nnn : Nat) : Value := .agg #[.int .i64 (hd : Int), .int .i64 (x : Int), .int .i64 (y : Int), .int .i64 (n : Int), .int .i64 (nn : Int), .int .i64 (nnn : Int)]

set_option maxHeartbeats 1000000 in
theorem five_any (n : Nat) (w : World) : Calls Tryd.prog 65 #[.int .i64 (n : Int)] w fun e w' => e = .returned (.int .i64 (fiveR n : Nat)) ∧ w = w' := by
  go_enter Tryd.func65, Tryd.ntmps65
  go_wp2
  all_goals
    go_ret
    refine ⟨?_, rfl⟩
    simp only [beq_iff_eq, beq_eq_false_iff_ne, ne_eq] at *
    unfold fiveR
    exact ret_int (by repeat' split
                      all_goals omega)
set_option maxHeartbeats 1000000 in
theorem eight_any (n : Nat) (w : World) (h : n ≤ 15) : Calls Tryd.prog 66 #[.int .i64 (n : Int)] w fun e w' => e = .returned (.int .i64 (eightR n : Nat)) ∧ w = w' := by
  go_enter Tryd.func66, Tryd.ntmps66
  go_wp2
  all_goals
    go_ret
    refine ⟨?_, rfl⟩
    simp only [beq_iff_eq, beq_eq_false_iff_ne, ne_eq] at *
    unfold eightR
    exact ret_int (by repeat' split
                      all_goals omega)
set_option maxHeartbeats 4000000 in
theorem fifteen_any (hd x y n nn nnn : Nat) (w : World) : Calls Tryd.prog 67 #[fv hd x y n nn nnn] w fun e w' => e = .returned (.int .i64 (fifteenR x nn : Nat)) ∧ Below w.heap.size w w' := by
  unfold fv
  by_cases k0 : nn = 0
  · have hc : (nn : Int) = 0 := by omega
    by_cases hx : x = 0
    · have E := Lib.hid (show fifteenR x nn = _ by rw [k0, hx])
      rw [hc, show (x : Int) = 0 by omega]
      clear hc k0 hx
      go_enter Tryd.func67, Tryd.ntmps67
      go_wp2
      go_ret
      exact ⟨by rw [E.out]; rfl, below_new' _ _⟩
    · have E := Lib.hid (show fifteenR x nn = 0 by rw [k0]; simp [fifteenR, hx])
      have hx' : ((x : Int) == 0) = false := by simp; omega
      rw [hc]
      clear hc k0 hx
      go_enter Tryd.func67, Tryd.ntmps67
      go_wp2
      go_ret
      exact ⟨by rw [E.out]; rfl, below_new' _ _⟩
  by_cases k1 : nn = 1
  · have hc : (nn : Int) = 1 := by omega
    have E := Lib.hid (show fifteenR x nn = _ by rw [k1])
    rw [hc]
    clear hc k1
    go_enter Tryd.func67, Tryd.ntmps67
    go_wp2
    go_ret
    exact ⟨by rw [E.out]; rfl, below_new' _ _⟩
  by_cases k2 : nn = 2
  · have hc : (nn : Int) = 2 := by omega
    by_cases hx : x = 0
    · have E := Lib.hid (show fifteenR x nn = _ by rw [k2, hx])
      rw [hc, show (x : Int) = 0 by omega]
      clear hc k2 hx
      go_enter Tryd.func67, Tryd.ntmps67
      go_wp2
      go_ret
      exact ⟨by rw [E.out]; rfl, below_new' _ _⟩
    · have E := Lib.hid (show fifteenR x nn = 0 by rw [k2]; simp [fifteenR, hx])
      have hx' : ((x : Int) == 0) = false := by simp; omega
      rw [hc]
      clear hc k2 hx
      go_enter Tryd.func67, Tryd.ntmps67
      go_wp2
      go_ret
      exact ⟨by rw [E.out]; rfl, below_new' _ _⟩
  by_cases k7 : nn = 7
  · have hc : (nn : Int) = 7 := by omega
    have E := Lib.hid (show fifteenR x nn = _ by rw [k7])
    rw [hc]
    clear hc k7
    go_enter Tryd.func67, Tryd.ntmps67
    go_wp2
    go_ret
    exact ⟨by rw [E.out]; rfl, below_new' _ _⟩
  by_cases k10 : nn = 10
  · have hc : (nn : Int) = 10 := by omega
    have E := Lib.hid (show fifteenR x nn = _ by rw [k10])
    rw [hc]
    clear hc k10
    go_enter Tryd.func67, Tryd.ntmps67
    go_wp2
    go_ret
    exact ⟨by rw [E.out]; rfl, below_new' _ _⟩
  by_cases k21 : nn = 21
  · have hc : (nn : Int) = 21 := by omega
    have E := Lib.hid (show fifteenR x nn = _ by rw [k21])
    rw [hc]
    clear hc k21
    go_enter Tryd.func67, Tryd.ntmps67
    go_wp2
    go_ret
    exact ⟨by rw [E.out]; rfl, below_new' _ _⟩
  by_cases k24 : nn = 24
  · have hc : (nn : Int) = 24 := by omega
    have E := Lib.hid (show fifteenR x nn = _ by rw [k24])
    rw [hc]
    clear hc k24
    go_enter Tryd.func67, Tryd.ntmps67
    go_wp2
    go_ret
    exact ⟨by rw [E.out]; rfl, below_new' _ _⟩
  by_cases k30 : nn = 30
  · have hc : (nn : Int) = 30 := by omega
    have E := Lib.hid (show fifteenR x nn = _ by rw [k30])
    rw [hc]
    clear hc k30
    go_enter Tryd.func67, Tryd.ntmps67
    go_wp2
    go_ret
    exact ⟨by rw [E.out]; rfl, below_new' _ _⟩
  by_cases k41 : nn = 41
  · have hc : (nn : Int) = 41 := by omega
    have E := Lib.hid (show fifteenR x nn = _ by rw [k41])
    rw [hc]
    clear hc k41
    go_enter Tryd.func67, Tryd.ntmps67
    go_wp2
    go_ret
    exact ⟨by rw [E.out]; rfl, below_new' _ _⟩
  by_cases k48 : nn = 48
  · have hc : (nn : Int) = 48 := by omega
    have E := Lib.hid (show fifteenR x nn = _ by rw [k48])
    rw [hc]
    clear hc k48
    go_enter Tryd.func67, Tryd.ntmps67
    go_wp2
    go_ret
    exact ⟨by rw [E.out]; rfl, below_new' _ _⟩
  by_cases k51 : nn = 51
  · have hc : (nn : Int) = 51 := by omega
    have E := Lib.hid (show fifteenR x nn = _ by rw [k51])
    rw [hc]
    clear hc k51
    go_enter Tryd.func67, Tryd.ntmps67
    go_wp2
    go_ret
    exact ⟨by rw [E.out]; rfl, below_new' _ _⟩
  by_cases k58 : nn = 58
  · have hc : (nn : Int) = 58 := by omega
    have E := Lib.hid (show fifteenR x nn = _ by rw [k58])
    rw [hc]
    clear hc k58
    go_enter Tryd.func67, Tryd.ntmps67
    go_wp2
    go_ret
    exact ⟨by rw [E.out]; rfl, below_new' _ _⟩
  by_cases k85 : nn = 85
  · have hc : (nn : Int) = 85 := by omega
    have E := Lib.hid (show fifteenR x nn = _ by rw [k85])
    rw [hc]
    clear hc k85
    go_enter Tryd.func67, Tryd.ntmps67
    go_wp2
    go_ret
    exact ⟨by rw [E.out]; rfl, below_new' _ _⟩
  by_cases k101 : nn = 101
  · have hc : (nn : Int) = 101 := by omega
    have E := Lib.hid (show fifteenR x nn = _ by rw [k101])
    rw [hc]
    clear hc k101
    go_enter Tryd.func67, Tryd.ntmps67
    go_wp2
    go_ret
    exact ⟨by rw [E.out]; rfl, below_new' _ _⟩
  by_cases k117 : nn = 117
  · have hc : (nn : Int) = 117 := by omega
    have E := Lib.hid (show fifteenR x nn = _ by rw [k117])
    rw [hc]
    clear hc k117
    go_enter Tryd.func67, Tryd.ntmps67
    go_wp2
    go_ret
    exact ⟨by rw [E.out]; rfl, below_new' _ _⟩
  by_cases k133 : nn = 133
  · have hc : (nn : Int) = 133 := by omega
    have E := Lib.hid (show fifteenR x nn = _ by rw [k133])
    rw [hc]
    clear hc k133
    go_enter Tryd.func67, Tryd.ntmps67
    go_wp2
    go_ret
    exact ⟨by rw [E.out]; rfl, below_new' _ _⟩
  have E := Lib.hid (show fifteenR x nn = 0 by unfold fifteenR; simp only [if_neg k0, if_neg k1, if_neg k2, if_neg k7, if_neg k10, if_neg k21, if_neg k24, if_neg k30, if_neg k41, if_neg k48, if_neg k51, if_neg k58, if_neg k85, if_neg k101, if_neg k117, if_neg k133, if_false])
  have n0 : ((nn : Int) == 0) = false := by simp; omega
  have n1 : ((nn : Int) == 1) = false := by simp; omega
  have n2 : ((nn : Int) == 2) = false := by simp; omega
  have n7 : ((nn : Int) == 7) = false := by simp; omega
  have n10 : ((nn : Int) == 10) = false := by simp; omega
  have n21 : ((nn : Int) == 21) = false := by simp; omega
  have n24 : ((nn : Int) == 24) = false := by simp; omega
  have n30 : ((nn : Int) == 30) = false := by simp; omega
  have n41 : ((nn : Int) == 41) = false := by simp; omega
  have n48 : ((nn : Int) == 48) = false := by simp; omega
  have n51 : ((nn : Int) == 51) = false := by simp; omega
  have n58 : ((nn : Int) == 58) = false := by simp; omega
  have n85 : ((nn : Int) == 85) = false := by simp; omega
  have n101 : ((nn : Int) == 101) = false := by simp; omega
  have n117 : ((nn : Int) == 117) = false := by simp; omega
  have n133 : ((nn : Int) == 133) = false := by simp; omega
  clear k0 k1 k2 k7 k10 k21 k24 k30 k41 k48 k51 k58 k85 k101 k117 k133
  go_enter Tryd.func67, Tryd.ntmps67
  go_wp2
  go_ret
  exact ⟨by rw [E.out]; rfl, below_new' _ _⟩
set_option maxHeartbeats 4000000 in
theorem zero_any (hd x y n nn nnn : Nat) (w : World) : Calls Tryd.prog 64 #[fv hd x y n nn nnn] w fun e w' => e = .returned (.int .i64 (zeroR x y nnn : Nat)) ∧ Below w.heap.size w w' := by
  unfold fv
  by_cases k224 : nnn = 224
  · have hc : (nnn : Int) = 224 := by omega
    have E := Lib.hid (show zeroR x y nnn = _ by rw [k224])
    rw [hc]
    clear hc k224
    go_enter Tryd.func64, Tryd.ntmps64
    go_wp2
    go_ret
    exact ⟨by rw [E.out]; rfl, below_new' _ _⟩
  by_cases k238 : nnn = 238
  · have hc : (nnn : Int) = 238 := by omega
    have E := Lib.hid (show zeroR x y nnn = _ by rw [k238])
    rw [hc]
    clear hc k238
    go_enter Tryd.func64, Tryd.ntmps64
    go_wp2
    go_ret
    exact ⟨by rw [E.out]; rfl, below_new' _ _⟩
  by_cases k251 : nnn = 251
  · have hc : (nnn : Int) = 251 := by omega
    have E := Lib.hid (show zeroR x y nnn = _ by rw [k251])
    rw [hc]
    clear hc k251
    go_enter Tryd.func64, Tryd.ntmps64
    go_wp2
    go_ret
    exact ⟨by rw [E.out]; rfl, below_new' _ _⟩
  by_cases k252 : nnn = 252
  · have hc : (nnn : Int) = 252 := by omega
    have E := Lib.hid (show zeroR x y nnn = _ by rw [k252])
    rw [hc]
    clear hc k252
    go_enter Tryd.func64, Tryd.ntmps64
    go_wp2
    go_ret
    exact ⟨by rw [E.out]; rfl, below_new' _ _⟩
  by_cases k253 : nnn = 253
  · have hc : (nnn : Int) = 253 := by omega
    have E := Lib.hid (show zeroR x y nnn = _ by rw [k253])
    rw [hc]
    clear hc k253
    go_enter Tryd.func64, Tryd.ntmps64
    go_wp2
    go_ret
    exact ⟨by rw [E.out]; rfl, below_new' _ _⟩
  by_cases k254 : nnn = 254
  · have hc : (nnn : Int) = 254 := by omega
    have E := Lib.hid (show zeroR x y nnn = _ by rw [k254])
    rw [hc]
    clear hc k254
    go_enter Tryd.func64, Tryd.ntmps64
    go_wp2
    go_ret
    exact ⟨by rw [E.out]; rfl, below_new' _ _⟩
  by_cases k255 : nnn = 255
  · have hc : (nnn : Int) = 255 := by omega
    have E := Lib.hid (show zeroR x y nnn = _ by rw [k255])
    rw [hc]
    clear hc k255
    go_enter Tryd.func64, Tryd.ntmps64
    go_wp2
    go_ret
    exact ⟨by rw [E.out]; rfl, below_new' _ _⟩
  have n224 : ((nnn : Int) == 224) = false := by simp; omega
  have n238 : ((nnn : Int) == 238) = false := by simp; omega
  have n251 : ((nnn : Int) == 251) = false := by simp; omega
  have n252 : ((nnn : Int) == 252) = false := by simp; omega
  have n253 : ((nnn : Int) == 253) = false := by simp; omega
  have n254 : ((nnn : Int) == 254) = false := by simp; omega
  have n255 : ((nnn : Int) == 255) = false := by simp; omega
  have EZ : zeroR x y nnn = if x = 0 ∧ y = 12 then 35 else if x = 0 ∧ y = 13 then 45 else 0 := by unfold zeroR; simp only [if_neg k224, if_neg k238, if_neg k251, if_neg k252, if_neg k253, if_neg k254, if_neg k255]
  clear k224 k238 k251 k252 k253 k254 k255
  by_cases hx : x = 0
  · by_cases hy : y = 12
    · have E := Lib.hid (show zeroR x y nnn = 35 by rw [EZ, if_pos ⟨hx, hy⟩])
      rw [show (x : Int) = 0 by omega, show (y : Int) = 12 by omega]
      clear EZ hx hy
      go_enter Tryd.func64, Tryd.ntmps64
      go_wp2
      go_ret
      exact ⟨by rw [E.out]; rfl, below_new' _ _⟩
    · by_cases hz : y = 13
      · have E := Lib.hid (show zeroR x y nnn = 45 by rw [EZ, if_neg (by omega), if_pos ⟨hx, hz⟩])
        rw [show (x : Int) = 0 by omega, show (y : Int) = 13 by omega]
        clear EZ hx hy hz
        go_enter Tryd.func64, Tryd.ntmps64
        go_wp2
        go_ret
        exact ⟨by rw [E.out]; rfl, below_new' _ _⟩
      · have E := Lib.hid (show zeroR x y nnn = 0 by rw [EZ, if_neg (by omega), if_neg (by omega)])
        have hy' : ((y : Int) == 12) = false := by simp; omega
        have hz' : ((y : Int) == 13) = false := by simp; omega
        rw [show (x : Int) = 0 by omega]
        clear EZ hx hy hz
        go_enter Tryd.func64, Tryd.ntmps64
        go_wp2
        go_ret
        exact ⟨by rw [E.out]; rfl, below_new' _ _⟩
  · have E := Lib.hid (show zeroR x y nnn = 0 by rw [EZ, if_neg (by omega), if_neg (by omega)])
    have hx' : ((x : Int) == 0) = false := by simp; omega
    clear EZ hx
    go_enter Tryd.func64, Tryd.ntmps64
    go_wp2
    go_ret
    exact ⟨by rw [E.out]; rfl, below_new' _ _⟩
set_option maxRecDepth 100000 in
set_option maxHeartbeats 4000000 in
theorem rop_any (hd x y n nn nnn : Nat) (w : World) (h0 : hd ≤ 15) (h1 : n ≤ 15) : Calls Tryd.prog 51 #[fv hd x y n nn nnn] w fun e w' => e = .returned (.int .i64 (opR hd x y n nn nnn : Nat)) ∧ Below w.heap.size w w' := by
  have hh : hd = 0 ∨ hd = 1 ∨ hd = 2 ∨ hd = 3 ∨ hd = 4 ∨ hd = 5 ∨ hd = 6 ∨ hd = 7 ∨ hd = 8 ∨ hd = 9 ∨ hd = 10 ∨ hd = 11 ∨ hd = 12 ∨ hd = 13 ∨ hd = 14 ∨ hd = 15 := by omega
  rcases hh with hh | hh | hh | hh | hh | hh | hh | hh | hh | hh | hh | hh | hh | hh | hh | hh
  · have hc : (hd : Int) = 0 := by omega
    have E := Lib.hid (show opR hd x y n nn nnn = zeroR x y nnn by rw [hh]; first | rfl | simp [opR, *])
    have C := Lib.hid (fun w => zero_any hd x y n nn nnn w)
    unfold fv at *
    rw [hc] at *
    clear hc hh
    go_enter Tryd.func51, Tryd.ntmps51
    go_wp2_with fail
    refine (C.out _).mono ?_
    rintro e w1 ⟨rfl, b1⟩
    have B := Lib.hid ((below_new' w _).trans (b1.mono (by simp)))
    clear b1
    go_wp2_with fail
    go_ret
    exact ⟨by rw [E.out]; rfl, B.out⟩
  · have hc : (hd : Int) = 1 := by omega
    have E := Lib.hid (show opR hd x y n nn nnn = 3 by rw [hh]; rfl)
    unfold fv
    rw [hc]
    clear hc hh
    go_enter Tryd.func51, Tryd.ntmps51
    go_wp2
    go_ret
    exact ⟨by rw [E.out]; rfl, below_new' _ _⟩
  · have hc : (hd : Int) = 2 := by omega
    have E := Lib.hid (show opR hd x y n nn nnn = 4 by rw [hh]; rfl)
    unfold fv
    rw [hc]
    clear hc hh
    go_enter Tryd.func51, Tryd.ntmps51
    go_wp2
    go_ret
    exact ⟨by rw [E.out]; rfl, below_new' _ _⟩
  · have hc : (hd : Int) = 3 := by omega
    have E := Lib.hid (show opR hd x y n nn nnn = 5 by rw [hh]; rfl)
    unfold fv
    rw [hc]
    clear hc hh
    go_enter Tryd.func51, Tryd.ntmps51
    go_wp2
    go_ret
    exact ⟨by rw [E.out]; rfl, below_new' _ _⟩
  · have hc : (hd : Int) = 4 := by omega
    have E := Lib.hid (show opR hd x y n nn nnn = 6 by rw [hh]; rfl)
    unfold fv
    rw [hc]
    clear hc hh
    go_enter Tryd.func51, Tryd.ntmps51
    go_wp2
    go_ret
    exact ⟨by rw [E.out]; rfl, below_new' _ _⟩
  · have hc : (hd : Int) = 5 := by omega
    have E := Lib.hid (show opR hd x y n nn nnn = fiveR n by rw [hh]; first | rfl | simp [opR, *])
    have C := Lib.hid (fun w => five_any n w)
    unfold fv
    rw [hc]
    clear hc hh
    go_enter Tryd.func51, Tryd.ntmps51
    go_wp2_with fail
    refine (C.out _).mono ?_
    rintro e w1 ⟨rfl, rfl⟩
    go_wp2_with fail
    go_ret
    exact ⟨by rw [E.out]; rfl, below_new' _ _⟩
  · have hc : (hd : Int) = 6 := by omega
    have E := Lib.hid (show opR hd x y n nn nnn = 8 by rw [hh]; rfl)
    unfold fv
    rw [hc]
    clear hc hh
    go_enter Tryd.func51, Tryd.ntmps51
    go_wp2
    go_ret
    exact ⟨by rw [E.out]; rfl, below_new' _ _⟩
  · have hc : (hd : Int) = 7 := by omega
    have E := Lib.hid (show opR hd x y n nn nnn = 9 by rw [hh]; rfl)
    unfold fv
    rw [hc]
    clear hc hh
    go_enter Tryd.func51, Tryd.ntmps51
    go_wp2
    go_ret
    exact ⟨by rw [E.out]; rfl, below_new' _ _⟩
  · have hc : (hd : Int) = 8 := by omega
    have E := Lib.hid (show opR hd x y n nn nnn = eightR n by rw [hh]; first | rfl | simp [opR, *])
    have C := Lib.hid (fun w => eight_any n w h1)
    unfold fv
    rw [hc]
    clear hc hh
    go_enter Tryd.func51, Tryd.ntmps51
    go_wp2_with fail
    refine (C.out _).mono ?_
    rintro e w1 ⟨rfl, rfl⟩
    go_wp2_with fail
    go_ret
    exact ⟨by rw [E.out]; rfl, below_new' _ _⟩
  · have hc : (hd : Int) = 9 := by omega
    unfold fv
    by_cases hn : n = 0
    · have E := Lib.hid (show opR hd x y n nn nnn = 19 by rw [hh, hn]; rfl)
      rw [hc, show (n : Int) = 0 by omega]
      clear hc hh hn
      go_enter Tryd.func51, Tryd.ntmps51
      go_wp2
      go_ret
      exact ⟨by rw [E.out]; rfl, below_new' _ _⟩
    · have E := Lib.hid (show opR hd x y n nn nnn = 0 by rw [hh]; simp [opR, hn])
      have hn' : ((n : Int) == 0) = false := by simp; omega
      rw [hc]
      clear hc hh hn
      go_enter Tryd.func51, Tryd.ntmps51
      go_wp2
      go_ret
      exact ⟨by rw [E.out]; rfl, below_new' _ _⟩
  · have hc : (hd : Int) = 10 := by omega
    have E := Lib.hid (show opR hd x y n nn nnn = 20 by rw [hh]; rfl)
    unfold fv
    rw [hc]
    clear hc hh
    go_enter Tryd.func51, Tryd.ntmps51
    go_wp2
    go_ret
    exact ⟨by rw [E.out]; rfl, below_new' _ _⟩
  · have hc : (hd : Int) = 11 := by omega
    have E := Lib.hid (show opR hd x y n nn nnn = 21 by rw [hh]; rfl)
    unfold fv
    rw [hc]
    clear hc hh
    go_enter Tryd.func51, Tryd.ntmps51
    go_wp2
    go_ret
    exact ⟨by rw [E.out]; rfl, below_new' _ _⟩
  · have hc : (hd : Int) = 12 := by omega
    have E := Lib.hid (show opR hd x y n nn nnn = 22 by rw [hh]; rfl)
    unfold fv
    rw [hc]
    clear hc hh
    go_enter Tryd.func51, Tryd.ntmps51
    go_wp2
    go_ret
    exact ⟨by rw [E.out]; rfl, below_new' _ _⟩
  · have hc : (hd : Int) = 13 := by omega
    unfold fv
    by_cases hn : n = 0
    · have E := Lib.hid (show opR hd x y n nn nnn = 41 by rw [hh, hn]; rfl)
      rw [hc, show (n : Int) = 0 by omega]
      clear hc hh hn
      go_enter Tryd.func51, Tryd.ntmps51
      go_wp2
      go_ret
      exact ⟨by rw [E.out]; rfl, below_new' _ _⟩
    · have E := Lib.hid (show opR hd x y n nn nnn = 23 by rw [hh]; simp [opR, hn])
      have hn' : ((n : Int) == 0) = false := by simp; omega
      rw [hc]
      clear hc hh hn
      go_enter Tryd.func51, Tryd.ntmps51
      go_wp2
      go_ret
      exact ⟨by rw [E.out]; rfl, below_new' _ _⟩
  · have hc : (hd : Int) = 14 := by omega
    unfold fv
    by_cases hn : nn = 158
    · have E := Lib.hid (show opR hd x y n nn nnn = 24 by rw [hh, hn]; rfl)
      rw [hc, show (nn : Int) = 158 by omega]
      clear hc hh hn
      go_enter Tryd.func51, Tryd.ntmps51
      go_wp2
      go_ret
      exact ⟨by rw [E.out]; rfl, below_new' _ _⟩
    · have hn' : ((nn : Int) == 158) = false := by simp; omega
      by_cases hm : nn = 161
      · have E := Lib.hid (show opR hd x y n nn nnn = 25 by rw [hh, hm]; rfl)
        rw [hc, show (nn : Int) = 161 by omega]
        clear hc hh hn hm hn'
        go_enter Tryd.func51, Tryd.ntmps51
        go_wp2
        go_ret
        exact ⟨by rw [E.out]; rfl, below_new' _ _⟩
      · have E := Lib.hid (show opR hd x y n nn nnn = 0 by rw [hh]; simp [opR, hn, hm])
        have hm' : ((nn : Int) == 161) = false := by simp; omega
        rw [hc]
        clear hc hh hn hm
        go_enter Tryd.func51, Tryd.ntmps51
        go_wp2
        go_ret
        exact ⟨by rw [E.out]; rfl, below_new' _ _⟩
  · have hc : (hd : Int) = 15 := by omega
    have E := Lib.hid (show opR hd x y n nn nnn = fifteenR x nn by rw [hh]; first | rfl | simp [opR, *])
    have C := Lib.hid (fun w => fifteen_any hd x y n nn nnn w)
    unfold fv at *
    rw [hc] at *
    clear hc hh
    go_enter Tryd.func51, Tryd.ntmps51
    go_wp2_with fail
    refine (C.out _).mono ?_
    rintro e w1 ⟨rfl, b1⟩
    have B := Lib.hid ((below_new' w _).trans (b1.mono (by simp)))
    clear b1
    go_wp2_with fail
    go_ret
    exact ⟨by rw [E.out]; rfl, B.out⟩
end Go.Proofs.YtgilkbmipgejeaaDoor
