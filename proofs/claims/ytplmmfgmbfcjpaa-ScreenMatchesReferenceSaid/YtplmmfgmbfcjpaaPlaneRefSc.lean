/- Contracts of the reference of layer 7: Scroll. -/
import Derived.Test.YtplmmfgmbfcjpaaPlaneRefDr
import Derived.Test.YtplmmfgmbfcjpaaPixRefSp
namespace Go.Proofs.Ytplmmfgmbfcjpaa
open Go.RowKit Num
set_option linter.unusedVariables false
set_option linter.unusedSimpArgs false

/-- The width and the height of a resolution. -/
def Res (b : Bool) (m h : Nat) : Prop := (b = true ∧ m = 128 ∧ h = 64) ∨ (b = false ∧ m = 64 ∧ h = 32)
theorem Res.bounds {b : Bool} {m h : Nat} (r : Res b m h) : 16 ≤ m ∧ m ≤ 128 ∧ 16 ≤ h ∧ h ≤ 64 := by
  rcases r with ⟨_, rfl, rfl⟩ | ⟨_, rfl, rfl⟩ <;> decide
theorem rwidthR {b : Bool} {m h : Nat} (r : Res b m h) (w : World) : Calls Try.prog 49 #[.bool b] w fun e w' => e = .returned (.int .i64 (m : Int)) ∧ w = w' := by
  rcases r with ⟨rfl, rfl, _⟩ | ⟨rfl, rfl, _⟩
  · exact rwidth_any true w
  · exact rwidth_any false w
theorem rheightR {b : Bool} {m h : Nat} (r : Res b m h) (w : World) : Calls Try.prog 50 #[.bool b] w fun e w' => e = .returned (.int .i64 (h : Int)) ∧ w = w' := by
  rcases r with ⟨rfl, _, rfl⟩ | ⟨rfl, _, rfl⟩
  · exact rheight_any true w
  · exact rheight_any false w
theorem rgetN {N : Nat} (hN : N = 8192) (g : Nat) (f : Nat → Bool) (w : World) (H : Pxs g f w) {x y k : Nat} {v : Bool} {xi yi : Int} (hx : xi = (x : Int)) (hy : yi = (y : Int)) (hk : k = 128 * y + x) (x1 : x < 128) (y1 : y < 64) (hv : f k = v) :
    Calls Try.prog 53 #[.slice (some ⟨g, 0, none⟩) N N, .int .i64 xi, .int .i64 yi] w fun e w' => e = .returned (.bool v) ∧ w = w' := by
  subst hN
  rw [← hv]
  exact rget_any g f w H hx hy hk x1 y1
/-- The first n pixels of F, and no further one. -/
def upto (F : Nat → Bool) (n j : Nat) : Bool := if j < n then F j else false
theorem upto_zero (F : Nat → Bool) (j : Nat) : upto F 0 j = false := by simp [upto]
theorem upto_all (F : Nat → Bool) (n j : Nat) (h : j < n) : upto F n j = F j := by rw [upto, if_pos h]
theorem upto_set (F : Nat → Bool) (n k : Nat) (v : Bool) (hk : k = n) (hv : F k = v) (j : Nat) : (if j = k then v else upto F n j) = upto F (n + 1) j := by
  subst hk
  unfold upto
  by_cases e : j = k
  · subst e; rw [if_pos rfl, if_pos (by omega), hv]
  · rw [if_neg e]
    by_cases e3 : j < k
    · rw [if_pos e3, if_pos (by omega)]
    · rw [if_neg e3, if_neg (by omega)]
theorem upto_more (F : Nat → Bool) (n n' : Nat) (hn : n ≤ n') (hv : ∀ j, n ≤ j → j < n' → F j = false) (j : Nat) : upto F n j = upto F n' j := by
  unfold upto
  by_cases e : j < n
  · rw [if_pos e, if_pos (by omega)]
  · rw [if_neg e]
    by_cases e3 : j < n'
    · rw [if_pos e3, hv j (by omega) e3]
    · rw [if_neg e3]
theorem rsc_in (f : Nat → Bool) (dx dy : Int) (m h x y X Y k : Nat) (hm : m ≤ 128) (hx : x < m) (hy : y < h) (ex : (x : Int) - dx = X) (ey : (y : Int) - dy = Y) (hX : X < m) (hY : Y < h) (hk : k = 128 * y + x) : rscF f dx dy m h k = f (128 * Y + X) := by
  subst hk
  unfold rscF
  rw [show (128 * y + x) / 128 = y by omega, show (128 * y + x) % 128 = x by omega, ex, ey, decide_eq_true (by omega), Bool.true_and, show (128 * (Y : Int) + (X : Int)).toNat = 128 * Y + X by omega]
theorem rsc_out (f : Nat → Bool) (dx dy : Int) (m h x y k : Nat) (hm : x < 128) (hk : k = 128 * y + x) (hn : ¬ (0 ≤ (x : Int) - dx ∧ (x : Int) - dx < m ∧ 0 ≤ (y : Int) - dy ∧ (y : Int) - dy < h)) : rscF f dx dy m h k = false := by
  subst hk
  unfold rscF
  rw [show (128 * y + x) / 128 = y by omega, show (128 * y + x) % 128 = x by omega, decide_eq_false (by omega), Bool.false_and]
theorem rsc_far (f : Nat → Bool) (dx dy : Int) (m h k : Nat) (hn : m ≤ k % 128 ∨ h ≤ k / 128) : rscF f dx dy m h k = false := by
  unfold rscF
  rw [decide_eq_false (by omega), Bool.false_and]

set_option maxRecDepth 100000 in
set_option maxHeartbeats 4000000 in
theorem rscroll_any (g : Nat) (f : Nat → Bool) (dx dy : Int) (b : Bool) (m h : Nat) (hr : Res b m h) (w : World) (H : Pxs g f w) (d0 : -1000 ≤ dx) (d1 : dx ≤ 1000) (e0 : -1000 ≤ dy) (e1 : dy ≤ 1000) :
    Calls Try.prog 48 #[.slice (some ⟨g, 0, none⟩) 8192 8192, .int .i64 dx, .int .i64 dy, .bool b] w (DrawnP (rscF f dx dy m h) w) := by
  have HH := Lib.hid H
  obtain ⟨N, hN⟩ : ∃ N, N = 8192 := ⟨_, rfl⟩
  have BB := Lib.hid (blankN hN w)
  obtain ⟨m0, m1, h0, h1⟩ := hr.bounds
  have RR := Lib.hid hr
  unfold DrawnP
  rw [← hN]
  have NN := Lib.hid hN
  clear H hN hr
  go_enter Try.func48, Try.ntmps48
  go_wp2_with fail
  refine BB.out.mono ?_
  rintro e w1 ⟨G, rfl, hG, hP0, hb0⟩
  have G0 := Lib.hid hG
  have P0 := Lib.hid hP0
  have b0 := Lib.hid hb0
  clear hG hP0 hb0
  go_wp2_with fail
  refine (rwidthR RR.out w1).mono ?_
  rintro e w' ⟨rfl, rfl⟩
  go_wp2_with fail
  refine (rheightR RR.out w1).mono ?_
  rintro e w' ⟨rfl, rfl⟩
  go_wp2
  go_loopw [12] (fun i wr => ∃ y : Nat, y ≤ h ∧ i = .int .i64 (y : Int) ∧ Pxs G (upto (rscF f dx dy m h) (128 * y)) wr ∧ Below w.heap.size w wr) (fun i _ => h - (intOf i).toNat)
  case atStart => exact ⟨0, by omega, rfl, P0.out.congr fun j hj => (upto_zero _ j).symm, b0.out⟩
  case round =>
    clear P0 b0
    obtain ⟨y, hy, rfl, hP, hB⟩ := hrel
    have PB := Lib.hid (And.intro hP hB)
    clear hP hB
    by_cases hlt : y < h
    · have hyi : (y : Int) < (h : Int) := by omega
      go_wp2
      go_loopw [13] (fun i wr => ∃ x : Nat, x ≤ m ∧ i = .int .i64 (x : Int) ∧ Pxs G (upto (rscF f dx dy m h) (128 * y + x)) wr ∧ Below w.heap.size w wr) (fun i _ => m - (intOf i).toNat)
      case atStart => exact ⟨0, by omega, rfl, PB.out.1, PB.out.2⟩
      case round =>
        clear PB
        obtain ⟨x, hx, rfl, hP, hB⟩ := hrel
        have PB := Lib.hid (And.intro hP hB)
        clear hP hB
        by_cases hxt : x < m
        · have hxi : (x : Int) < (m : Int) := by omega
          have x1 : (x : Int) < 128 := by omega
          have y1 : (y : Int) < 64 := by omega
          obtain ⟨k, hk⟩ : ∃ k, k = 128 * y + x := ⟨_, rfl⟩
          have HK := Lib.hid hk
          have k8 := Lib.hid (show k < 8192 by omega)
          rcases (show (0 ≤ (x : Int) - dx ∧ (x : Int) - dx < m ∧ 0 ≤ (y : Int) - dy ∧ (y : Int) - dy < h) ∨ ¬ 0 ≤ (x : Int) - dx ∨ (0 ≤ (x : Int) - dx ∧ ¬ (x : Int) - dx < m) ∨ (0 ≤ (x : Int) - dx ∧ (x : Int) - dx < m ∧ ¬ 0 ≤ (y : Int) - dy) ∨ (0 ≤ (x : Int) - dx ∧ (x : Int) - dx < m ∧ 0 ≤ (y : Int) - dy ∧ ¬ (y : Int) - dy < h) by omega) with ⟨i1, i2, i3, i4⟩ | i1 | ⟨i1, i2⟩ | ⟨i1, i2, i3⟩ | ⟨i1, i2, i3, i4⟩
          · obtain ⟨X, hX⟩ : ∃ X : Nat, (x : Int) - dx = X := ⟨((x : Int) - dx).toNat, by omega⟩
            obtain ⟨Y, hY⟩ : ∃ Y : Nat, (y : Int) - dy = Y := ⟨((y : Int) - dy).toNat, by omega⟩
            have CG := Lib.hid (rgetN NN.out g f wr (HH.out.below PB.out.2 HH.out.lt) (x := X) (y := Y) hX hY rfl (by omega) (by omega) (rsc_in f dx dy m h x y X Y k m1 hxt hlt hX hY (by omega) (by omega) hk).symm)
            have ST := Lib.hid (fun v hv => upto_set (rscF f dx dy m h) (128 * y + x) k v hk hv)
            obtain ⟨v, hv⟩ : ∃ v, rscF f dx dy m h k = v := ⟨_, rfl⟩
            rw [hv] at CG
            have ST2 := Lib.hid (ST.out v hv)
            have c3 := PB.out.1.at_ k k8.out
            have c4 := PB.out.1.fz k k8.out
            have ek : 128 * (y : Int) + (x : Int) = (k : Int) := by omega
            have kN : (k : Int) < (N : Int) := by have := NN.out; have := k8.out; omega
            have kn : k < N := by omega
            clear hk hX hY hv ST
            go_wp2_with fail
            refine CG.out.mono ?_
            rintro e w' ⟨rfl, rfl⟩
            go_wp2
            go_roundw
            case rel =>
              refine ⟨x + 1, by omega, by go_num, (PB.out.1.set k8.out v).congr fun j _ => ?_, PB.out.2.setCell (p := ⟨G, k, none⟩) G0.out _⟩
              rw [show 128 * y + (x + 1) = 128 * y + x + 1 by omega]
              exact ST2.out j
            case measure => simp [intOf]; omega
          · have HF := Lib.hid (rsc_out f dx dy m h x y k (by omega) hk (by omega))
            clear hk
            go_wp2
            go_roundw
            case rel =>
              refine ⟨x + 1, by omega, by go_num, PB.out.1.congr fun j _ => upto_more _ _ _ (by omega) (fun j j0 j1 => by rw [show j = k by have := HK.out; omega]; exact HF.out) j, PB.out.2⟩
            case measure => simp [intOf]; omega
          · have HF := Lib.hid (rsc_out f dx dy m h x y k (by omega) hk (by omega))
            clear hk
            go_wp2
            go_roundw
            case rel =>
              refine ⟨x + 1, by omega, by go_num, PB.out.1.congr fun j _ => upto_more _ _ _ (by omega) (fun j j0 j1 => by rw [show j = k by have := HK.out; omega]; exact HF.out) j, PB.out.2⟩
            case measure => simp [intOf]; omega
          · have HF := Lib.hid (rsc_out f dx dy m h x y k (by omega) hk (by omega))
            clear hk
            go_wp2
            go_roundw
            case rel =>
              refine ⟨x + 1, by omega, by go_num, PB.out.1.congr fun j _ => upto_more _ _ _ (by omega) (fun j j0 j1 => by rw [show j = k by have := HK.out; omega]; exact HF.out) j, PB.out.2⟩
            case measure => simp [intOf]; omega
          · have HF := Lib.hid (rsc_out f dx dy m h x y k (by omega) hk (by omega))
            clear hk
            go_wp2
            go_roundw
            case rel =>
              refine ⟨x + 1, by omega, by go_num, PB.out.1.congr fun j _ => upto_more _ _ _ (by omega) (fun j j0 j1 => by rw [show j = k by have := HK.out; omega]; exact HF.out) j, PB.out.2⟩
            case measure => simp [intOf]; omega
        · have xm := Lib.hid (show x = m by omega)
          have hxi : ¬ (x : Int) < (m : Int) := by omega
          go_wp2
          go_roundw
          case rel =>
            refine ⟨y + 1, by omega, by go_num, PB.out.1.congr fun j _ => upto_more _ _ _ (by omega) (fun j j0 j1 => rsc_far _ _ _ _ _ _ (by have := xm.out; omega)) j, PB.out.2⟩
          case measure => simp [intOf]; omega
    · have yh := Lib.hid (show y = h by omega)
      have hyi : ¬ (y : Int) < (h : Int) := by omega
      go_wp2
      go_ret
      exact ⟨G, rfl, G0.out, PB.out.1.congr fun j hj => by
        by_cases e : j < 128 * y
        · exact upto_all _ _ _ e
        · rw [upto, if_neg e, rsc_far _ _ _ _ _ _ (by have := yh.out; omega)], PB.out.2⟩
end Go.Proofs.Ytplmmfgmbfcjpaa
