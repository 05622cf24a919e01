/- Contracts of the reference of layer 9: Down, Release, Releases; and of Numbers, of two slices that read as one list. -/
import Derived.Test.YtdlomdkapepkbaaKeyBox
import Derived.Test.YtdlomdkapepkbaaRow
import Derived.Test.YtdlomdkapepkbaaCalm
import Derived.Laws.OwnMore
import Derived.Maps.AppendAt
namespace Go.Proofs.Ytdlomdkapepkbaa
open Go.RowKit Num
set_option linter.unusedVariables false
set_option linter.unusedSimpArgs false

set_option maxRecDepth 100000 in
set_option maxHeartbeats 2000000 in
theorem down_any (A : Option Addr) (n c : Nat) (l : List Ev) (key : Int) (v : Bool) (hv : v = dn l key) (w : World) (H : Evs w A n l) (hn : n ≤ 1000) :
    Calls Try.prog 11 #[.slice A n c, .int .i64 key] w fun x w' => x = .returned (.bool v) ∧ w = w' := by
  have HV := Lib.hid hv
  have HZ := Lib.hid H.len
  have HE := Lib.hid H
  clear hv H
  have m1 : (-1 : Int) ≤ (n : Int) - 1 := by omega
  go_enter Try.func11, Try.ntmps11
  go_wp2
  go_loop [5] (fun i => ∃ m : Nat, m ≤ n ∧ i = .int .i64 ((m : Int) - 1) ∧ v = dn (l.take m) key) (fun i => (intOf i + 1).toNat)
  case atStart => exact ⟨n, Nat.le_refl _, rfl, by rw [List.take_of_length_le (by rw [HZ.out]; omega)]; exact HV.out⟩
  case round =>
    obtain ⟨m, hm, rfl, hno⟩ := hrel
    have Hno := Lib.hid hno
    clear hno m1
    rcases m with _ | k
    · have e0 := Lib.hid (show v = false by rw [Hno.out, List.take_zero, dn_nil])
      have m0 : ¬ (0 : Int) ≤ ((0 : Nat) : Int) - 1 := by omega
      go_wp2
      go_ret
      exact ⟨by rw [e0.out]; rfl, rfl⟩
    · have e1 : ((k + 1 : Nat) : Int) - 1 = (k : Int) := by omega
      rw [e1]
      clear e1
      have k0 : 0 ≤ (k : Int) := by omega
      have k1 : (k : Int) < (n : Int) := by omega
      have hkl : k < l.length := by rw [HZ.out]; omega
      obtain ⟨b, o, hA, hbl, c1, c2, ok⟩ := HE.out.at_ k hkl
      subst hA
      obtain ⟨e, he⟩ : ∃ e, e = l[k] := ⟨_, rfl⟩
      rw [← he] at c1 c2
      by_cases hf : e.k = key
      · have HD := Lib.hid (show v = (e.d && decide (0 ≤ key ∧ key ≤ 15)) by rw [Hno.out, he]; exact dn_hit l k hkl key (he ▸ hf))
        have hf1 : (e.k == key) = true := by simpa using hf
        clear hf he ok hkl Hno
        obtain ⟨ek, d⟩ := e
        simp only at c1 c2 hf1
        cases d
        · have H2 := Lib.hid (show v = false by rw [HD.out]; simp)
          go_wp2
          go_ret
          exact ⟨by rw [H2.out]; rfl, rfl⟩
        · by_cases h0 : 0 ≤ key
          · by_cases h1 : key ≤ 15
            · have H2 := Lib.hid (show v = true by rw [HD.out, decide_eq_true ⟨h0, h1⟩]; rfl)
              have h2 : decide (key ≤ 15) = true := by simpa using h1
              go_wp2
              go_ret
              exact ⟨by rw [H2.out]; simp, rfl⟩
            · have H2 := Lib.hid (show v = false by rw [HD.out, decide_eq_false (fun q => h1 q.2)]; rfl)
              have h2 : decide (key ≤ 15) = false := by simpa using h1
              go_wp2
              go_ret
              exact ⟨by rw [H2.out]; simp [h1], rfl⟩
          · have H2 := Lib.hid (show v = false by rw [HD.out, decide_eq_false (fun q => h0 q.1)]; rfl)
            go_wp2
            go_ret
            exact ⟨by rw [H2.out]; simp, rfl⟩
      · have HD := Lib.hid (dn_miss l k hkl key (he ▸ hf))
        have hf1 : (e.k == key) = false := by simpa using hf
        clear hf he ok
        go_wp2
        go_round
        case rel => exact ⟨k, by omega, by go_num, by rw [Hno.out, HD.out]⟩
        case measure => simp [intOf]

set_option maxHeartbeats 1000000 in
theorem release_any (A : Option Addr) (n c : Nat) (l : List Ev) (k : Int) (d v : Bool) (hv : v = rel (aft up l) ⟨k, d⟩) (w : World) (H : Evs w A n l) (hn : n ≤ 1000) :
    Calls Try.prog 9 #[.slice A n c, .agg #[.int .i64 k, .bool d]] w fun x w' => x = .returned (.bool v) ∧ Below w.heap.size w w' := by
  have DN := Lib.hid fun w' (b : Below w.heap.size w w') => down_any A n c l k (dn l k) rfl w' (H.step b) hn
  obtain ⟨u, hu⟩ : ∃ u, dn l k = u := ⟨_, rfl⟩
  have HV := Lib.hid (show v = (u && !d) by rw [hv, ← dn_rel, ← hu])
  rw [hu] at DN
  clear hu hv H
  go_enter Try.func9, Try.ntmps9
  go_wp2_with fail
  refine (DN.out _ (below_newK _ _)).mono ?_
  rintro e w' ⟨rfl, rfl⟩
  cases u
  all_goals
    go_wp2
    go_ret
    exact ⟨by rw [HV.out]; simp, below_newK _ _⟩

set_option maxRecDepth 100000 in
set_option maxHeartbeats 2000000 in
/-- Two slices that read as one list are equal. -/
theorem numbersK (A B : Option Addr) (c d n : Nat) (L : List Int) (w : World) (hn : L.length = n) (n1 : n ≤ 65536) (hA : Row (Value.int .i64) w A L) (hB : Row (Value.int .i64) w B L) :
    Calls Try.prog 12 #[.slice A n c, .slice B n d] w fun e w' => e = .returned (.bool true) ∧ Below w.heap.size w w' := by
  go_enter Try.func12, Try.ntmps12
  go_wp2
  go_loopw [5] (fun i wr => ∃ k : Nat, k ≤ n ∧ i = .int .i64 k ∧ Below w.heap.size w wr) (fun i _ => n - (intOf i).toNat)
  case atStart => exact ⟨0, Nat.zero_le _, rfl, Below.refl _ _⟩
  case round =>
    obtain ⟨k, hk, rfl, hb⟩ := hrel
    by_cases hlt : k < n
    · obtain ⟨g, o, rfl, hg, hc⟩ := (hA.below hb).at_ (k := k) (by omega)
      obtain ⟨g2, o2, rfl, hg2, hc2⟩ := (hB.below hb).at_ (k := k) (by omega)
      have hlk : (k : Int) < (n : Int) := by omega
      obtain ⟨x, hx⟩ : ∃ x, L[k]'(by omega) = x := ⟨_, rfl⟩
      rw [hx] at hc hc2
      clear hx
      go_wp2
      go_quiet (fail)
      go_wp2
      go_roundw
      case rel => exact ⟨k + 1, by omega, by go_num, hb.trans ⟨rfl, rfl, rfl, Nat.le_refl _, fun _ _ => rfl⟩⟩
      case measure => simp [intOf]; omega
    · have hkn : k = n := by omega
      subst hkn
      go_wp2
      go_ret
      exact ⟨rfl, hb⟩

theorem own_stepR {w w' : World} {base size k : Nat} {e : TypeId} {v : Value} {xs : List Value} (h : w.ownsRow base e size v k xs) (hb : Below w.heap.size w w') : w'.ownsRow base e size v k xs :=
  h.kept (row := none) ⟨hb.os, hb.tape, hb.output, hb.size, fun k hk _ => hb.block k hk⟩ (by
    rcases h.2 with ⟨rfl, _⟩ | ⟨g, cap, cur, rfl, _⟩
    · exact .inl rfl
    · exact .inr (by simp [Value.ownBlock]))
/-- A slice of numbers comes back. -/
def Nums (L : List Int) (w : World) (x : Ending) (w' : World) : Prop := (∃ A c, x = .returned (.slice A L.length c) ∧ Row (Value.int .i64) w' A L) ∧ Below w.heap.size w w'
theorem infoIntR : (Try.prog.info? 3).map (fun i => (i.zero, i.size, i.bytes)) = some (some (.int .i64 0), 1, 8) := by kernel_rfl
set_option maxRecDepth 100000 in
set_option maxHeartbeats 4000000 in
theorem releases_any (A : Option Addr) (n c f : Nat) (l : List Ev) (L : List Int) (hL : L = rfr l f) (w : World) (H : Evs w A n l) (hn : n ≤ 1000) (hf : f ≤ n) (hc : n ≤ c) :
    Calls Try.prog 13 #[.slice A n c, .int .i64 (f : Int)] w (Nums L w) := by
  obtain ⟨i0, hi, hz0, hz1, hz2⟩ := info_parts infoIntR
  have HV := Lib.hid hL
  have HZ := Lib.hid H.len
  have HE := Lib.hid H
  clear hL H
  go_enter Try.func13, Try.ntmps13
  go_wp2
  go_loopw [5, 6] (fun o i wr => ∃ k : Nat, f ≤ k ∧ k ≤ n ∧ i = .int .i64 k ∧ wr.ownsRow w.heap.size 3 1 o (rft l f k).length ((rft l f k).map (Value.int .i64)) ∧ Below w.heap.size w wr) (fun _ i _ => n - (intOf i).toNat)
  case atStart => exact ⟨f, Nat.le_refl _, hf, rfl, by rw [rft_zero]; exact World.ownsRow_nil _ _ _ _, Below.refl _ _⟩
  case round =>
    obtain ⟨k, hfk, hk, rfl, hown, hb⟩ := hrel
    by_cases hlt : k < n
    · have k0 : 0 ≤ (k : Int) := by omega
      have k1 : (k : Int) < (n : Int) := by omega
      have k2 : (k : Int) ≤ (c : Int) := by omega
      have k3 : k ≤ c := by omega
      have hkl : k < l.length := by rw [HZ.out]; exact hlt
      have HR := HE.out.step hb
      obtain ⟨b, o, hA, hbl, c1, c2, ok⟩ := HR.at_ k hkl
      subst hA
      obtain ⟨e, he⟩ : ∃ e, e = l[k] := ⟨_, rfl⟩
      rw [← he] at c1 c2
      have SL := Lib.hid (he ▸ rft_succ l f k hfk hkl)
      obtain ⟨ek, ed⟩ := e
      simp only at c1 c2
      obtain ⟨v, hv⟩ : ∃ v, v = rel (aft up (l.take k)) ⟨ek, ed⟩ := ⟨_, rfl⟩
      have REL := Lib.hid fun w' (b : Below w.heap.size w w') => release_any (some _) k c (l.take k) ek ed v hv w' ((HE.out.step b).take k hk) (by omega)
      have SV := Lib.hid (show one (aft up (l.take k)) ⟨ek, ed⟩ = if v = true then [ek] else [] by unfold one; rw [← hv])
      have HB := Lib.hid hb
      have hz := hb.size
      clear he hv hb ok HR hkl
      have q1 : ∀ u : Calm wr, u.w.cell? ⟨b, o + k * 2, none⟩ = some (.int .i64 ek) := fun u => (u.below.cell (p := ⟨b, o + k * 2, none⟩) hbl).trans c1
      have q2 : ∀ u : Calm wr, u.w.cell? ⟨b, o + k * 2 + 1, none⟩ = some (.bool ed) := fun u => (u.below.cell (p := ⟨b, o + k * 2 + 1, none⟩) hbl).trans c2
      have RQ := Lib.hid fun u : Calm wr => REL.out u.w (HB.out.trans (u.below.mono hz))
      go_upto_region 5 with fail
      clear c1 c2
      refine calm_region (by kernel_rfl) (by kernel_rfl) ?_
      repeat (go_big_quiet_step ((go_at_call 9; exact calm_call (RQ.out _))))
      refine wpQuiet_nil ?_
      intro _ hw'
      obtain ⟨u, rfl⟩ := hw'
      have c1 := q1 u
      have c2 := q2 u
      have hown := own_stepR hown u.below
      have HB := Lib.hid (HB.out.trans (u.below.mono hz))
      have hz := HB.out.size
      clear q1 q2 RQ
      generalize u.w = w5 at *
      cases v
      · have SS := Lib.hid (show rft l f (k + 1) = rft l f k by rw [SL.out, SV.out]; simp)
        go_wp2
        go_roundw
        case rel => exact ⟨k + 1, by omega, by omega, by go_num, by rw [SS.out]; exact hown, HB.out⟩
        case measure => simp [intOf]; omega
      · have SS := Lib.hid (show rft l f (k + 1) = rft l f k ++ [ek] by rw [SL.out, SV.out]; simp)
        have hln : (rft l f k).length ≤ 100000 := by have := rft_le l f k; have := HZ.out; omega
        go_wp2_with (at_builtin; refine wpList_append_own _ rfl _ _ 32 rfl w.heap.size 3 i0 (.int .i64 0) 1 8 Try.underlying32 hi hz0 hz1 hz2 rfl (by decide) _ _ _ rfl (hown.alloc _) ⟨_, 0, none⟩ 1 1 [.int .i64 ek] rfl rfl (cell_one_new _ _ _) (by simp [Value.oneCell']) (by unfold maxLen; omega) (by omega) (by simp; omega) ?_; intro v' w1 hown' hgrow _)
        go_roundw
        case rel =>
          refine ⟨k + 1, by omega, by omega, by go_num, by rw [SS.out]; simpa using hown', (HB.out.alloc hz _).grown hgrow (by simp; omega) fun j ej => ?_⟩
          exact (hown.lt j ej).1
        case measure => simp [intOf]; omega
    · have hkn : k = n := by omega
      subst hkn
      have e1 := Lib.hid (show L = rft l f k by rw [HV.out, ← rft_all l f (by rw [HZ.out]; exact hf), HZ.out])
      go_wp2
      go_ret
      obtain ⟨A, c, rfl⟩ := own_form hown
      exact ⟨⟨A, c, by rw [e1.out]; rfl, by rw [e1.out]; exact Row.of_own hown⟩, hb⟩
end Go.Proofs.Ytdlomdkapepkbaa
