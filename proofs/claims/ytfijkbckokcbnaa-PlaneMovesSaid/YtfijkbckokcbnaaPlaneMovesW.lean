/- The walk of PlaneMoves. -/
import Derived.Test.YtfijkbckokcbnaaPlaneAwake
import Derived.Test.YtfijkbckokcbnaaPlaneOpen
namespace Go.Proofs.Ytfijkbckokcbnaa
open Go.RowKit Num
set_option linter.unusedVariables false
set_option linter.unusedSimpArgs false

set_option maxRecDepth 100000 in
set_option maxHeartbeats 4000000 in
theorem planeMoves_go (A : Option Addr) (L : List Nat) (n cap : Nat) (big hires : Bool) (x y : Int) (w : World) (H : Rd16 w A L) (hL : ∀ x ∈ L, x ≤ 65535) (hn : L.length = n) :
    Calls Try.prog 7 #[.slice A n cap, .bool big, .int .i64 x, .int .i64 y, .bool hires] w fun e w' => e = .returned (.bool true) ∧ Below w.heap.size w w' := by
  obtain ⟨m, h, hr⟩ := resOf hires
  obtain ⟨c, c8, hc⟩ := countOf big
  obtain ⟨m0, m1, h0, h1⟩ := hr.bounds
  have RR := Lib.hid hr
  have GR := Lib.hid H
  have HH := Lib.hid (And.intro hL (And.intro hn (And.intro c8 hc)))
  have BB := Lib.hid (Below.refl w.heap.size w)
  clear hr H hL hn c8 hc
  go_enter Try.func7, Try.ntmps7
  go_wp2_with fail
  refine (awake7 _).mono ?_
  rintro e v1 ⟨rfl, b1⟩
  have GR := Lib.hid (GR.out.step b1)
  have BB := Lib.hid (BB.out.trans (b1.mono BB.out.size))
  clear b1
  by_cases hR : Right n x y m h
  · have RI := hR
    obtain ⟨n1, x0, y0, x1, y1⟩ := hR
    obtain ⟨X, rfl⟩ := Int.eq_ofNat_of_zero_le x0
    obtain ⟨Y, rfl⟩ := Int.eq_ofNat_of_zero_le y0
    have hX : X < m := by omega
    have hY : Y < h := by omega
    obtain ⟨ZA, hZA⟩ : ∃ Z, spr (nth L) n c 0 0 m h true = Z := ⟨_, rfl⟩
    obtain ⟨ZB, hZB⟩ : ∃ Z, spr (nth L) n c X Y m h true = Z := ⟨_, rfl⟩
    obtain ⟨ZC, hZC⟩ : ∃ Z, scroll ZA X Y m h = Z := ⟨_, rfl⟩
    have c16 : c ≤ 16 := by have := HH.out.2.2.1; omega
    have hs : samePl ZB ZC = true := same_of fun j _ => by
      rw [← hZB, ← hZC, ← hZA, spr_moves _ _ _ _ _ _ _ c16 m0 m1 hX (by omega) hY]
    have HS := Lib.hid (And.intro hs (And.intro hZA (And.intro hZB hZC)))
    have RI := Lib.hid RI
    clear hs hZA hZB hZC x0 y0 x1 y1
    go_wp2_with fail
    refine (right_yes _ _ _ _ _ _ m h RR.out _ RI.out).mono ?_
    rintro e w' ⟨rfl, rfl⟩
    go_wp2_with fail
    refine (lcount_any big c HH.out.2.2.2 _).mono ?_
    rintro e w' ⟨rfl, rfl⟩
    go_wp2_with fail
    refine (spW RR.out GR.out HH.out.1 HH.out.2.1 n1 HH.out.2.2.1 (show 0 < m by omega) (show 0 < h by omega) rfl rfl rfl HS.out.2.1).mono ?_
    rintro e v2 ⟨rfl, b1⟩
    have GR := Lib.hid (GR.out.step b1)
    have BB := Lib.hid (BB.out.trans (b1.mono BB.out.size))
    clear b1
    simp only []
    go_at_K
    go_step
    refine list_var (A := ZA) rfl rfl rfl (.tmp 11) (.tmp 27) rfl (by simp [Act.eval, Act.put]) (by simp [Act.eval, Act.put]) ?_
    simp only [Act.put, List.setIfInBounds_toArray, List.set_cons_zero, List.set_cons_succ]
    have A1 := Lib.hid (PBox.new v2 ZA 35)
    have GR := Lib.hid (GR.out.step (below_new _ (.cells (pcells ZA) 35)))
    have BB := Lib.hid (BB.out.alloc BB.out.size (.cells (pcells ZA) 35))
    obtain ⟨q1, hq⟩ : ∃ q, v2.heap.size = q := ⟨_, rfl⟩
    generalize v2.alloc (.cells (pcells ZA) 35) = v3 at *
    rw [hq] at A1 ⊢
    clear hq
    go_upto_region 4 with fail
    have S2 := Lib.hid fun x : Calm v3 => spW (cap := cap) RR.out (GR.out.step x.below) HH.out.1 HH.out.2.1 n1 HH.out.2.2.1 hX hY rfl rfl rfl HS.out.2.2.1
    have C2 := Lib.hid fun w => scW (A := ZA) (Z := ZC) RR.out HS.out.2.2.2 (by omega) (by omega) (by omega) (by omega) w
    have E2 := Lib.hid HS.out.1
    refine calm_region (by kernel_rfl) (by kernel_rfl) ?_
    repeat (first
      | (refine quiet_plane A1.out ?_ (.tmp 11) rfl ?_ ?_; (focus rfl); (focus (simp [Act.eval]; done)); simp only [Act.put, List.setIfInBounds_toArray, List.set_cons_zero, List.set_cons_succ])
      | (refine quiet_same E2.out ?_ (.tmp 34) (.tmp 39) 35 rfl ?_ ?_ ?_; (focus rfl); (focus (simp [Act.eval]; done)); (focus (simp [Act.eval]; done)); simp only [Act.put, List.setIfInBounds_toArray, List.set_cons_zero, List.set_cons_succ])
      | go_big_quiet_step ((first
        | (go_at_call 21; exact calm_same (lcount_any big c HH.out.2.2.2 _))
        | (go_at_call 22; exact calm_call (S2.out _))
        | (go_at_call 18; exact calm_call (C2.out _)))))
    refine wpQuiet_nil ?_
    intro _ hw'
    obtain ⟨x, rfl⟩ := hw'
    have GR := Lib.hid (GR.out.step x.below)
    have A1 := Lib.hid (A1.out.step x.below)
    have BB := Lib.hid (BB.out.trans (x.below.mono BB.out.size))
    generalize x.w = v4 at *
    go_wp2
    go_ret
    exact ⟨rfl, BB.out⟩
  · have RI := Lib.hid hR
    clear hR
    go_wp2_with fail
    refine (right_no _ _ _ _ _ _ m h RR.out _ RI.out).mono ?_
    rintro e w' ⟨rfl, rfl⟩
    go_wp2_with fail
    refine (awake7 _).mono ?_
    rintro e v2 ⟨rfl, b2⟩
    have BB := Lib.hid (BB.out.trans (b2.mono BB.out.size))
    clear b2
    go_wp2
    go_ret
    exact ⟨rfl, BB.out⟩
theorem planeMoves_walk (A : Option Addr) (n cap : Nat) (L : List Nat) (big : Bool) (x y : Int) (hires : Bool) (w : World) (H : Arg16 w A n L) (hx : (Lit.int .i64 x).wf = true) (hy : (Lit.int .i64 y).wf = true) :
    Calls Try.prog 7 #[.slice A n cap, .bool big, .int .i64 x, .int .i64 y, .bool hires] w fun e w' => e = .returned (.bool true) ∧ Below w.heap.size w w' :=
  planeMoves_go A L n cap big hires x y w H.rd H.le H.len
end Go.Proofs.Ytfijkbckokcbnaa
