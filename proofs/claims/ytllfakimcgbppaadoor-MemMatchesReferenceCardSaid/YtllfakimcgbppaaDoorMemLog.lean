/- Contracts of the log: add, take; of Dirty. -/
import Derived.Test.YtllfakimcgbppaaDoorMem
namespace Go.Proofs.YtllfakimcgbppaaDoor
open Go.RowKit Num
set_option linter.unusedVariables false

theorem infoRange : (Tryd.prog.info? 41).map (fun i => (i.zero, i.size, i.bytes)) = some (some (.agg #[.int .i64 0, .int .i64 0]), 2, 16) := by kernel_rfl

/-- The log of the memory at p has become xs; but for it and p all is as it was. -/
def Wrote (p : Nat) (M : List Int) (base n : Nat) (xs : List Value) (v : Value) (w : World) (e : Ending) (w' : World) : Prop :=
  e = .returned (.tuple #[]) ∧ ∃ v', MemAt p M v' w' ∧ w'.ownsRow base 41 2 v' n xs ∧ Apart p v.ownBlock w w' ∧ (v'.ownBlock = v.ownBlock ∨ ∃ g, v'.ownBlock = some g ∧ w.heap.size ≤ g)

theorem news_two (w : World) (x y : Value) (t : TypeId) : ∀ j u, [x, y][j]? = some u → (w.alloc (.cells #[x, y] t)).cell? ((⟨w.heap.size, 0, none⟩ : Addr).add j) = some u := by
  intro j u hj
  rw [add_pl, cell_of_row _ _ _ _ _ _ (heap_alloc_new w _)]
  simpa using hj

theorem grown_mem {p : Nat} {M : List Int} {v : Value} {w1 w2 : World} {base n : Nat} {xs : List Value} {o : Obj} (hp : MemAt p M v w1) (hv : w1.ownsRow base 41 2 v n xs) (hg : (w1.drew.alloc o).grownBy w2 v.ownBlock) : MemAt p M v w2 := by
  have hlt := hp.lt
  have hne := own_tag hv hp (by decide)
  refine hp.keep ((hg.block p (by simp; omega) (fun e => hne e.symm)).trans ?_)
  exact heap_alloc_old w1.drew _ hlt

theorem wrote_end {p : Nat} {M : List Int} {v : Value} {base n cap gg : Nat} {xs : List Value} {w w1 w2 : World} {o : Obj} (hM : M.length = 65536) (ha : Apart p v.ownBlock w w1) (hs : w1.heap.size = w.heap.size + 1) (q : MemAt p M v w2)
    (hown : w2.ownsRow base 41 2 (.slice (some ⟨gg, 0, none⟩) (n + 1) cap) (n + 1) xs) (hg : (w1.alloc o).drew.grownBy w2 v.ownBlock) (hat : v.ownBlock = some gg ∨ gg = (w1.alloc o).drew.heap.size) :
    Wrote p M base (n + 1) xs v w (.returned (.tuple #[])) (w2.setCell ⟨p, 65536, none⟩ (.slice (some ⟨gg, 0, none⟩) (n + 1) cap)) := by
  have hne := own_tag hown q (by decide)
  refine ⟨rfl, _, q.setLog hM _, own_apart hown (p := p) (g := none) (Apart.setCell _ _) hne (fun k hk => by cases hk), ?_, ?_⟩
  · have h1 : Apart p v.ownBlock w1 (w1.alloc o).drew := (Apart.of_below ((Below.refl _ _).alloc (Nat.le_refl _) _)).drew
    exact ((ha.trans h1).trans (Apart.of_grown hg)).trans (Apart.setCell _ _)
  · rcases hat with h | h
    · exact .inl h.symm
    · refine .inr ⟨gg, rfl, ?_⟩
      rw [h]
      show w.heap.size ≤ (w1.alloc o).heap.size
      simp
      omega

set_option linter.unusedSimpArgs false in
set_option maxRecDepth 100000 in
set_option maxHeartbeats 2000000 in
theorem add_any (p : Nat) (M : List Int) (v : Value) (n base : Nat) (xs : List Value) (x y : Int) (w : World) (hM : M.length = 65536) (hp : MemAt p M v w) (hv : w.ownsRow base 41 2 v n xs) (hb : base ≤ w.heap.size) (hn : n ≤ 1000) :
    Calls Tryd.prog 27 #[.pointer (some ⟨p, 65536, none⟩), .agg #[.int .i64 x, .int .i64 y]] w (Wrote p M base (n + 1) (xs ++ [.int .i64 x, .int .i64 y]) v w) := by
  obtain ⟨i0, hi, hz0, hz1, hz2⟩ := info_parts infoRange
  have hlt := hp.lt
  have cl : (w.alloc (.cells #[.int .i64 x, .int .i64 y] 41)).cell? ⟨p, 65536, none⟩ = some v := by
    rw [World.cell?_of_block (w := w) (heap_alloc_old _ _ hlt)]
    exact hp.log hM
  have clf : (w.alloc (.cells #[.int .i64 x, .int .i64 y] 41)).frozen? ⟨p, 65536, none⟩ = false := by
    rw [World.frozen?_of_block (w := w) (heap_alloc_old _ _ hlt)]
    exact hp.frozen _
  have c0 : (w.alloc (.cells #[.int .i64 x, .int .i64 y] 41)).cell? ⟨w.heap.size, 0, none⟩ = some (.int .i64 x) := by rw [cell_of_row _ _ _ _ _ _ (heap_alloc_new w _)]; rfl
  have c1 : (w.alloc (.cells #[.int .i64 x, .int .i64 y] 41)).cell? ⟨w.heap.size, 1, none⟩ = some (.int .i64 y) := by rw [cell_of_row _ _ _ _ _ _ (heap_alloc_new w _)]; rfl
  have P := Lib.hid (And.intro hp hv)
  clear hp hv
  go_enter Tryd.func27, Tryd.ntmps27
  go_wp2
  obtain ⟨w1, hw1⟩ : ∃ w1, w1 = w.alloc (.cells #[.int .i64 x, .int .i64 y] 41) := ⟨_, rfl⟩
  rw [← hw1] at cl clf c0 c1 ⊢
  have hp1 : MemAt p M v w1 := P.out.1.keep (by rw [hw1]; exact heap_alloc_old _ _ hlt)
  have hv1 : w1.ownsRow base 41 2 v n xs := by rw [hw1]; exact P.out.2.alloc _
  have hs1 : w1.heap.size = w.heap.size + 1 := by rw [hw1]; simp
  have ha1 : Apart p v.ownBlock w w1 := by rw [hw1]; exact Apart.of_below ((Below.refl _ _).alloc (Nat.le_refl _) _)
  have Q := Lib.hid (And.intro hp1 (And.intro hv1 (And.intro ha1 hs1)))
  clear hw1 hp1 hv1 ha1 hs1
  have g1 : w.heap.size < w1.heap.size := by have := Q.out.2.2.2; omega
  have g2 : p < w1.heap.size := by omega
  go_region_law ((refine step_append_lies _ (by rfl) _ _ _ (by rfl) base 41 i0 _ 2 16 Tryd.underlying33 hi hz0 hz1 hz2 rfl (by omega) v n xs (by rfl) (World.ownsRow.alloc (w := w1.drew) Q.out.2.1 _) ⟨w1.heap.size, 0, none⟩ 1 1 [.int .i64 x, .int .i64 y] (by rfl) (by rfl) (news_two w1.drew _ _ _) (by simp [Value.oneCell']) (by omega) (by unfold maxLen; omega) (by omega) (by simp; omega) _ rfl ?_; intro gg cap w2 hown2 hgrow hat hlt2; have q2 := grown_mem Q.out.1 Q.out.2.1 hgrow; have ql := q2.log hM; have qf := q2.frozen 65536; have Q2 := Lib.hid (And.intro q2 (And.intro hown2 (And.intro hgrow hat))); clear q2 hown2 hgrow hat))
  all_goals
    go_wp2
    go_end0
    exact wrote_end hM Q.out.2.2.1 Q.out.2.2.2 Q2.out.1 Q2.out.2.1 Q2.out.2.2.1 Q2.out.2.2.2

/-- The log is handed over, and is empty then. -/
def Took (p : Nat) (M : List Int) (v : Value) (w : World) (e : Ending) (w' : World) : Prop := e = .returned v ∧ MemAt p M (.slice none 0 0) w' ∧ ∀ g, Apart p g w w'
set_option maxRecDepth 100000 in
set_option maxHeartbeats 1000000 in
theorem take_any (p : Nat) (M : List Int) (A : Option Addr) (n c : Nat) (w : World) (hM : M.length = 65536) (hp : MemAt p M (.slice A n c) w) :
    Calls Tryd.prog 26 #[.pointer (some ⟨p, 65536, none⟩)] w (Took p M (.slice A n c) w) := by
  have cl := hp.log hM
  have clf := hp.frozen 65536
  have P := Lib.hid (And.intro hp hM)
  clear hp hM
  go_enter Tryd.func26, Tryd.ntmps26
  go_wp2
  go_ret
  exact ⟨rfl, P.out.1.setLog P.out.2 _, fun g => Apart.setCell _ _⟩
set_option maxRecDepth 100000 in
set_option maxHeartbeats 1000000 in
theorem dirty_any (p : Nat) (M : List Int) (A : Option Addr) (n c : Nat) (w : World) (hM : M.length = 65536) (hp : MemAt p M (.slice A n c) w) :
    Calls Tryd.prog 14 #[.pointer (some ⟨p, 0, none⟩)] w (Took p M (.slice A n c) w) := by
  have P := Lib.hid (And.intro hp hM)
  clear hp hM
  go_enter Tryd.func14, Tryd.ntmps14
  go_wp2_with fail
  refine (take_any p M A n c _ P.out.2 P.out.1).mono ?_
  rintro e w' ⟨rfl, h⟩
  go_wp2
  go_ret
  exact ⟨rfl, h⟩
end Go.Proofs.YtllfakimcgbppaaDoor
