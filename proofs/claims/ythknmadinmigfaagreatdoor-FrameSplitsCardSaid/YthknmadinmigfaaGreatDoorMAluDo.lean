/- AluDo. -/
import Derived.Test.YthknmadinmigfaaGreatDoorMk0a
set_option maxRecDepth 400000
set_option maxHeartbeats 64000000
set_option linter.unusedVariables false
set_option linter.unusedSimpArgs false
namespace Go.Proofs.YthknmadinmigfaaGreatDoor
section
open Go.RowKit Num Dec Cpu
structure D4(w0:World)(g:Nat)(v:Nat→Nat)(op:Int)(x y:Nat)(n:Int)(nn:Nat)(addr len:Int)(q:Pr)(w:World):Prop where
 r:Blk g 45 (rg v) w
 i:Blk (g+1) 89 #[.int .i64 op,.int .i64 (x:Int),.int .i64 (y:Int),.int .i64 n,.int .i64 (nn:Int),.int .i64 addr,.int .i64 len] w
 p:Blk (g+1+1) 24 (prc q) w
 o:Blk (g+1+1+1) 45 (pc lO) w
 low:Below w0.heap.size w0 w
 le:w0.heap.size≤g
theorem D4.put{w0 w:World}{g:Nat}{v:Nat→Nat}{op:Int}{x y:Nat}{n:Int}{nn:Nat}{addr len:Int}{q:Pr}(D:D4 w0 g v op x y n nn addr len q w){k:Nat}(hk:k<16)(r:Nat):D4 w0 g (upd v k r) op x y n nn addr len q (w.setCell ⟨g,k,none⟩ (.int .u8 (r:Int))):=
 ⟨(D.r.put k _).eq (WQ v hk r),D.i.other zLS k _,D.p.other zLS k _,D.o.other zLS k _,D.low.trans ⟨rfl,rfl,rfl,by simp,fun b hb=>qL w ⟨g,k,none⟩ _ b (by have:=D.le;show b≠g;omega)⟩,D.le⟩
theorem D4.cx{w0 w:World}{g:Nat}{v:Nat→Nat}{op:Int}{x y:Nat}{n:Int}{nn:Nat}{addr len:Int}{q:Pr}(D:D4 w0 g v op x y n nn addr len q w){k:Nat}(hk:k<16):w.cell? ⟨g,k,none⟩=some (.int .u8 (v k:Int)):=by rw[D.r.cell,dG v hk]
end
end Go.Proofs.YthknmadinmigfaaGreatDoor
