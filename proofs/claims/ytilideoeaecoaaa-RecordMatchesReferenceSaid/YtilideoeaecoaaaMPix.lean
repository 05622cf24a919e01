/- Pix. -/
import Derived.Test.YtilideoeaecoaaaRows
import Derived.Test.YtilideoeaecoaaaMk0a
set_option maxRecDepth 400000
set_option maxHeartbeats 64000000
set_option linter.unusedVariables false
set_option linter.unusedSimpArgs false
namespace Go.Proofs.Ytilideoeaecoaaa
section
open Go.RowKit Num
structure Box(b:Nat)(h l:BitVec 64)(w:World):Prop where
 lt:b<w.heap.size
 c0:w.cell? ⟨b,0,none⟩=some (.int .u64 (h.toNat:Int))
 c1:w.cell? ⟨b,1,none⟩=some (.int .u64 (l.toNat:Int))
 f0:w.frozen? ⟨b,0,none⟩=false
 f1:w.frozen? ⟨b,1,none⟩=false
section
variable {b:Nat} {h l h' l':BitVec 64} {w w':World}
theorem Box.below(H:Box b h l w){n:Nat}(hb:Below n w w')(hn:b<n):Box b h l w':=
 ⟨zG H.lt hb.size,(hb.cell (p:=⟨b,0,none⟩) hn).trans H.c0,(hb.cell (p:=⟨b,1,none⟩) hn).trans H.c1,(hb.frozen (p:=⟨b,0,none⟩) hn).trans H.f0,(hb.frozen (p:=⟨b,1,none⟩) hn).trans H.f1⟩
theorem Box.step(H:Box b h l w)(hb:Below w.heap.size w w'):Box b h l w':=H.below hb H.lt
theorem Box.new(w:World)(h l:BitVec 64)(t:TypeId):Box w.heap.size h l (w.alloc (.cells #[.int .u64 (h.toNat:Int),.int .u64 (l.toNat:Int)] t)):=
 ⟨by simp,by rw[World.cell?_alloc_at _ _ _ _ rfl];rfl,by rw[World.cell?_alloc_at _ _ _ _ rfl];rfl,World.frozen?_alloc_at _ _ _ _ rfl,World.frozen?_alloc_at _ _ _ _ rfl⟩
theorem Box.alloc(H:Box b h l w)(o:Obj):Box b h l (w.alloc o):=H.step ((zA _ _).alloc (zP _) _)
theorem Box.drew(H:Box b h l w):Box b h l w.drew:=H.step (zA _ _).drew
theorem Box.set(H:Box b h l w)(h' l':BitVec 64):Box b h' l' ((w.setCell ⟨b,0,none⟩ (.int .u64 (h'.toNat:Int))).setCell ⟨b,1,none⟩ (.int .u64 (l'.toNat:Int))):=by
 have e0:=World.cell?_setCell_same w (a:=⟨b,0,none⟩) (.int .u64 (h'.toNat:Int)) H.c0;have e1:(w.setCell ⟨b,0,none⟩ (.int .u64 (h'.toNat:Int))).cell? ⟨b,1,none⟩=_:=(qW w _ _ _ oP).trans H.c1;refine⟨by simpa using H.lt,?_,World.cell?_setCell_same _ (a:=⟨b,1,none⟩) _ e1,?_,?_⟩
 ·rw[qW _ _ _ _ oP];exact e0
 ·rw[World.frozen?_setCell,World.frozen?_setCell];exact H.f0
 ·rw[World.frozen?_setCell,World.frozen?_setCell];exact H.f1
theorem Box.other(H:Box b h l w){g:Nat}(hg:g≠b)(o:Nat)(v:Value):Box b h l (w.setCell ⟨g,o,none⟩ v):=
 ⟨by simpa using H.lt,by rw[qW _ _ _ _ (by simp[hg])];exact H.c0,by rw[qW _ _ _ _ (by simp[hg])];exact H.c1,by rw[World.frozen?_setCell];exact H.f0,by rw[World.frozen?_setCell];exact H.f1⟩
end
theorem nY(w:World)(o:Obj):Below w.heap.size w (w.alloc o):=(zA _ _).alloc (zP _) _
end
end Go.Proofs.Ytilideoeaecoaaa
