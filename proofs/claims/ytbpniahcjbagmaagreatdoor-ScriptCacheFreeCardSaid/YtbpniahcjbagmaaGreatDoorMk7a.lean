/- SptAll. -/
import Derived.Test.YtbpniahcjbagmaaGreatDoorMSptFn
set_option maxRecDepth 400000
set_option maxHeartbeats 64000000
set_option linter.unusedVariables false
set_option linter.unusedSimpArgs false
namespace Go.Proofs.YtbpniahcjbagmaaGreatDoor
section
open Go.RowKit Go.Shelf Num Dec Cpu
def erS(s:Sp):Int:=if xO s=true then 0 else 5
def rsS(N:Nat)(s:Sp)(R L:List Int)(l:List (List Ev)):List cE:=if xO s=true then rC N s.cy.toNat l (wU s.q,uB R L)else[]
structure Rds(A:Option Addr)(n:Nat)(l:List cE)(w:World):Prop where
 len:l.length=n
 at_:l≠[]→∃g,A=some ⟨g,0,none⟩∧Rcs g l w
theorem Rds.step{A:Option Addr}{n:Nat}{l:List cE}{w w':World}(h:Rds A n l w)(hb:Below w.heap.size w w'):Rds A n l w':=⟨h.len,fun hl=>by
 obtain⟨g,e,r⟩:=h.at_ hl;exact⟨g,e,r.step hb⟩⟩
theorem Rds.get{A:Option Addr}{n:Nat}{l:List cE}{w:World}(h:Rds A n l w){i:Nat}(hi:i<l.length):∃g,A=some ⟨g,0,none⟩∧g<w.heap.size∧w.rangeAt g (i*535) (nQ l[i]).toList:=by
 obtain⟨g,e,r⟩:=h.at_ (by rintro rfl;simp at hi);exact⟨g,e,r.lt,r.at_ i hi⟩
theorem u6(N:Nat)(CS:vR N)(E0:uP N)(s:Sp){R Ls F:List Int}{l:List Fv}(w:World)(LW:cQ w)(H:wW s w R Ls F l)(hf:gG s l=true):
  Calls Tryz.prog 18 #[.agg (spC s)] w fun e w'=>∃A n,e=.returned (.tuple #[.agg (rsK false (.slice A n n)),.int .i64 (erS s)])∧Rds A n (rsS N s R Ls (l.map Fv.ev)) w'∧Below w.heap.size w w':=by
 obtain⟨h1,h2,h3,h4,h5,h6⟩:=pW H.g hf;by_cases hv:xO s=true
 ·have hv':=hv;unfold xO at hv';simp only[zC,qK]at hv';obtain⟨hq,hc0,hc1⟩:=hv';have gl:=H.g.len;refine(dW N CS E0 s w LW H s.cy.toNat zGX ⟨by omega,by omega,?_,h6⟩ hq zGX zGX zGX).mono ?_
  ·have h7:=Nat.mul_le_mul (show l.length≤8 by omega) (show s.cy.toNat≤60 by omega);omega
  rintro e w' ⟨g,rfl,r,b⟩;have e1:erS s=0:=zN hv;have e2:rsS N s R Ls (l.map Fv.ev)=rC N s.cy.toNat (l.map Fv.ev) (wU s.q,uB R Ls):=zN hv;rw[e1,e2];exact⟨_,_,rfl,⟨by rw[wR,qI];exact gl,fun _=>⟨g,rfl,r⟩⟩,b⟩
 ·have e1:erS s=5:=zL hv;have e2:rsS N s R Ls (l.map Fv.ev)=[]:=zL hv;rw[e1,e2];have hno:Calls Tryz.prog 18 #[.agg (spC s)] w fun e w'=>e=.returned (.tuple #[.agg (rsK false (.slice none 0 0)),.int .i64 5])∧Below w.heap.size w w':=by
   by_cases hc:s.cy<0∨65535<s.cy
   ·exact fW s w hc
   ·refine GN s w hc fun hq=>hv ?_;unfold xO;simp only[zC,qK];exact⟨hq,by omega,by omega⟩
  refine hno.mono ?_;rintro e w' ⟨rfl,b⟩;exact⟨none,0,rfl,⟨rfl,fun h=>absurd rfl h⟩,b⟩
theorem iC{o:Oper}{a:Act}{K:Act→World→Prop}{Q:Exit→Act→World→Prop}(n:Nat)(hn:n≤1000000)(w:World)(x y:Operand)(ho:o.op=.makeSlice 22 x y)(hx:a.eval x=.int .i64 (n:Int))(hy:a.eval y=.int .i64 (n:Int))
  (h:K (a.put o.dst (.slice (some ⟨w.heap.size,0,none⟩) n n)) (w.alloc (.cells (arr (List.replicate n 0)) 5))):o.wp Tryz.prog a w K Q:=by
 have mk:=ZK n n rfl hn w;unfold Oper.wp execOp;simp only[ho,hx,hy,zA,mk,Result.andThen_ok,Sem.run_pure];exact h
end
end Go.Proofs.YtbpniahcjbagmaaGreatDoor
