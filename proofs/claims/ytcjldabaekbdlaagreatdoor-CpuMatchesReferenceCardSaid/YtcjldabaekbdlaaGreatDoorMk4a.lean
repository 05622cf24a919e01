/- CpuRef5, ScrRel. -/
import Derived.Test.YtcjldabaekbdlaaGreatDoorMScrRefD
set_option maxRecDepth 400000
set_option maxHeartbeats 64000000
set_option linter.unusedVariables false
set_option linter.unusedSimpArgs false
namespace Go.Proofs.YtcjldabaekbdlaaGreatDoor
section
open Go.RowKit Num Dec Cpu
def rsC(G:Sl)(hi:Bool)(M:Int):Array Value:=#[G.v,.bool hi,.int .i64 M]
theorem xL:xX Tryz.prog 41 3:=⟨⟨_,Tryz.underlying41,rfl⟩,by kernel_rfl⟩
theorem OH:cY Tryz.prog 41 (rsC cX false 0):=by unfold cY;kernel_rfl
theorem uC(G:Sl)(hi:Bool)(M:Int):cL (rsC G hi M):=by unfold cL rsC Sl.v;simp[Value.oneCell']
theorem WZ(s:CS):(cst s).extract 20 (20+3)=rsC s.G s.hi s.msk:=rfl
theorem uB(s:CS)(G:Sl)(hi:Bool)(M:Int):m3 (cst s) 20 (rsC G hi M)=cst {s with G:=G,hi:=hi,msk:=M}:=rfl
structure Px4(N:Nat)(A:Option Addr)(gs:List Nat)(F:Nat→Nat→Bool)(w:World):Prop where
 len:gs.length=4
 row:Row (aG N) w A gs
 px:∀i,i<4→Pxs (gs.getD i 0) (F i) w
theorem Px4.step{N:Nat}{A:Option Addr}{gs:List Nat}{F:Nat→Nat→Bool}{w w':World}(h:Px4 N A gs F w)(hb:Below w.heap.size w w'):Px4 N A gs F w':=
 ⟨h.len,h.row.below hb,fun i hi=>(h.px i hi).step hb⟩
theorem Px4.refS{N:Nat}{A:Option Addr}{gs:List Nat}{F:Nat→Nat→Bool}{w:World}(h:Px4 N A gs F w):tB N w.heap.size A gs F w:=
 ⟨h.len,h.row,h.px,fun ad e he=>by
  obtain⟨b,o,hA,hlt,_⟩:=h.row zRF;rw[hA]at e;cases e
  exact absurd he (by simp only;omega),fun i hi e=>by have:=(h.px i hi).lt;omega⟩
def byC(M:List Int)(a:Int)(j:Nat):Nat:=(M.getD ((a+(j:Int))%65536).toNat 0).toNat
def Bts(M:List Int):Prop:=∀k (h:k<M.length),0≤M[k]∧M[k]≤255
theorem WY{M:List Int}(h:Bts M)(a:Int)(j:Nat):byC M a j≤255:=by
 unfold byC;rw[qJ];by_cases hk:((a+(j:Int))%65536).toNat<M.length
 ·rw[zP hk];have:=h _ hk;simp;omega
 ·rw[qD zBY];simp
theorem o7{M:List Int}(hB:Bts M)(hM:M.length=65536)(a:Int)(n j:Nat)(hj:j<n):(seg M a n)[j]?=some (byC M a j:Int):=by
 rw[Y8 M a n j hM hj];have hk:((a+(j:Int))%65536).toNat<M.length:=zBY;unfold byC;rw[qJ,zP hk];have:=hB _ hk;simp;omega
theorem zW4{M:List Int}(hB:Bts M)(hM:M.length=65536){a:Int}{n:Nat}{A:Option Addr}{w:World}(h:Rd w A (seg M a n)):zLJ A n (byC M a) w:=fun hn=>by
 obtain⟨ad,hA,hlt,hc⟩:=h (by intro e;have:=xU M a n;rw[e]at this;simp at this;omega);refine⟨ad,hA,hlt,fun j hj=>?_⟩;have h1:j<(seg M a n).length:=by rw[xU];exact hj
 have h2:=o7 hB hM a n j hj;rw[zP h1]at h2;rw[hc j h1,qU h2]
structure DQ(w:World)(g:Nat)(s z:CS)(i:Ins)(q:Pr)(w1:World):Prop where
 s:Blk g 43 (cst s) w1
 i:Blk (g+1) 47 (lI i) w1
 p:Blk (g+1+1) 31 (prc q) w1
 o:Blk (g+1+1+1) 43 (cst z) w1
 low:Below w.heap.size w w1
 at_:w.heap.size≤g
theorem DQ.new(w:World)(s z:CS)(i:Ins)(q:Pr):DQ w w.heap.size s z i q ((((w.alloc (.cells (cst s) 43)).alloc (.cells (lI i) 47)).alloc (.cells (prc q) 31)).alloc (.cells (cst z) 43)):=by
 have D:=D3.new w s i q;refine⟨D.s.alloc _,D.i.alloc _,D.p.alloc _,?_,D.low.alloc zBS _,zH _⟩;have h:=Blk.new (((w.alloc (.cells (cst s) 43)).alloc (.cells (lI i) 47)).alloc (.cells (prc q) 31)) 43 (cst z);rw[zR,zR,zR]at h;exact h
theorem DQ.step{w w1 w2:World}{g:Nat}{s z:CS}{i:Ins}{q:Pr}(h:DQ w g s z i q w1)(hb:Below w1.heap.size w1 w2):DQ w g s z i q w2:=
 ⟨h.s.step hb,h.i.step hb,h.p.step hb,h.o.step hb,h.low.trans (hb.mono h.low.size),h.at_⟩
theorem DQ.row{w w1:World}{g:Nat}{s s' z:CS}{i:Ins}{q:Pr}(h:DQ w g s z i q w1):DQ w g s' z i q (w1.setRow g (cst s')):=
 ⟨h.s.store _,h.i.otherRow zBY _,h.p.otherRow zBY _,h.o.otherRow zBY _,lU h.low h.at_ _,h.at_⟩
theorem DQ.putv{w w1:World}{g:Nat}{s z:CS}{i:Ins}{q:Pr}(h:DQ w g s z i q w1){k:Nat}(hk:k<16)(r:Nat):DQ w g {s with v:=Cpu.upd s.v k r} z i q (w1.setCell ⟨g,k,none⟩ (.int .u8 (r:Int))):=
 ⟨(h.s.put k _).eq (oV s hk r),h.i.other zBY k _,h.p.other zBY k _,h.o.other zBY k _,h.low.trans ((Below.setCell (zB _ _) h.at_ _)),h.at_⟩
theorem rK{w w':World}{b:Nat}(h:w'.heap[b]?=w.heap[b]?)(o:Nat):w'.cell? ⟨b,o,none⟩=w.cell? ⟨b,o,none⟩:=by
 simp only[World.cell?,h]
theorem pC{w w':World}{b:Nat}(h:w'.heap[b]?=w.heap[b]?)(o:Nat):w'.frozen? ⟨b,o,none⟩=w.frozen? ⟨b,o,none⟩:=by
 simp only[World.frozen?,h]
def isSl:Value→Bool
 |.slice ..=>true
 |_=>false
def slL:List Bool:=[false,false,false,false,false,false,false,false,false,false,false,false,false,false,false,false,false,false,true,true,true,false,false,true,false,false,true,false,true,true,false]
theorem cst_sl(s:CS):(cst s).toList.map isSl=slL:=rfl
theorem zJP{s:CS}{k:Nat}{v:Value}(h:(cst s)[k]?=some v):slL[k]?=some (isSl v):=by
 rw[←cst_sl s,jK,jY,h];rfl
theorem zKN(o:Nat):¬(slL[o]?=some true∧slL[o+1]?=some true∧slL[o+2]?=some true∧slL[o+3]?=some true):=by
 by_cases h:o<31
 ·have c:∀o:Fin 31,¬(slL[o.1]?=some true∧slL[o.1+1]?=some true∧slL[o.1+2]?=some true∧slL[o.1+3]?=some true):=zBH;exact c ⟨o,h⟩
 ·rw[qD (by simp[slL];omega)];simp
theorem Px4.not_st{N:Nat}{A:Option Addr}{gs:List Nat}{F:Nat→Nat→Bool}{w:World}(h:Px4 N A gs F w){g:Nat}{s:CS}(S:Blk g 43 (cst s) w):
  (∀ad,A=some ad→ad.block≠g)∧∀i,i<4→gs.getD i 0≠g:=by
 constructor
 ·intro ad e hb;obtain⟨b,o,hA,hlt,hc⟩:=h.row zRF;rw[hA]at e;cases e
  simp only at hb
  subst hb;have at_:∀j,j<4→slL[o+j]?=some true:=fun j hj=>by
   have h1:=hc j (by rw[h.len];exact hj);rw[S.cell]at h1;rw[zJP h1];rfl
  exact zKN o ⟨at_ 0 zBH,at_ 1 zBH,at_ 2 zBH,at_ 3 zBH⟩
 ·intro i hi e;have h1:=(h.px i hi).at_ 0 zBH;rw[e,S.cell,wJ s zBH]at h1;cases h1
theorem Px4.past{N:Nat}{A:Option Addr}{gs:List Nat}{F:Nat→Nat→Bool}{w w':World}(h:Px4 N A gs F w){g:Nat}{s:CS}(S:Blk g 43 (cst s) w)(hs:w.heap.size≤w'.heap.size)(hk:∀k,k≠g→w'.heap[k]?=w.heap[k]?):Px4 N A gs F w':=by
 obtain⟨ha,hp⟩:=h.not_st S;exact zDF
def MS(N:Nat)(s:CS)(F:Nat→Nat→Bool)(hit:Bool)(w:World)(e:Ending)(w':World):Prop:=
 ∃A' cap' gs',e=.returned (.agg (cst {s with G:=⟨A',4,cap'⟩,v:=Cpu.upd s.v 15 (if hit then 1 else 0)}))∧Px4 N A' gs' F w'∧Below w.heap.size w w'∧FA s.G.A A' w.heap.size
theorem MS.of{N:Nat}{s:CS}{F:Nat→Nat→Bool}{hit:Bool}{w:World}{e:Ending}{w':World}(h:∃A' cap' gs',e=.returned (.agg (cst {s with G:=⟨A',4,cap'⟩,v:=Cpu.upd s.v 15 (if hit then 1 else 0)}))∧Px4 N A' gs' F w'∧Below w.heap.size w w'∧FA s.G.A A' w.heap.size):MS N s F hit w e w':=h
theorem NJ(v:Nat→Nat)(k a b:Nat):Cpu.upd (Cpu.upd v k a) k b=Cpu.upd v k b:=by
 funext j
 unfold Cpu.upd;split<;>rfl
theorem zK1(G:Sl)(hi:Bool)(M:Int)(o:Nat):(rsC G hi M)[o+3]?=none:=zE (by simp[rsC])
theorem Px4.pastS{N:Nat}{A:Option Addr}{gs:List Nat}{F:Nat→Nat→Bool}{w:World}(h:Px4 N A gs F w){r:Nat}{G:Sl}{hi:Bool}{M:Int}(S:Blk r 41 (rsC G hi M) w)(cs:Array Value):Px4 N A gs F (w.setRow r cs):=by
 have ha:∀ad,A=some ad→ad.block≠r:=by
  intro ad e hb;obtain⟨b,o,hA,hlt,hc⟩:=h.row zRF;rw[hA]at e;cases e
  simp only at hb
  subst hb;have h1:=hc 3 (by rw[h.len];decide);rw[S.cell,zK1]at h1;cases h1
 have hp:∀i,i<4→gs.getD i 0≠r:=by
  intro i hi e;have h1:=(h.px i hi).at_ 0 zBH;rw[e,S.cell]at h1;cases h1
 refine⟨h.len,fun hne=>?_,fun i hi=>?_⟩
 ·obtain⟨b,o,hA,hlt,hc⟩:=h.row hne;have hb:=ha _ hA;exact⟨b,o,hA,by simpa [World.setRow]using hlt,fun j hj=>(rK (zA w r b cs hb) _).trans (hc j hj)⟩
 ·have P:=h.px i hi;have hb:=hp i hi;exact⟨by have:=P.lt;simpa [World.setRow]using this,fun j hj=>(rK (zA w r _ cs hb) _).trans (P.at_ j hj),fun j hj=>(pC (zA w r _ cs hb) _).trans (P.fz j hj)⟩
theorem DQ.away{w w1:World}{g:Nat}{s z:CS}{i:Ins}{q:Pr}(h:DQ w g s z i q w1){r:Nat}(h4:g+1+1+1<r)(cs:Array Value):DQ w g s z i q (w1.setRow r cs):=
 ⟨h.s.otherRow zBY _,h.i.otherRow zBY _,h.p.otherRow zBY _,h.o.otherRow zBY _,lU h.low (by have:=h.at_;omega) _,h.at_⟩
end
section
open Go.RowKit Num
theorem zX2(b:Bool):16≤wid b∧wid b≤128∧16≤hei b∧hei b≤64:=by cases b<;>decide
structure Rel(S:Sc)(F:Nat→Nat→Bool):Prop where
 pl:∀i,i<4→S.P i=fwd (F i)
 res:∀i,i<4→uD (F i) (wid S.hi) (hei S.hi)
theorem zJY:fwd (fun _=>false)=fun _=>0#128:=funext fun y=>eI fun x hx=>by rw[wP _ _ _ hx,tT]
theorem zL7{S:Sc}{F:Nat→Nat→Bool}(H:Rel S F)(M:Nat):Rel (wC (fun _ _ _=>0#128) M S) (fun i=>if onB M i then fun _=>false else F i):=by
 refine⟨fun i hi=>?_,fun i hi=>?_⟩
 ·show(if onB M i=true then _ else _)=_;split
  ·rw[zJY]
  ·exact H.pl i hi
 ·show uD (if onB M i=true then _ else _) _ _;split
  ·exact pE _ _
  ·exact H.res i hi
theorem JL{S:Sc}{F:Nat→Nat→Bool}(H:Rel S F)(M:Nat)(dx dy:Int):Rel (wC (fun _ p=>vK p dx dy (wid S.hi) (hei S.hi)) M S) (fun i=>if onB M i then rW (F i) dx dy (wid S.hi) (hei S.hi)else F i):=by
 refine⟨fun i hi=>?_,fun i hi=>?_⟩
 ·show(if onB M i=true then _ else _)=_;split
  ·rw[H.pl i hi];exact funext fun y=>(UX (F i) dx dy _ _ (zX2 S.hi).2.1 (H.res i hi) y).symm
  ·exact H.pl i hi
 ·show uD (if onB M i=true then _ else _) _ _;split
  ·exact zL2 _ _ _ _ _
  ·exact H.res i hi
section
variable (G:Nat→Nat) {S:Sc} {F:Nat→Nat→Bool} (M n:Nat) (big clip:Bool) (x y:Nat)
theorem zQS(k:Nat)(hk:k≤4):fwd (spK G M n big clip x y (wid S.hi) (hei S.hi) k)=spZ G S M n big clip x y (cK M k).length:=by
 unfold spK;rw[zNJ,LH M n big k hk,←ZV];rfl
theorem zL4(n1:n≤16)(k:Nat):uD (spK G M n big clip x y (wid S.hi) (hei S.hi) k) (wid S.hi) (hei S.hi):=by
 obtain⟨a,b,c,d⟩:=zX2 S.hi;have hr:=zLC (nth (QW G (if big then 16 else n) (if big then 2 else 1) (xJ M n big k))) (if big then 16 else n) ((if big then 2 else 1)*8) (x%wid S.hi) (y%hei S.hi) (wid S.hi) (hei S.hi) clip (by cases big<;>simp) a b (kC _ zBY) (by cases big<;>simp<;>omega) (kC _ zBY);intro t ht;have ht:px (spr _ _ _ _ _ _ _ _ (t/128)) (t%128)=true:=ht;constructor
 ·rcases kH (t%128) (wid S.hi)with h|h
  ·exact h
  ·have h2:=hr.1 (t/128) ((t%128:Nat):Int) zBY;rw[JM]at h2;rw[h2]at ht;cases ht
 ·rcases kH (t/128) (hei S.hi)with h|h
  ·exact h
  ·rw[hr.2 _ h,tT]at ht;cases ht
theorem zL6(H:Rel S F)(n1:n≤16):Rel (drZ G S M n big clip x y) (drK G F M n big clip x y (wid S.hi) (hei S.hi) 4):=by
 refine⟨fun i hi=>?_,fun i hi=>?_⟩
 ·rw[drZ_P];unfold drK;by_cases h:onB M i=true
  ·rw[zG h,zG ⟨hi,h⟩,←zQS G M n big clip x y i zBY,H.pl i hi];exact funext fun r=>(zJL _ _ r).symm
  ·rw[zL h,zL (fun q=>h q.2)];exact H.pl i hi
 ·rw[drZ_hi];unfold drK;split
  ·intro t ht;have h1:=H.res i hi t;have h2:=zL4 G (S:=S) M n big clip x y n1 i t;cases e:F i t
   ·simp only[e,Bool.false_xor]at ht;exact h2 ht
   ·exact h1 e
  ·exact H.res i hi
theorem zM9(H:Rel S F)(N:Nat)(hN:N=8192):coZ G S M n big clip x y=hiK G F M n big clip x y (wid S.hi) (hei S.hi) N 4:=by
 have e:∀k,k≤4→zYC G S M n big clip x y k=hiK G F M n big clip x y (wid S.hi) (hei S.hi) N k:=by
  intro k;induction k with
  |zero=>intro _;exact(zZI G S M n big clip x y).2
  |succ k ih=>
   intro hk
   rw[hiK,←ih zBY]
   by_cases h:onB M k=true
   ·rw[zG h]
    unfold zYC
    rw[yB M k zBY,zG h,jD,List.map_cons,List.map_nil,ZS,jQ,qB]
    congr 1
    show sG (S.P k) (spZ G S M n big clip x y (cK M k).length)=_
    rw[H.pl k zBY,←zQS G M n big clip x y k zBY]
    subst hN
    exact UQ _ _
   ·rw[zL h]
    unfold zYC
    rw[yB M k zBY,zL h,lK]
 exact e 4 (zH _)
end
end
end Go.Proofs.YtcjldabaekbdlaaGreatDoor
