/- CpuRC. -/
import Derived.Test.YtcjldabaekbdlaaGreatDoorMCpuRef12
set_option maxRecDepth 400000
set_option maxHeartbeats 64000000
set_option linter.unusedVariables false
set_option linter.unusedSimpArgs false
namespace Go.Proofs.YtcjldabaekbdlaaGreatDoor
section
open Go.RowKit Num Dec Cpu
def yR(b m g:Nat)(v:Value)(k:Nat):Prop:=k=b∨k=m∨k=g∨v.ownBlock=some k
def WU(base lg:Nat)(v:Value)(w:World):Prop:=∃n xs,w.ownsRow base 254 2 v n xs∧n≤lg∧(n=0→v.ownBlock=none)∧∀x∈xs,∃i,x=.int .i64 i
structure RC(base lg b m g:Nat)(v:Value)(a:AS)(w:World):Prop where
 st:Blk b 84 (stC a m g) w
 mem:vC m a.M v w
 log:WU base lg v w
 rnd:St base g a.L a.rd w
 res:∀i,i<4→uD (a.F i) (wid a.hi) (hei a.hi)
 bb:base≤b
 bm:base≤m
section
variable {base lg b m g:Nat} {v:Value} {a:AS} {w w':World}
theorem WU.below(h:WU base lg v w)(hb:Below w.heap.size w w'):WU base lg v w':=let⟨n,xs,o,r⟩:=h;⟨n,xs,nE o hb,r⟩
theorem WU.lt(h:WU base lg v w){k:Nat}(e:v.ownBlock=some k):base≤k∧k<w.heap.size:=let⟨n,xs,o,_⟩:=h;o.lt k e
theorem WU.first(h:WU base lg v w){k:Nat}(e:v.ownBlock=some k):∃i,w.cell? ⟨k,0,none⟩=some (.int .i64 i):=by
 obtain⟨n,xs,o,_,h0,hi⟩:=h;have hn:0<n:=by
  rcases Nat.eq_zero_or_pos n with c|c
  ·rw[h0 c]at e;cases e
  ·exact c
 have hl:xs.length=n*2:=o.1;have hx:xs[0]?=some (xs[0]' zBY):=zP zBY;obtain⟨i,hi⟩:=hi _ (lS (by omega:0<xs.length));exact⟨i,by rw[←hi];exact o.cells e 0 _ hx⟩
theorem RC.lt(h:RC base lg b m g v a w):∀k,yR b m g v k→base≤k∧k<w.heap.size:=by
 rintro k (rfl|rfl|rfl|e)
 ·exact⟨h.bb,h.st.lt⟩
 ·exact⟨h.bm,h.mem.lt⟩
 ·exact⟨h.rnd.low,h.rnd.lt⟩
 ·exact h.log.lt e
theorem RC.step(h:RC base lg b m g v a w)(hb:Below w.heap.size w w'):RC base lg b m g v a w':=
 ⟨h.st.step hb,(hb.block m h.mem.lt).trans h.mem,h.log.below hb,h.rnd.step hb,h.res,h.bb,h.bm⟩
theorem RC.tag(h:RC base lg b m g v a w):∀k,yR b m g v k→∃cs T fr,w.heap[k]?=some (.cells cs T fr)∧(T=84∨T=213∨T=236∨T=254):=by
 rintro k (rfl|rfl|rfl|e)
 ·exact⟨_,_,_,h.st,.inl rfl⟩
 ·exact⟨_,_,_,h.mem,.inr (.inl rfl)⟩
 ·obtain⟨A,c,hb,_⟩:=h.rnd.held;exact⟨_,_,_,hb,.inr (.inr (.inl rfl))⟩
 ·obtain⟨n,xs,o,_⟩:=h.log;rcases o.2 with⟨e1,_⟩|⟨g',cap,cur,e1,_,hh,_⟩
  ·rw[e1]at e;cases e
  ·rw[e1]at e;cases e
   exact⟨_,_,_,hh,.inr (.inr (.inr rfl))⟩
theorem RC.ne(h:RC base lg b m g v a w):b≠m∧b≠g∧m≠g∧v.ownBlock≠some b∧v.ownBlock≠some m∧v.ownBlock≠some g:=by
 have hS:w.heap[b]?=some (.cells (stC a m g) 84 (0,0)):=h.st;have hM:w.heap[m]?=some (.cells (cells a.M v) 213 (0,0)):=h.mem;obtain⟨A,c,hG,_⟩:=h.rnd.held;have hG:w.heap[g]?=some (.cells _ 236 (0,0)):=hG;have hL:∀k,v.ownBlock=some k→∃cur,w.heap[k]?=some (.cells cur 254 (0,0)):=fun k e=>by
  obtain⟨n,xs,o,_⟩:=h.log;rcases o.2 with⟨e1,_⟩|⟨g',cap,cur,e1,_,hh,_⟩
  ·rw[e1]at e;cases e
  ·rw[e1]at e;cases e
   exact⟨cur,hh⟩
 refine⟨?_,?_,?_,?_,?_,?_⟩
 ·rintro rfl;rw[hM]at hS;injection hS with hS;injection hS with _ e;cases e
 ·rintro rfl;rw[hG]at hS;injection hS with hS;injection hS with _ e;cases e
 ·rintro rfl;rw[hG]at hM;injection hM with hM;injection hM with _ e;cases e
 ·intro e;obtain⟨cur,hh⟩:=hL _ e;rw[hS]at hh;injection hh with hh;injection hh with _ e;cases e
 ·intro e;obtain⟨cur,hh⟩:=hL _ e;rw[hM]at hh;injection hh with hh;injection hh with _ e;cases e
 ·intro e;obtain⟨cur,hh⟩:=hL _ e;rw[hG]at hh;injection hh with hh;injection hh with _ e;cases e
theorem RC.row_off(h:RC base lg b m g v a w){bs n size:Nat}{e:TypeId}{u:Value}{xs:List Value}(o:w.ownsRow bs e size u n xs)(he:e≠84∧e≠213∧e≠236∧e≠254):∀k,u.ownBlock=some k→¬yR b m g v k:=fun k ek c=>by
 obtain⟨cs,T,fr,hh,hT⟩:=h.tag k c;rcases o.2 with⟨e1,_⟩|⟨g',cap,cur,e1,_,h2,_⟩
 ·rw[e1]at ek;cases ek
 ·rw[e1]at ek;cases ek
  rw[hh]at h2
  injection h2 with h2
  injection h2 with _ e3
  subst e3;rcases hT with e4|e4|e4|e4
  ·exact he.1 e4
  ·exact he.2.1 e4
  ·exact he.2.2.1 e4
  ·exact he.2.2.2 e4
theorem RC.other{base2 lg2 b2 m2 g2:Nat}{v2:Value}{a2:AS}(h:RC base lg b m g v a w)(h2:RC base2 lg2 b2 m2 g2 v2 a2 w)(k:xN (yR b m g v) w w')(hd:∀j,yR b2 m2 g2 v2 j→¬yR b m g v j):RC base2 lg2 b2 m2 g2 v2 a2 w':=by
 have blk:∀j,yR b2 m2 g2 v2 j→w'.heap[j]?=w.heap[j]?:=fun j hj=>k.block j (h2.lt j hj).2 (hd j hj);refine⟨(blk b2 (.inl rfl)).trans h2.st,(blk m2 (.inr (.inl rfl))).trans h2.mem,?_,?_,h2.res,h2.bb,h2.bm⟩
 ·obtain⟨n,xs,o,r⟩:=h2.log;exact⟨n,xs,tA o k fun j ej=>hd j (.inr (.inr (.inr ej))),r⟩
 ·obtain⟨A,c,hb,o⟩:=h2.rnd.held;exact⟨h2.rnd.low,A,c,(blk g2 (.inr (.inr (.inl rfl)))).trans hb,tA o k (h.row_off o ⟨by decide,by decide,by decide,by decide⟩)⟩
end
def iL(O:Nat→Prop)(s:Sl):Prop:=∀ad,s.A=some ad→0<s.n→¬O ad.block
structure sE(O:Nat→Prop)(z:Sls):Prop where
 sk:iL O z.sk
 M:iL O z.M
 G:iL O z.G
 K:iL O z.K
 P:iL O z.P
 fl:iL O z.fl
 L:iL O z.L
theorem sE.fr{O:Nat→Prop}{w:World}{z z':Sls}(h:sE O z)(f:Fr w z z')(ho:∀k,O k→k<w.heap.size)(hG:z.G.n=z'.G.n):sE O z':=by
 have new:∀s:Sl,FrS w s→iL O s:=fun s fs ad e _ c=>by have h1:=fs ad e;have h2:=ho _ c;omega
 refine⟨?_,f.M.elim (fun e=>e▸h.M) (new _),?_,f.K▸h.K,f.P.elim (fun e=>e▸h.P) (new _),f.fl.elim (fun e=>e▸h.fl) (new _),f.L▸h.L⟩
 ·rcases f.sk with⟨e,hn⟩|f
  ·intro ad ea hp;rw[e]at ea;exact h.sk ad ea zBY
  ·exact new _ f
 ·rcases f.G with e|f
  ·intro ad ea hp;rw[e]at ea;exact h.G ad ea zBY
  ·intro ad ea _ c;have h1:=f ad ea;have h2:=ho _ c;omega
section
variable {N base lg b m g:Nat} {v:Value} {a a2:AS} {w w':World} {z:Sls}
theorem RC.no_px(h:RC base lg b m g v a w){p:Nat}{f:Nat→Bool}(hp:Pxs p f w):¬yR b m g v p:=fun c=>by
 have h0:=hp.at_ 0 zBH;rcases c with rfl|rfl|rfl|e
 ·rw[h.st.cell,nJ _ _ _ zBY,dY _ _ _ zBY]at h0;cases h0
 ·have h1:w.cell? ⟨p,0,none⟩=(cells a.M v)[0]?:=j4 w p 0 _ _ _ h.mem;rw[h1]at h0;unfold cells at h0;obtain⟨M,hM⟩:∃M,a.M=M:=⟨_,rfl⟩;rw[hM]at h0;rcases M with _|⟨x,t⟩
  ·have h0:some v=some (Value.bool (f 0)):=h0;obtain⟨n,xs,o,_⟩:=h.log;rcases o.2 with⟨e1,_⟩|⟨g',cap,cur,e1,_⟩<;>(rw[e1]at h0;cases h0)
  ·have h0:some (Value.int .u8 x)=some (Value.bool (f 0)):=h0;cases h0
 ·obtain⟨A,c,hb,_⟩:=h.rnd.held;rw[hb.cell]at h0;cases h0
 ·obtain⟨i,hi⟩:=h.log.first e;rw[hi]at h0;cases h0
theorem d8{O:Nat→Prop}{A:Option Addr}{n:Nat}{L:List Int}(h:Rd w A L)(hl:L.length=n)(k:xN O w w')(ho:∀ad,A=some ad→0<n→¬O ad.block):Rd w' A L:=fun hne=>by
 obtain⟨ad,e,hb,hc⟩:=h hne;have hn:=ho ad e (by have:=List.length_pos_iff.2 hne;omega);exact⟨ad,e,zS hb k.size,fun j hj=>(qM (by rw[cP];exact k.block _ hb hn)).trans (hc j hj)⟩
theorem RC.ref(h:RC base lg b m g v a w)(R:RS N w z a2)(f:sE (yR b m g v) z)(k:xN (yR b m g v) w w'):RS N w' z a2:=by
 refine⟨?_,?_,?_,?_,⟨d8 R.P.1 R.P.2 k f.P,R.P.2⟩,⟨R.fl.1,d8 R.fl.2 zTN k f.fl⟩,⟨d8 R.L.1 R.L.2 k f.L,R.L.2⟩⟩
 ·exact zDA
 ·exact zFW
 ·obtain⟨A,cap,gs,e,p⟩:=R.G;refine⟨A,cap,gs,e,p.len,fun hne=>?_,fun i hi=>?_⟩
  ·exact zFV
  ·have P:=p.px i hi;have hk:=k.block _ P.lt (h.no_px P);exact zFC
 ·exact zD3
theorem sE.grown{v':Value}(f:sE (yR b m g v) z)(R:RS N w z a2)(hv:v'.ownBlock=v.ownBlock∨∃k,v'.ownBlock=some k∧w.heap.size≤k):sE (yR b m g v') z:=by
 have key:∀s:Sl,iL (yR b m g v) s→(∀ad,s.A=some ad→0<s.n→ad.block<w.heap.size)→iL (yR b m g v') s:=fun s h1 h2 ad e hp c=>by
  rcases c with c|c|c|c
  ·exact h1 ad e hp (.inl c)
  ·exact h1 ad e hp (.inr (.inl c))
  ·exact h1 ad e hp (.inr (.inr (.inl c)))
  ·rcases hv with e1|⟨k,e1,hk⟩
   ·exact h1 ad e hp (.inr (.inr (.inr (e1▸c))))
   ·rw[e1]at c;cases c
    have:=h2 ad e hp
    omega
 have rdl:∀(A:Option Addr) (L:List Int) (n:Nat),Rd w A L→L.length=n→∀ad,A=some ad→0<n→ad.block<w.heap.size:=fun A L n h hl ad e hp=>by
  obtain⟨ad2,e2,hb,_⟩:=h (by intro c;rw[c]at hl;simp at hl;omega);rw[e]at e2;cases e2
  exact hb
 refine⟨key _ f.sk ?_,key _ f.M ?_,key _ f.G ?_,key _ f.K ?_,key _ f.P (rdl _ _ _ R.P.1 R.P.2),key _ f.fl (rdl _ _ _ R.fl.2 zTN),key _ f.L (rdl _ _ _ R.L.1 R.L.2)⟩
 ·exact zFR
 ·intro ad e _;obtain⟨ad2,c,e2,r⟩:=R.M;rw[e2]at e;cases e
  exact r.1
 ·exact zFZ
 ·exact zF2
end
structure gS(N:Nat):Prop where
 new_:∀(A:Option Addr) (n c:Nat) (R:List Int) (B:Option Addr) (k d:Nat) (L:List Int) (w:World),uO w→Rd w A R→R.length=n→n≤65024→Rd w B L→L.length=k→k≤100000→
  Calls Tryz.prog 47 #[.slice A n c,.slice B k d] w fun e w'=>∃b m g v,e=.returned (.tuple #[.pointer (some ⟨b,0,none⟩),.int .i64 0])∧RC w.heap.size 0 b m g v (uK R L) w'∧Below w.heap.size w w'
 long:∀(A:Option Addr) (n c:Nat) (B:Option Addr) (k d:Nat) (L:List Int) (w:World),uO w→65024<n→n≤1000000→Rd w B L→L.length=k→k≤100000→
  Calls Tryz.prog 47 #[.slice A n c,.slice B k d] w fun e w'=>e=.returned (.tuple #[.pointer none,.int .i64 7])∧Below w.heap.size w w'
 exec:∀(base lg b m g:Nat) (v:Value) (a:AS) (op:Int) (x y n nn:Nat) (addr len:Int) (q:Pr) (w:World),uO w→RC base lg b m g v a w→OkB a→lg≤900→bC ⟨op,x,y,n,nn,addr,len⟩ q.lv→(0≤op∧op≤51)→x<16→y<16→n<16→nn<256→(0≤addr∧addr≤65535)→(0≤len∧len≤4)→(1≤q.lv∧q.lv≤3)→base≤w.heap.size→
  Calls Tryz.prog 20 #[.pointer (some ⟨b,0,none⟩),.agg (lI ⟨op,x,y,n,nn,addr,len⟩),.agg (prc q)] w fun e w'=>e=.returned (.agg (efc (efA a op x y n q)))∧
   ∃v',RC base (lg+16) b m g v' (stA N a op x y n nn addr len q) w'∧xN (yR b m g v) w w'∧(v'.ownBlock=v.ownBlock∨∃k,v'.ownBlock=some k∧w.heap.size≤k)
 none_:∀w:World,Calls Tryz.prog 25 #[.pointer none] w fun e w'=>e=.returned (.pointer none)∧Below w.heap.size w w'
 clone:∀(base lg b m g:Nat) (v:Value) (a:AS) (w:World),uO w→RC base lg b m g v a w→OkB a→
  Calls Tryz.prog 25 #[.pointer (some ⟨b,0,none⟩)] w fun e w'=>∃b2 m2 g2 v2,e=.returned (.pointer (some ⟨b2,0,none⟩))∧RC w.heap.size 0 b2 m2 g2 v2 a w'∧Below w.heap.size w w'
theorem fJ:xX Tryz.prog 51 4:=⟨⟨_,Tryz.underlying51,rfl⟩,by kernel_rfl⟩
theorem gH:cY Tryz.prog 51 (efc ⟨0,false,false,false⟩):=by unfold cY;kernel_rfl
end
end Go.Proofs.YtcjldabaekbdlaaGreatDoor
