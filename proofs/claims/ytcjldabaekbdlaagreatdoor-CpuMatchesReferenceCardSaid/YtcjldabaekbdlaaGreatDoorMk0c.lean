/- PlaneBox, Fork, Words16, Round, ScrFill, ScrWith, FlaBox, AppRd, FlaRef, KeyNum, KeyBox, KeyRef, RanNum, Ran, RanMake, KeyApply, KeyAll, StkBox, AudBox, CalmBlk, Stk, Right, Addr, AddrRef. -/
import Derived.Test.YtcjldabaekbdlaaGreatDoorProg
import Derived.Test.YtcjldabaekbdlaaGreatDoorRows
import Derived.Test.YtcjldabaekbdlaaGreatDoorMk0b
set_option maxRecDepth 400000
set_option maxHeartbeats 64000000
set_option linter.unusedVariables false
set_option linter.unusedSimpArgs false
namespace Go.Proofs.YtcjldabaekbdlaaGreatDoor
section
open Go.RowKit Num
def wG(P:Pl)(j:Nat):Int:=if j%2=0 then((hi (P (j/2))).toNat:Int)else((lo (P (j/2))).toNat:Int)
def mQ(P:Pl):Array Value:=((List.range 128).map fun j=>Value.int .u64 (wG P j)).toArray
theorem mY(P:Pl):(mQ P).size=128:=by simp[mQ]
theorem uH(P:Pl)(j:Nat)(hj:j<128):(mQ P)[j]?=some (.int .u64 (wG P j)):=by simp[mQ,hj]
theorem oC(P:Pl)(y:Nat):wG P (2*y)=((hi (P y)).toNat:Int):=by
 rw[wG,zG zBY,show 2*y/2=y by omega]
theorem JC(P:Pl)(y:Nat):wG P (2*y+1)=((lo (P y)).toNat:Int):=by
 rw[wG,zL zBY,show(2*y+1)/2=y by omega]
theorem VR{P Q:Pl}(h:∀y,y<64→P y=Q y):mQ P=mQ Q:=by
 unfold mQ;congr 1
 refine List.map_congr_left fun j hj=>?_
 have hj:=j8.1 hj;unfold wG;rw[h (j/2) zBY]
theorem xD(P:Pl):(mQ P).all (·.oneCell')=true:=by
 rw[jV];intro v hv;simp[mQ]at hv;obtain⟨j,_,rfl⟩:=hv;rfl
def W0(P:Pl)(y:Nat)(r:BitVec 128):Pl:=fun j=>if j=y then r else P j
theorem bJ(P:Pl)(y:Nat)(r:BitVec 128):W0 P y r y=r:=by simp[W0]
theorem gP(P:Pl)(y j:Nat)(r:BitVec 128)(h:j≠y):W0 P y r j=P j:=by simp[W0,h]
theorem IF(P:Pl)(y:Nat)(h l:BitVec 64)(hy:y<64):((mQ P).setIfInBounds (2*y) (.int .u64 (h.toNat:Int))).setIfInBounds (2*y+1) (.int .u64 (l.toNat:Int))=mQ (W0 P y (h++l)):=by
 apply qH
 intro j
 by_cases hj:j<128
 ·rw[uH _ _ hj,jJ,jJ];by_cases e1:2*y+1=j
  ·subst e1;rw[zG rfl,zG (by simp[mY];omega),JC,bJ,tL]
  ·rw[zL e1];by_cases e0:2*y=j
   ·subst e0;rw[zG rfl,zG (by simp[mY];omega),oC,bJ,tM]
   ·rw[zL e0,uH _ _ hj];unfold wG;rw[gP _ _ _ _ zBY]
 ·rw[zE (by simp[mY];omega),zE (by simp[mY];omega)]
def vJ(b:Nat)(t:TypeId)(P:Pl)(w:World):Prop:=w.heap[b]?=some (.cells (mQ P) t (0,0))
section
variable {b:Nat} {t:TypeId} {P Q:Pl} {w w':World}
theorem vJ.lt(H:vJ b t P w):b<w.heap.size:=(jZ.1 H).1
theorem vJ.below(H:vJ b t P w){n:Nat}(hb:Below n w w')(hn:b<n):vJ b t P w':=(hb.block b hn).trans H
theorem vJ.step(H:vJ b t P w)(hb:Below w.heap.size w w'):vJ b t P w':=H.below hb H.lt
theorem vJ.new(w:World)(P:Pl)(t:TypeId):vJ w.heap.size t P (w.alloc (.cells (mQ P) t)):=jN _ _
theorem vJ.alloc(H:vJ b t P w)(o:Obj):vJ b t P (w.alloc o):=H.step ((zB _ _).alloc (zH _) _)
theorem vJ.drew(H:vJ b t P w):vJ b t P w.drew:=H
theorem vJ.congr(H:vJ b t P w)(h:∀y,y<64→P y=Q y):vJ b t Q w:=by
 unfold vJ at*;rw[←VR h];exact H
theorem vJ.other(H:vJ b t P w){g:Nat}(hg:b≠g)(o:Nat)(v:Value):vJ b t P (w.setCell ⟨g,o,none⟩ v):=(qQ w ⟨g,o,none⟩ v b hg).trans H
theorem vJ.otherRow(H:vJ b t P w){g:Nat}(hg:b≠g)(cs:Array Value):vJ b t P (w.setRow g cs):=(zA w g b cs hg).trans H
theorem vJ.cell(H:vJ b t P w)(j:Nat)(hj:j<128):w.cell? ⟨b,j,none⟩=some (.int .u64 (wG P j)):=by
 rw[j4 w b j (mQ P) t (0,0) H];exact uH P j hj
theorem vJ.left(H:vJ b t P w)(y:Nat)(hy:y<64):w.cell? ⟨b,y*2,none⟩=some (.int .u64 ((hi (P y)).toNat:Int)):=by
 rw[Nat.mul_comm y 2,H.cell _ zBY,oC]
theorem vJ.right(H:vJ b t P w)(y:Nat)(hy:y<64):w.cell? ⟨b,y*2+1,none⟩=some (.int .u64 ((lo (P y)).toNat:Int)):=by
 rw[Nat.mul_comm y 2,H.cell _ zBY,JC]
theorem vJ.frozen(H:vJ b t P w)(j:Nat):w.frozen? ⟨b,j,none⟩=false:=frozen_of_row w b j (mQ P) t H
theorem vJ.store(H:vJ b t P w)(Q:Pl):vJ b t Q (w.setRow b (mQ Q)):=setRow_heap w b _ _ t (0,0) H
theorem vJ.row(H:vJ b t P w)(y:Nat)(hy:y<64)(h l:BitVec 64):vJ b t (W0 P y (h++l)) ((w.setCell ⟨b,y*2,none⟩ (.int .u64 (h.toNat:Int))).setCell ⟨b,y*2+1,none⟩ (.int .u64 (l.toNat:Int))):=by
 rw[Nat.mul_comm y 2];have e1:=setCell_eq_setRow w b (2*y) (mQ P) t (0,0) (.int .u64 (h.toNat:Int)) H;have H1:(w.setRow b ((mQ P).setIfInBounds (2*y) (.int .u64 (h.toNat:Int)))).heap[b]?=_:=setRow_heap w b _ _ t (0,0) H;have e2:=setCell_eq_setRow _ b (2*y+1) _ t (0,0) (.int .u64 (l.toNat:Int)) H1;rw[e1,e2,IF P y h l hy];exact setRow_heap _ b _ _ t (0,0) H1
end
theorem yW{B:Nat}{a w:World}(h:Below B a w){g:Nat}(hg:B≤g)(cs:Array Value):Below B a (w.setRow g cs):=
 h.trans ⟨rfl,rfl,rfl,by simp[World.setRow],fun k hk=>zA w g k cs zBY⟩
section
variable {P:Program}
theorem eC(t:TypeId)(d:TypeDesc)(xs:Array Value)(off sz:Nat)(w:World)(hd:(match d with| .struct _| .array _ _=>true|_=>false)=true)(hu:P.underlying t=some d)(hi:(P.info? t).map (·.size)=some sz):
  (part t xs off).run P w=.ok (.agg (xs.extract off (off+sz))) w:=by
 cases hq:P.info? t with
 |none=>simp[hq]at hi
 |some i=>
  have hs:i.size=sz:=zRI
  have hagg:(isAgg t).run P w=.ok true w:=by
   unfold isAgg;rw[qW,kL hu w];cases d<;>simp_all
  simp[part,qW,hagg,sizeOf,typeInfo,hq,hs]
end
end
section
open Go.RowKit
inductive JK where
 |last (is:List Nat)
 |call (is:List Nat) (c:Nat) (t:JK)
 |fork (is:List Nat) (c1:Nat) (t1:JK) (c2:Nat) (t2:JK)
section
variable {P:Program} {ops:Array Oper} {C:World→Prop} {Q:Exit→Act→World→Prop} {md:Region.Mode}
def cO(P:Program)(ops:Array Oper)(C:World→Prop)(Q:Exit→Act→World→Prop)(c:Nat)(F:Act→World→Prop)(a:Act)(w:World):Prop:=
 match ops[c]? with
 |none=>False
 |some o=>if Region.wanted o (yielded ops a.tmps)then o.wp P a w (fun a'' w''=>C w''∧F a'' w'') Q else F (a.put o.dst undef) w
def xH(P:Program)(ops:Array Oper)(C:World→Prop)(Q:Exit→Act→World→Prop):JK→Act→World→Prop
 |.last is,a,w=>wpQuiet P ops C (fun a'=>Q .normal a' w) (lA ops is) a
 |.call is c t,a,w=>wpQuiet P ops C (fun a'=>cO P ops C Q c (fun a w=>xH P ops C Q t a w) a' w) (lA ops is) a
 |.fork is c1 t1 c2 t2,a,w=>wpQuiet P ops C (fun a'=>cO P ops C Q c1 (fun a w=>xH P ops C Q t1 a w) a' w∧cO P ops C Q c2 (fun a w=>xH P ops C Q t2 a w) a' w) (lA ops is) a
def QT(md:Region.Mode)(ops:Array Oper):JK→Array Bool→Bool
 |.last is,listed=>MI md ops is listed&&(Region.ready md ops (vB listed is)).isEmpty
 |.call is c t,listed=>MI md ops is listed&&decide (Region.ready md ops (vB listed is)=[c])&&QT md ops t ((vB listed is).setIfInBounds c true)
 |.fork is c1 t1 c2 t2,listed=>MI md ops is listed&&decide (Region.ready md ops (vB listed is)=[c1,c2])&&QT md ops t1 ((vB listed is).setIfInBounds c1 true)&&QT md ops t2 ((vB listed is).setIfInBounds c2 true)
def sX:JK→Nat
 |.last is=>is.length
 |.call is _ t=>sX t+1+is.length
 |.fork is _ t1 _ _=>sX t1+1+is.length
def XC:JK→Bool
 |.last _=>true
 |.call _ _ t=>XC t
 |.fork _ _ t1 _ t2=>XC t1&&XC t2&&decide (sX t1=sX t2)
theorem d9{K K':Act→Prop}(hK:∀a,K a→K' a):∀(l:List Oper) (a:Act),wpQuiet P ops C K l a→wpQuiet P ops C K' l a:=by
 exact zDO
theorem JH{c:Nat}{F G:Act→World→Prop}{a:Act}{w:World}(hC:C w)(h:cO P ops C Q c F a w)(hF:∀a w,C w→F a w→G a w):wpOp P ops Q c (fun a' w'=>C w'∧G a' w') a w:=by
 unfold cO at h;unfold wpOp;cases ho:ops[c]? with
 |none=>rw[ho]at h;exact h.elim
 |some o=>
  rw[ho]at h
  simp only at h⊢
  split
  ·rename_i hw
   simp only[hw,if_true]at h
   exact .inl (Oper.wp_mono (fun a'' w'' ⟨h1,h2⟩=>⟨h1,hF _ _ h1 h2⟩) h)
  ·rename_i hw
   simp only[hw]at h
   exact⟨hC,hF _ _ hC h⟩
theorem aM(hs:Region.noSelect ops=true)(hQ:∀(c:_) (a:Act) (d:Option Tmp) (v:Value) (w:World),Q (.panic c) (a.put d v) w→Q (.panic c) a w)(k:Nat):∀(t:JK) (listed:Array Bool) (a:Act) (w:World),C w→
  XC t=true→QT md ops t listed=true→xH P ops C Q t a w→wpAnyH P md ops Q C (k+sX t) listed a w
 |.last is,listed,a,w,hC,_,hB,h=>by
  simp only[QT,qK]at hB;have hr:Region.ready md ops (vB listed is)=[]:=by simpa using hB.2
  refine t6 hs hQ k hC is listed a hB.1 ?_;simp only[xH]at h;exact d9 (fun a h=>wpAnyH_done hr h k) _ _ h
 |.call is c t,listed,a,w,hC,he,hB,h=>by
  simp only[QT,qK]at hB;obtain⟨⟨hB1,hB2⟩,hB3⟩:=hB;have hr:Region.ready md ops (vB listed is)=[c]:=by simpa using hB2
  simp only[sX];rw[←qS];refine t6 hs hQ _ hC is listed a hB1 ?_;simp only[xH]at h;refine d9 (fun a' ha=>?_) _ _ h;rw[←qS];refine wpAnyH_all hr zBT fun i hi=>?_;obtain rfl:i=c:=by simpa using hi
  exact JH hC ha fun a'' w'' h1 h2=>aM hs hQ k t _ a'' w'' h1 he hB3 h2
 |.fork is c1 t1 c2 t2,listed,a,w,hC,he,hB,h=>by
  simp only[QT,qK]at hB;obtain⟨⟨⟨hB1,hB2⟩,hB3⟩,hB4⟩:=hB;have hr:Region.ready md ops (vB listed is)=[c1,c2]:=by simpa using hB2
  simp only[XC,qK,jG]at he;obtain⟨⟨e1,e2⟩,e3⟩:=he;simp only[sX];rw[←qS];refine t6 hs hQ _ hC is listed a hB1 ?_;simp only[xH]at h;refine d9 (fun a' ha=>?_) _ _ h;rw[←qS];refine wpAnyH_all hr zBT fun i hi=>?_;rcases(by simpa using hi:i=c1∨i=c2)with rfl|rfl
  ·exact JH hC ha.1 fun a'' w'' h1 h2=>aM hs hQ k t1 _ a'' w'' h1 e1 hB3 h2
  ·refine JH hC ha.2 fun a'' w'' h1 h2=>?_;rw[e3];exact aM hs hQ k t2 _ a'' w'' h1 e2 hB4 h2
theorem uV{id:Nat}{a:Act}{w:World}{l:List Oper}(t:JK)(hm:P.follows .mixedOrders=true)
  (hB:(Region.noSelect l.toArray&&QT .any l.toArray t (Array.replicate l.toArray.size false)&&XC t&&decide (sX t≤l.toArray.size))=true)
  (hQ:∀(c:_) (a:Act) (d:Option Tmp) (v:Value) (w:World),Q (.panic c) (a.put d v) w→Q (.panic c) a w) (hC:C w.drew)
  (h:∀wd,wd=w.drew→xH P l.toArray C Q t a wd):(Code.region id l.toArray true).wp P Q a w:=by
 simp only[qK,jG]at hB;obtain⟨⟨⟨hs,hb⟩,he⟩,hle⟩:=hB;refine wp_region_held (S:=C) hm ?_;have:=aM (md:=.any) hs hQ (l.toArray.size-sX t) t (Array.replicate l.toArray.size false) a w.drew hC he hb (h _ rfl);rwa [Nat.sub_add_cancel hle]at this
theorem tN{is:List Nat}{l:List Oper}{a:Act}{w:World}(hl:lA ops is=l)(h:wpQuiet P ops C (fun a'=>Q .normal a' w) l a):xH P ops C Q (.last is) a w:=by
 subst hl;exact h
theorem uG{is:List Nat}{c:Nat}{t:JK}{l:List Oper}{a:Act}{w:World}(hl:lA ops is=l)(h:wpQuiet P ops C (cO P ops C Q c (fun a w=>xH P ops C Q t a w) · w) l a):xH P ops C Q (.call is c t) a w:=by
 subst hl;exact h
theorem bG{is:List Nat}{c1 c2:Nat}{t1 t2:JK}{l:List Oper}{a:Act}{w:World}(hl:lA ops is=l)
  (h:wpQuiet P ops C (fun a=>cO P ops C Q c1 (fun a w=>xH P ops C Q t1 a w) a w∧cO P ops C Q c2 (fun a w=>xH P ops C Q t2 a w) a w) l a):xH P ops C Q (.fork is c1 t1 c2 t2) a w:=by
 subst hl;exact h
theorem nO{c:Nat}{t:JK}{o:Oper}{a:Act}{w:World}(ho:ops[c]?=some o)(hw:Region.wanted o (yielded ops a.tmps)=true)(h:∀K:Act→World→Prop,(∀a w,C w→xH P ops C Q t a w→K a w)→o.wp P a w K Q):cO P ops C Q c (fun a w=>xH P ops C Q t a w) a w:=by
 unfold cO;rw[ho];simp only[hw,if_true];exact h _ fun a w hc h=>⟨hc,h⟩
end
end
section
open Go.RowKit Go.ChangeShapes Go.WideShapes Num
def gK(w:World)(A:Option Addr)(L:List Nat):Prop:=L≠[]→∃ad,A=some ad∧ad.block<w.heap.size∧∀j (h:j<L.length),w.cell? (ad.add j)=some (.int .u16 (L[j]:Int))
theorem gQ(a:Addr)(n:Nat):(a.add n).block=a.block:=by unfold Addr.add;split<;>rfl
section
variable {w w':World} {A:Option Addr} {L:List Nat}
theorem gK.nil:gK w A []:=fun h=>absurd rfl h
theorem gK.at_(h:gK w A L){k:Nat}(hk:k<L.length):∃ad,A=some ad∧ad.block<w.heap.size∧w.cell? (ad.add k)=some (.int .u16 (L.getD k 0:Int)):=by
 obtain⟨ad,hA,hb,hc⟩:=h zTJ;exact⟨ad,hA,hb,by rw[hc k hk];simp[hk]⟩
theorem gK.below(h:gK w A L)(hb:Below w.heap.size w w'):gK w' A L:=fun hne=>by
 obtain⟨ad,hA,hlt,hc⟩:=h hne;exact⟨ad,hA,zS hlt hb.size,fun j hj=>(hb.cell (p:=ad.add j) (by rw[gQ];exact hlt)).trans (hc j hj)⟩
end
def nth(L:List Nat)(i:Nat):Nat:=L.getD i 0
theorem zV1{L:List Nat}(h:∀x∈L,x≤65535)(i:Nat):nth L i≤65535:=by
 unfold nth;rw[qJ];rcases kH i L.length with hi|hi
 ·rw[zP hi];exact h _ (lS hi)
 ·rw[qD hi];simp
section
variable {H:Type} {enc:TypeId×Value→H} {W:World} {r:Reach} {base:Nat}
end
end
section
open Go.RowKit
def zQB(ops:Array Oper):Bool:=ops.toList.all fun o=>match o.op with| .defer _=>false|_=>true
section
variable {P:Program} {ops:Array Oper} {C:World→Prop} {Q:Exit→Act→World→Prop} {l:Nat} {n:Nat}
theorem zVE{o:Oper}{a:Act}{w:World}{K K':Act→World→Prop}(hd:∀c,o.op≠ .defer c)(hK:∀a w,K a w→K' a w)(hQ:¬LetsOut Q)(h:o.wp P a w K Q):o.wpIn (Fence.wide.inRound l) n P a w K' Q:=by
 unfold Oper.wp at h;unfold Oper.wpIn;refine⟨fun _ _=>trivial,?_⟩;rw[Oper.semAt_eq _ _ _ hd];generalize (execOp a.eval o).run P w=r at*;cases r with
 |ok x w'=>
  cases x<;>simp only[Oper.upon,Oper.uponIn]at h⊢
  case value v=>exact hK _ _ h
  case skip=>exact hK _ _ h
  case defer d=>exact hK _ _ h
  case enter f args=>
   refine⟨fun hs=>by simp[Fence.wide]at hs,?_⟩
   refine CallsIn.inRound l (callsIn_wide.2 (h.mono ?_))
   intro e w'' he
   cases e with
   |returned v=>exact hK _ _ he
   |panicked c=>exact he
   |outgrown=>exact he
  case row row args=>
   refine⟨fun hs=>by simp[Fence.wide]at hs,fun c cs _=>?_⟩
   obtain⟨v,w'',hr,hs⟩:=h c cs
   exact⟨v,w'',hK _ _ hr,stepsIn_wide.2 hs⟩
 |halt x w'=>cases x<;>simp only[Oper.upon,Oper.uponIn]at h⊢;exact h
theorem fD(hd:zQB ops=true)(hQ:¬LetsOut Q):∀(is:List Nat) (a:Act) (w:World),wpOps P ops Q is a w→wpOpsIn (Fence.wide.inRound l) n P ops Q is a w
 |[],a,w,h=>h
 |i::is,a,w,h=>by
  simp only[wpOps]at h;simp only[wpOpsIn];cases ho:ops[i]? with
  |none=>rw[ho]at h;exact fD hd hQ is a w h
  |some o=>
   rw[ho]at h
   have hnd:∀c,o.op≠ .defer c:=by
    intro c hc;have hm:o∈ops.toList:=by
     rw[Array.mem_toList_iff];exact lM ho
    have:=(jA.1 hd) o hm;rw[hc]at this;cases this
   simp only at h⊢
   by_cases hw:Region.wanted o (yielded ops a.tmps)=true
   ·rw[zG hw]at h⊢
    rcases h with h|⟨_,h⟩
    ·exact zVE hnd (fun a w h=>fD hd hQ is a w h) hQ h
    ·exact absurd h hQ
   ·rw[zL hw]at h⊢
    exact⟨fun _ _=>trivial,fD hd hQ is _ w h⟩
theorem oE{id:Nat}{a:Act}{w:World}{ls:List Oper}(c0:Nat)(bs:List (List Nat×Nat×Bool))(is0 last:List Nat)(hm:P.follows .mixedOrders=true)
  (hB:(Region.noSelect ls.toArray&&QS .any ls.toArray c0 bs is0 last (Array.replicate ls.toArray.size false)&&decide (gT bs is0 last≤ls.toArray.size)&&zQB ls.toArray)=true)
  (hQ:∀(c:_) (a:Act) (d:Option Tmp) (v:Value) (w:World),Q (.panic c) (a.put d v) w→Q (.panic c) a w) (hO:∀a w,¬Q .outgrown a w) (hC:∀w w',C w→Gr w w'→C w') (hw:C w.drew)
  (h:∀wd,wd=w.drew→uY P ls.toArray C Q c0 bs is0 last a wd):(Code.region id ls.toArray true).wpIn (Fence.wide.inRound l) n P Q a w:=by
 simp only[qK,jG]at hB;obtain⟨⟨⟨hs,hb⟩,hle⟩,hd⟩:=hB;refine wpIn_region_draw fun t=>?_;refine fD hd (fun⟨a,w,h⟩=>hO a w h) _ _ _ ?_;simp only[Region.schedule,hm,Bool.true_or,if_true];refine wpAny_sound ls.toArray.size t _ a _ ?_;refine dH (C:=C) (c0:=c0) _ _ _ _ ?_;have:=aL (md:=.any) hs hQ hC (ls.toArray.size-gT bs is0 last) is0 last bs (Array.replicate ls.toArray.size false) a w.drew hw hb (h _ rfl);rwa [Nat.sub_add_cancel hle]at this
end
end
section
open Go.RowKit Num
def Rd8(w:World)(A:Option Addr)(L:List Nat):Prop:=L≠[]→∃ad,A=some ad∧ad.block<w.heap.size∧∀j (h:j<L.length),w.cell? (ad.add j)=some (.int .u8 (L[j]:Int))
theorem OQ(a:Addr)(n:Nat):(a.add n).block=a.block:=by unfold Addr.add;split<;>rfl
section
variable {w w':World} {A:Option Addr} {L:List Nat}
theorem Rd8.nil:Rd8 w A []:=fun h=>absurd rfl h
theorem Rd8.at_(h:Rd8 w A L){k:Nat}(hk:k<L.length):∃ad,A=some ad∧ad.block<w.heap.size∧w.cell? (ad.add k)=some (.int .u8 (L.getD k 0:Int)):=by
 obtain⟨ad,hA,hb,hc⟩:=h zTJ;exact⟨ad,hA,hb,by rw[hc k hk];simp[hk]⟩
theorem Rd8.step(h:Rd8 w A L)(hb:Below w.heap.size w w'):Rd8 w' A L:=fun hne=>by
 obtain⟨ad,hA,hlt,hc⟩:=h hne;exact⟨ad,hA,zS hlt hb.size,fun j hj=>(hb.cell (p:=ad.add j) (by rw[OQ];exact hlt)).trans (hc j hj)⟩
end
structure Bys(g n:Nat)(F:Nat→Nat)(w:World):Prop where
 lt:g<w.heap.size
 at_:∀j,j<n→w.cell? ⟨g,j,none⟩=some (.int .u8 (F j:Int))
 fz:∀j,j<n→w.frozen? ⟨g,j,none⟩=false
section
variable {g n:Nat} {F F':Nat→Nat} {w w':World}
theorem Bys.below(H:Bys g n F w){m:Nat}(hb:Below m w w')(hn:g<m):Bys g n F w':=
 ⟨zS H.lt hb.size,fun j hj=>(hb.cell (p:=⟨g,j,none⟩) hn).trans (H.at_ j hj),fun j hj=>(hb.frozen (p:=⟨g,j,none⟩) hn).trans (H.fz j hj)⟩
theorem Bys.step(H:Bys g n F w)(hb:Below w.heap.size w w'):Bys g n F w':=H.below hb H.lt
theorem Bys.congr(H:Bys g n F w)(h:∀j,j<n→F j=F' j):Bys g n F' w:=⟨H.lt,fun j hj=>by rw[←h j hj];exact H.at_ j hj,H.fz⟩
theorem Bys.set(H:Bys g n F w){k:Nat}(hk:k<n)(v:Nat):Bys g n (fun j=>if j=k then v else F j) (w.setCell ⟨g,k,none⟩ (.int .u8 (v:Int))):=by
 exact zDM
theorem Bys.rd{n0:Nat}(H:Bys g n F w)(h:n0=n):Rd8 w (some ⟨g,0,none⟩) ((List.range n0).map F):=fun _=>by
 subst h;refine⟨_,rfl,H.lt,fun j hj=>?_⟩;have hj:j<n0:=by simpa using hj
 have e:(⟨g,0,none⟩:Addr).add j=⟨g,j,none⟩:=by unfold Addr.add;split<;>simp_all
 rw[e,H.at_ j hj];simp
end
theorem Bys.new(w:World)(n:Nat):Bys w.heap.size n (fun _=>0) (w.alloc (.cells (arr (List.replicate n 0)) 5)):=
 ⟨by simp,fun j hj=>by rw[World.cell?_alloc_at _ _ _ _ rfl,oM _ _ (by simpa using hj)];simp,fun j hj=>World.frozen?_alloc_at _ _ _ _ rfl⟩
def aG(N g:Nat):Value:=.slice (some ⟨g,0,none⟩) N N
def vS(q:Nat)(v:Value)(hi:Bool)(M:Int)(w:World):Prop:=w.heap[q]?=some (.cells #[v,.bool hi,.int .i64 M] 41 (0,0))
section
variable {q:Nat} {v:Value} {hi:Bool} {M:Int} {w w':World}
theorem vS.lt(H:vS q v hi M w):q<w.heap.size:=(jZ.1 H).1
theorem vS.step(H:vS q v hi M w)(hb:Below w.heap.size w w'):vS q v hi M w':=(hb.block q H.lt).trans H
theorem vS.new(w:World)(v:Value)(hi:Bool)(M:Int):vS w.heap.size v hi M (w.alloc (.cells #[v,.bool hi,.int .i64 M] 41)):=jN _ _
theorem vS.alloc(H:vS q v hi M w)(o:Obj):vS q v hi M (w.alloc o):=H.step ((zB _ _).alloc (zH _) _)
theorem vS.c0(H:vS q v hi M w):w.cell? ⟨q,0,none⟩=some v:=by rw[j4 w q 0 _ _ _ H];rfl
theorem vS.c1(H:vS q v hi M w):w.cell? ⟨q,1,none⟩=some (.bool hi):=by rw[j4 w q 1 _ _ _ H];rfl
theorem vS.c2(H:vS q v hi M w):w.cell? ⟨q,2,none⟩=some (.int .i64 M):=by rw[j4 w q 2 _ _ _ H];rfl
theorem vS.fz(H:vS q v hi M w)(j:Nat):w.frozen? ⟨q,j,none⟩=false:=frozen_of_row w q j _ _ H
theorem vS.put(H:vS q v hi M w)(u:Value):vS q u hi M (w.setCell ⟨q,0,none⟩ u):=by
 unfold vS;rw[setCell_eq_setRow w q 0 _ _ (0,0) u H];exact setRow_heap w q _ _ _ (0,0) H
theorem vS.other(H:vS q v hi M w){g:Nat}(hg:q≠g)(o:Nat)(u:Value):vS q v hi M (w.setCell ⟨g,o,none⟩ u):=(qQ w ⟨g,o,none⟩ u q hg).trans H
end
theorem gO{w:World}{base size n:Nat}{e:TypeId}{v:Value}{xs:List Value}{q:Nat}(h:w.ownsRow base e size v n xs)(hq:some q≠v.ownBlock)(o:Nat)(u:Value):(w.setCell ⟨q,o,none⟩ u).ownsRow base e size v n xs:=by
 refine⟨h.1,h.2.imp id ?_⟩;rintro⟨b,cap,cur,rfl,hb,hh,r⟩;refine⟨b,cap,cur,rfl,hb,(qQ w ⟨q,o,none⟩ u b ?_).trans hh,r⟩;rintro rfl;exact hq rfl
theorem vS.kept{q:Nat}{v:Value}{hi:Bool}{M:Int}{w w':World}(H:vS q v hi M w)(tmp:Obj){row:Option Nat}(hg:(w.alloc tmp).grownBy w' row)(hne:some q≠row):vS q v hi M w':=iW tmp H hg hne
theorem vS.drew{q:Nat}{v:Value}{hi:Bool}{M:Int}{w:World}(H:vS q v hi M w):vS q v hi M w.drew:=H
theorem vS.grown{q:Nat}{v:Value}{hi:Bool}{M:Int}{w w':World}(H:vS q v hi M w){row:Option Nat}(hg:w.grownBy w' row)(hne:some q≠row):vS q v hi M w':=(hg.block q H.lt hne).trans H
theorem vS.row{q:Nat}{v:Value}{hi:Bool}{M:Int}{w:World}(H:vS q v hi M w){base size k:Nat}{u:Value}{xs:List Value}(hr:w.ownsRow base 174 size u k xs):some q≠u.ownBlock:=dD H zBH hr
theorem IE{w:World}{base size n:Nat}{e:TypeId}{v:Value}{xs:List Value}{q:Nat}(h:w.ownsRow base e size v n xs)(hq:some q≠v.ownBlock)(cs:Array Value):(w.setRow q cs).ownsRow base e size v n xs:=by
 refine⟨h.1,h.2.imp id ?_⟩;rintro⟨b,cap,cur,rfl,hb,hh,r⟩;refine⟨b,cap,cur,rfl,hb,(zA w q b cs ?_).trans hh,r⟩;rintro rfl;exact hq rfl
theorem gD:(Tryz.prog.info? 41).map (·.size)=some 3:=by kernel_rfl
theorem zYT{B:Nat}{a w:World}(h:Below B a w){g:Nat}(hg:B≤g)(cs:Array Value):Below B a (w.setRow g cs):=
 h.trans ⟨rfl,rfl,rfl,by simp[World.setRow],fun k hk=>zA w g k cs zBY⟩
theorem BJ:(Tryz.prog.info? 174).map (fun i=>(i.zero,i.size,i.bytes))=some (some (.slice none 0 0),1,24):=by kernel_rfl
theorem zKF(gs:List Nat)(i k x:Nat)(hk:k<gs.length):(gs.set i x).take (k+1)=(gs.set i x).take k++[if k=i then x else gs.getD k 0]:=by
 rw[j7 (by simpa using hk),List.getElem_set];congr 2
 by_cases e:i=k
 ·rw[zG e,zG e.symm]
 ·rw[zL e,zL (fun h=>e h.symm)];simp[hk]
theorem iB(N:Nat)(A:Option Addr)(cap:Nat)(gs:List Nat)(hi:Bool)(M:Int)(i x:Nat)(w:World)(hgs:gs.length=4)(hi4:i<4)(H:Row (aG N) w A gs):
  Calls Tryz.prog 216 #[.agg #[.slice A 4 cap,.bool hi,.int .i64 M],.int .i64 (i:Int),aG N x] w fun e w'=>∃A' cap',e=.returned (.agg #[.slice A' 4 cap',.bool hi,.int .i64 M])∧Row (aG N) w' A' (gs.set i x)∧Below w.heap.size w w'∧∀ad,A'=some ad→w.heap.size≤ad.block:=by
 obtain⟨i0,hinfo,hz⟩:=kV.1 BJ;simp only[jC]at hz;obtain⟨hz0,hz1,hz2⟩:=hz;have HH:=zW (zY H hgs);have II:=zW hi4;have HI:=zW (zY hinfo (zY hz0 (zY hz1 hz2)));have iI:(i:Int)<4:=zBY;clear H hgs hinfo hz0 hz1 hz2 hi4;rw[show aG N x=.slice (some ⟨x,0,none⟩) N N from rfl];go_enter Tryz.func216,Tryz.ntmps216;go_wp2;have S0:=zW ((vS.new w (.slice A 4 cap) hi M).alloc (.cells #[.slice none 0 0,.bool false,.int .i64 0] 41));have B0:=zW (((zB _ w).alloc (zH _) (.cells #[.slice A 4 cap,.bool hi,.int .i64 M] 41)).alloc zBT (.cells #[.slice none 0 0,.bool false,.int .i64 0] 41));have S1:=zW (vS.new (w.alloc (.cells #[.slice A 4 cap,.bool hi,.int .i64 M] 41)) (.slice none 0 0) false 0);rw[show(w.alloc (.cells #[.slice A 4 cap,.bool hi,.int .i64 M] 41)).heap.size=w.heap.size+1 by simp]at S1;have Z2:((w.alloc (.cells #[.slice A 4 cap,.bool hi,.int .i64 M] 41)).alloc (.cells #[.slice none 0 0,.bool false,.int .i64 0] 41)).heap.size=w.heap.size+1+1:=zBT;generalize (w.alloc (.cells #[.slice A 4 cap,.bool hi,.int .i64 M] 41)).alloc (.cells #[.slice none 0 0,.bool false,.int .i64 0] 41)=w2 at*;have S2:=zW (vS.new w2 (.slice none 0 0) hi M);rw[Z2]at S2;have S0:=zW (S0.out.alloc (.cells #[.slice none 0 0,.bool hi,.int .i64 M] 41));have S1:=zW (S1.out.alloc (.cells #[.slice none 0 0,.bool hi,.int .i64 M] 41));have B0:=zW (B0.out.alloc (by rw[Z2];omega) (.cells #[.slice none 0 0,.bool hi,.int .i64 M] 41));clear Z2;generalize w2.alloc (.cells #[.slice none 0 0,.bool hi,.int .i64 M] 41)=w3 at*;go_loopw [8] (fun t wr=>∃(k:Nat) (v:Value),k≤4∧t=.int .i64 (k:Int)∧vS w.heap.size (.slice A 4 cap) hi M wr∧vS (w.heap.size+1) (.slice none 0 0) false 0 wr∧vS (w.heap.size+1+1) v hi M wr∧wr.ownsRow w.heap.size 174 1 v k (((gs.set i x).take k).map (aG N))∧Below w.heap.size w wr) (fun t _=>4-(intOf t).toNat)
 case atStart=>exact⟨0,_,by omega,rfl,S0.out,S1.out,S2.out,qO _ _ _ _,B0.out⟩
 case round=>
  clear S0 S1 S2 B0
  obtain⟨k,v,hk,rfl,h0,h1,h2,hown,hb⟩:=hrel
  have Q:=zW (zY h0 (zY h1 (zY h2 (zY hown hb))))
  clear h0 h1 h2 hown hb
  by_cases hlt:k<4
  ·have kI:(k:Int)<4:=zBY
   have ST:=zW (zKF gs i k x (by rw[HH.out.2];exact hlt))
   have c0:=Q.out.2.2.1.c0
   have f0:=Q.out.2.2.1.fz 0
   by_cases hki:k=i
   ·have ki1:((k:Int)==(i:Int))=true:=by simp;omega
    have KI:=zW hki
    clear hki
    go_wp2_with (first
     |(at_builtin;refine lG _ rfl _ _ 39 rfl w.heap.size 174 i0 (.slice none 0 0) 1 24 Tryz.underlying39 HI.out.1 HI.out.2.1 HI.out.2.2.1 HI.out.2.2.2 rfl zBH _ _ _ rfl (Q.out.2.2.2.1.alloc _) ⟨_,0,none⟩ 1 1 [.slice (some ⟨x,0,none⟩) N N] rfl rfl (cell_one_new _ _ _) zRK zB6 zBY zTW ?_;intro v' w1 hown' hgrow hnil;clear hnil;obtain⟨A2,c2,rfl⟩:=vQ hown';have Q0:=Q.out.1.kept _ hgrow (Q.out.1.row Q.out.2.2.2.1);have Q1:=Q.out.2.1.kept _ hgrow (Q.out.2.1.row Q.out.2.2.2.1);have Q2:=Q.out.2.2.1.kept _ hgrow (Q.out.2.2.1.row Q.out.2.2.2.1);have d0:=Q2.c0;have g0:=Q2.fz 0;have Q3:=zW (zY Q0 (zY Q1 (zY Q2 (zY hown' hgrow))));clear Q0 Q1 Q2 hown' hgrow c0 f0))
    go_roundw
    case rel=>
     have hq:=Q3.out.2.2.1.row Q3.out.2.2.2.1
     refine⟨k+1,_,by omega,by go_num,Q3.out.1.other zBY _ _,Q3.out.2.1.other zBY _ _,Q3.out.2.2.1.put _,?_,((Q.out.2.2.2.2.alloc Q.out.2.2.2.2.size _).grown Q3.out.2.2.2.2 zTW fun j ej=>(Q.out.2.2.2.1.lt j ej).1).setCell (p:=⟨w.heap.size+1+1,0,none⟩) zTZ _⟩
     refine gO ?_ hq 0 _
     rw[ST.out,zG KI.out,jD]
     exact Q3.out.2.2.2.1
    case measure=>simp[intOf];omega
   ·have ki1:((k:Int)==(i:Int))=false:=by simp;omega
    have KI:=zW hki
    obtain⟨b,o,hA,hbl,hce⟩:=(HH.out.1.below Q.out.2.2.2.2).at_ (k:=k) (by rw[HH.out.2];exact hlt)
    have hge:gs[k]'(by rw[HH.out.2];exact hlt)=gs.getD k 0:=by simp[show k<gs.length by rw[HH.out.2];exact hlt]
    rw[hge]at hce
    obtain⟨y,hy⟩:∃y,gs.getD k 0=y:=⟨_,rfl⟩
    rw[hy]at hce
    change wr.cell? ⟨b,o+k,none⟩=some (.slice (some ⟨y,0,none⟩) N N)at hce
    have HY:=zW hy
    obtain rfl:=hA
    have s0:=Q.out.1.c0
    have hsz2:=Q.out.2.2.2.2.size
    have l2:=Q.out.2.2.1.lt
    have l0:=Q.out.1.lt
    clear hki hge hy
    go_wp2
    go_region_law
     ((refine step_append_lies _ zBB _ _ _ zBB w.heap.size 174 i0 _ 1 24 Tryz.underlying39 HI.out.1 HI.out.2.1 HI.out.2.2.1 HI.out.2.2.2 rfl zBY _ _ _ zBB ((Q.out.2.2.2.1.alloc _).drew) ⟨wr.heap.size,0,none⟩ 1 1 [.slice (some ⟨y,0,none⟩) N N] zBB zBB (World.news_of_block (cs:=#[.slice (some ⟨y,0,none⟩) N N]) (t:=174) (fr:=(0,0)) (jN wr _)) zRK zBY zB6 zBY zBS _ rfl ?_;intro gg cap2 w1 hown1 hgrow hat hlt2;have Q0:=(Q.out.1.alloc _).drew.grown hgrow (Q.out.1.row Q.out.2.2.2.1);have Q1:=(Q.out.2.1.alloc _).drew.grown hgrow (Q.out.2.1.row Q.out.2.2.2.1);have Q2:=(Q.out.2.2.1.alloc _).drew.grown hgrow (Q.out.2.2.1.row Q.out.2.2.2.1);have d0:=Q2.c0;have g0:=Q2.fz 0;have Q3:=zW (zY Q0 (zY Q1 (zY Q2 (zY hown1 hgrow))));clear Q0 Q1 Q2 hown1 hgrow c0 f0))
    all_goals
     go_wp2
     go_roundw
     case rel=>
      have hq:=Q3.out.2.2.1.row Q3.out.2.2.2.1
      refine⟨k+1,_,by omega,by go_num,Q3.out.1.other zBY _ _,Q3.out.2.1.other zBY _ _,Q3.out.2.2.1.put _,?_,((Q.out.2.2.2.2.alloc Q.out.2.2.2.2.size _).drew.grown Q3.out.2.2.2.2 zTW fun j ej=>(Q.out.2.2.2.1.lt j ej).1).setCell (p:=⟨w.heap.size+1+1,0,none⟩) zTZ _⟩
      refine gO ?_ hq 0 _
      rw[ST.out,zL KI.out,HY.out,jD]
      exact Q3.out.2.2.2.1
     case measure=>simp[intOf];omega
  ·have ke:=zW (show k=4 by omega)
   have kI:¬(k:Int)<4:=zBY
   obtain⟨A2,c2,rfl⟩:=vQ Q.out.2.2.2.1
   have hl:((gs.set i x).take k)=gs.set i x:=qY (by rw[List.length_set,HH.out.2,ke.out];exact zH _)
   have q1:=zW Q.out.2.1
   have q2:=zW Q.out.2.2.1
   have hq:=q1.out.row Q.out.2.2.2.1
   have QR:=zW (IE Q.out.2.2.2.1 hq #[.slice A2 k c2,.bool hi,.int .i64 M])
   have hb:=zW (zYT Q.out.2.2.2.2 (show w.heap.size≤w.heap.size+1 by omega) #[.slice A2 k c2,.bool hi,.int .i64 M])
   have HL:=zW hl
   clear Q hl hq
   go_upto_region 8 with fail
   refine zN ?_
   refine lX rfl 41 (.tmp 7) rfl (w.heap.size+1+1) zBR _ _ _ _ q2.out Tryz.underlying41 rfl zTQ ?_
   refine wpList_store_row rfl 41 (.tmp 6) (.tmp 37) rfl (w.heap.size+1) #[.slice A2 k c2,.bool hi,.int .i64 M] zBL zBL _ _ q1.out zTQ rfl zRK ?_
   have q3:vS (w.heap.size+1) (.slice A2 k c2) hi M (wr.setRow (w.heap.size+1) #[.slice A2 k c2,.bool hi,.int .i64 M]):=setRow_heap _ _ _ _ _ (0,0) q1.out
   have q3:=zW q3
   generalize wr.setRow (w.heap.size+1) #[.slice A2 k c2,.bool hi,.int .i64 M]=w4 at*
   iterate 4 go_step
   refine zT (zF rfl _ _ (w.heap.size+1) _ _ _ _ rfl q3.out Tryz.underlying41 rfl zTQ) rfl ?_
   have e4:=ke.out
   have qr:=Row.of_own QR.out
   rw[HL.out]at qr
   subst e4
   refine⟨A2,c2,rfl,qr,hb.out,fun ad hA=>?_⟩
   rcases QR.out.2 with⟨h,_⟩|⟨g,cp,cur,h,hg,_⟩
   ·cases h
    try cases hA
   ·injection h with h1 h2 h3
    subst h1
    injection hA with hA
    subst hA
    exact hg
def ov(P:Nat→Int)(L:List Int)(j:Nat):Int:=L.getD j (P j)
theorem QH(P:Nat→Int)(L:List Int)(j:Nat)(h:j<L.length):ov P L j=L[j]:=by simp[ov,h]
theorem pD(P:Nat→Int)(L:List Int)(j:Nat)(h:¬j<L.length):ov P L j=P j:=by simp[ov,qJ,qD (Nat.le_of_not_lt h)]
def cl(n:Int):Nat:=(min (max n 0) 16).toNat
theorem cl_le(n:Int):cl n≤16:=by unfold cl;omega
theorem cl_eq(n:Int):min (max n 0) 16=(cl n:Int):=by unfold cl;omega
theorem cl_nat(k:Nat)(h:k≤16):cl (k:Int)=k:=by unfold cl;omega
theorem yK(P:Nat→Int)(j:Nat):(cC P)[j]?=if j<16 then some (P j)else none:=by
 by_cases h:j<16
 ·rw[zG h,zP (by rw[nV];exact h),yS _ _ h]
 ·rw[zL h,qD zRG]
theorem zX9(P:Nat→Int)(k:Nat)(h:k≤16):((cC P).take k).length=k:=by rw[qV,nV];omega
theorem zQL(P:Nat→Int):pc P=((cC P).map (Value.int .u8)).toArray:=by
 apply qH
 intro j
 have e:((cC P).map (Value.int .u8)).toArray[j]?=((cC P)[j]?).map (Value.int .u8):=by rw[←jK];exact zX
 rw[e,yK];by_cases h:j<16
 ·rw[rD _ _ h,zG h];rfl
 ·rw[zE zTD,zL h];rfl
theorem zV8(P:Nat→Int)(L:List Int):splice (cC P) 0 (L.take 16)=cC (ov P L):=by
 apply kT
 intro j
 have ll:(L.take 16).length≤16:=by rw[qV];omega
 rw[wR _ _ _ zRG,zL zBY,qB,yK,yK];by_cases h1:j<(L.take 16).length
 ·have h2:j<L.length:=by rw[qV]at h1;omega
  rw[zG h1,zG zBY,Nat.sub_zero,zP h1,jU,QH _ _ _ h2]
 ·rw[zL h1];by_cases h2:j<16
  ·rw[zG h2,zG h2,pD _ _ _ (by rw[qV]at h1;omega)]
  ·rw[zL h2,zL h2]
theorem zMN(P:Nat→Int)(L:List Int):(splice ((cC P).map (Value.int .u8)) 0 ((L.take 16).map (Value.int .u8))).toArray=pc (ov P L):=by
 rw[aE,zV8,←zQL]
theorem U7:xX Tryz.prog 81 16:=⟨⟨_,Tryz.underlying81,rfl⟩,by kernel_rfl⟩
theorem zLY:cY Tryz.prog 81 (pc mU):=by
 unfold cY;rw[nX];kernel_rfl
theorem zeroF(w:World):(zeroValue 81).run Tryz.prog w=.ok (.agg (pc mU)) w:=tK zLY
def FB(b:Nat)(P:Nat→Int)(w:World):Prop:=Blk b 81 (pc P) w
section
variable {b:Nat} {P Q:Nat→Int} {w w':World}
theorem FB.lt(H:FB b P w):b<w.heap.size:=Blk.lt H
theorem FB.below(H:FB b P w){n:Nat}(hb:Below n w w')(hn:b<n):FB b P w':=Blk.below H hb hn
theorem FB.step(H:FB b P w)(hb:Below w.heap.size w w'):FB b P w':=Blk.step H hb
theorem FB.new(w:World)(P:Nat→Int):FB w.heap.size P (w.alloc (.cells (pc P) 81)):=Blk.new _ _ _
theorem FB.alloc(H:FB b P w)(o:Obj):FB b P (w.alloc o):=Blk.alloc H o
theorem FB.drew(H:FB b P w):FB b P w.drew:=H
theorem FB.otherRow(H:FB b P w){g:Nat}(hg:b≠g)(ds:Array Value):FB b P (w.setRow g ds):=Blk.otherRow H hg ds
theorem FB.other(H:FB b P w){g:Nat}(hg:b≠g)(o:Nat)(v:Value):FB b P (w.setCell ⟨g,o,none⟩ v):=Blk.other H hg o v
theorem FB.cell(H:FB b P w){j:Nat}(hj:j<16):w.cell? ⟨b,j,none⟩=some (.int .u8 (P j)):=by rw[Blk.cell H,rD _ _ hj]
theorem FB.fz(H:FB b P w)(j:Nat):w.frozen? ⟨b,j,none⟩=false:=Blk.frozen H j
theorem FB.store(H:FB b P w)(Q:Nat→Int):FB b Q (w.setRow b (pc Q)):=Blk.store H _
theorem FB.rd(H:FB b P w):Rd w (some ⟨b,0,none⟩) (cC P):=fun _=>by
 exact zF0
theorem zMQ{A:Option Addr}{L:List Int}(H:Rd w A L)(k:Nat):Rd w A (L.take k):=fun hne=>by
 obtain⟨ad,e,hb,hc⟩:=H (by rintro rfl;simp at hne);refine⟨ad,e,hb,fun j hj=>?_⟩;rw[qV]at hj;rw[hc j zBY,jU]
end
theorem zXM{B:Nat}{a w:World}(h:Below B a w){g:Nat}(hg:B≤g)(cs:Array Value):Below B a (w.setRow g cs):=lU h hg cs
def GotB(L:List Int)(n:Nat)(w:World)(e:Ending)(w':World):Prop:=∃A c,e=.returned (.slice A n c)∧w'.ownsRow w.heap.size 5 1 (.slice A n c) n (L.map (Value.int .u8))∧L.length=n∧Below w.heap.size w w'
theorem GotB.of{L:List Int}{n:Nat}{w w':World}{e:Ending}(h:wK 5 L w e w')(hn:L.length=n):GotB L n w e w':=by
 obtain⟨v,he,ho,hb⟩:=h;subst hn;obtain⟨A,c,rfl⟩:=vQ ho;exact⟨A,c,he,ho,rfl,hb⟩
section
variable {ops:Array Oper} {C:World→Prop} {Q':Act→Prop} {o:Oper} {rest:List Oper} {a:Act} {P Q:Nat→Int} {b:Nat}
end
theorem MU(w:World)(ty:TypeId)(base:Nat)(v:Value)(n:Nat)(L0:List Int)(hown:w.ownsRow base 5 1 v n (L0.map (Value.int .u8)))(A:Option Addr)(m c:Nat)(L:List Int)(hR:Rd w A L)(hL:L.length=m)
  (h63:n+m≤1000000) (hbase:base≤w.heap.size):
  ∃v' w',(Builtin.append_ #[22,22] ty #[v,.slice A m c]).run Tryz.prog w=.ok v' w'∧w'.ownsRow base 5 1 v' (n+m) ((L0++L).map (Value.int .u8))∧w.grownBy w' v.ownBlock:=by
 obtain⟨i0,hi,hz0,hz1,hz2⟩:=lW rS;rcases A with _|ad
 ·have hm:m=0:=by
   rcases Nat.eq_zero_or_pos m with h|h
   ·exact h
   ·obtain⟨ad,e,_⟩:=hR (by rintro rfl;simp at hL;omega);cases e
  subst hm;obtain rfl:L=[]:=kA hL;refine⟨v,w,?_,by simpa using hown,World.grownBy.refl w _⟩;rcases hown.2 with⟨rfl,rfl⟩|⟨g,cap,cur,rfl,_,_,hnc,_⟩
  ·simp[Builtin.append_,kL Tryz.underlying22,sizeOf,typeInfo,hi,Builtin.lenOf,Builtin.firstCells]
  ·simp[Builtin.append_,kL Tryz.underlying22,sizeOf,typeInfo,hi,Builtin.lenOf,Builtin.firstCells,hnc,storeCells]
 ·have hc:∀j u,(L.map (Value.int .u8))[j]?=some u→w.cell? (ad.add j)=some u:=by
   by_cases hne:L=[]
   ·subst hne;intro j u hu;simp at hu
   ·obtain⟨ad',e,_,hc⟩:=hR hne;injection e with e
    subst e;exact T0 hc
  obtain⟨v',w',hrun,h2,h3,_,_⟩:=run_append_own_at (P:=Tryz.prog) w base 22 ty 5 i0 (.int .u8 0) 1 1 Tryz.underlying22 hi hz0 hz1 hz2 rfl zBY v n _ hown ad m c (L.map (Value.int .u8)) (by rw[jQ];omega) hc (XD L) zB6 zBY hbase;exact⟨v',w',hrun,by rw[jD];exact h2,h3⟩
theorem tZ{w:World}{ops:Array Oper}{rest:List Oper}{o:Oper}{a:Act}{Q:Exit→Act→World→Prop}(hgd:o.guard=none)(s x:Operand)
  (ho:o.op=.call {callee:=.builtin .append,args:=#[s,x],argTypes:=#[22,22]}) (base:Nat) (v:Value) (n:Nat) (L0:List Int) (hs:a.eval s=v) (hown:w.ownsRow base 5 1 v n (L0.map (Value.int .u8)))
  (A:Option Addr) (m c:Nat) (L:List Int) (hx:a.eval x=.slice A m c) (hR:Rd w A L) (hL:L.length=m) (h63:n+m≤1000000) (hbase:base≤w.heap.size)
  (h:∀v' w',w'.ownsRow base 5 1 v' (n+m) ((L0++L).map (Value.int .u8))→w.grownBy w' v.ownBlock→wpList Tryz.prog ops Q rest (a.put o.dst v') w'):wpList Tryz.prog ops Q (o::rest) a w:=by
 refine qL hgd fun K hK=>?_;obtain⟨v',w',hrun,h2,h3⟩:=MU w o.type base v n L0 hown A m c L hR hL h63 hbase;unfold Oper.wp execOp;simp only[ho,resolve,invoke,builtin,qW,jW,qX,List.map_toArray,List.map_cons,List.map_nil,hs,hx,hrun];exact hK _ _ (h v' w' h2 h3)
theorem zMO(P:Nat→Int)(M:List Int)(k:Nat)(h1:k<16)(h2:k<M.length):(cC (ov P (M.take k))).set k M[k]=cC (ov P (M.take (k+1))):=by
 apply kT
 intro j
 rw[List.getElem?_set,nV,yK,yK];by_cases e:k=j
 ·subst e;rw[zG rfl,zG h1,zG h1,QH _ _ _ zR8,jU]
 ·rw[zL e];by_cases h3:j<16
  ·rw[zG h3,zG h3];by_cases h4:j<k
   ·rw[QH _ _ _ zR8,QH _ _ _ zR8,jU,jU]
   ·rw[pD _ _ _ zR8,pD _ _ _ zR8]
  ·rw[zL h3,zL h3]
theorem GH(P:Nat→Int)(M:List Int)(k:Nat)(h:M.length≤k∨16≤k):cC (ov P (M.take k))=cC (ov P M):=by
 apply kT
 intro j
 rw[yK,yK];by_cases h3:j<16
 ·rw[zG h3,zG h3];by_cases h4:j<M.length
  ·rw[QH _ _ _ zR8,QH _ _ _ h4,jU]
  ·rw[pD _ _ _ zR8,pD _ _ _ h4]
 ·rw[zL h3,zL h3]
theorem zV9(P:Nat→Int):cC (ov P [])=cC P:=by
 have h:∀j,j<16→ov P [] j=P j:=fun j _=>pD P [] j (Nat.not_lt_zero j);apply kT
 intro j
 rw[yK,yK];by_cases h3:j<16
 ·rw[zG h3,zG h3,h j h3]
 ·rw[zL h3,zL h3]
theorem N4(P:Nat→Int)(A:Option Addr)(c:Nat)(B:Option Addr)(m d:Nat)(M:List Int)(w:World)(H:Rd w A (cC P))(K:Rd w B M)(hm:M.length=m)(m1:m≤1000):
  Calls Tryz.prog 57 #[.slice A 16 c,.slice B m d] w (wK 5 (cC (ov P M)) w):=by
 have HH:=zW (zY H (zY K hm));clear H K hm;go_enter Tryz.func57,Tryz.ntmps57;have hown0:(w.alloc (.cells #[] 5)).ownsRow w.heap.size 5 1 (.slice (some ⟨w.heap.size,0,none⟩) 0 0) 0 (([]:List Int).map (Value.int .u8)):=World.ownsRow_made w #[] 0 (zH _) zB6 rfl;have Q:=zW (zY hown0 (mJ w (.cells #[] 5)));clear hown0;go_wp2_with (first
  |(at_builtin;refine tZ rfl (.tmp 7) (.tmp 8) rfl w.heap.size _ 0 [] rfl Q.out.1 A 16 c (cC P) rfl (HH.out.1.below Q.out.2) (nV P) zBY zBT ?_;intro v1 w1 o1 g1;have P1:=zW (zY o1 (Q.out.2.grown g1 zBT fun j ej=>(Q.out.1.lt j ej).1));clear o1 g1))
 obtain⟨g,cap,hv,hg,hl⟩:=P1.out.1.form zBY;subst hv;have HG:=zW hg;clear hg hl Q;go_loopw [6] (fun i wr=>∃k:Nat,k≤16∧k≤m∧i=.int .i64 (k:Int)∧wr.ownsRow w.heap.size 5 1 (.slice (some ⟨g,0,none⟩) 16 cap) 16 ((cC (ov P (M.take k))).map (Value.int .u8))∧Below w.heap.size w wr) (fun i _=>16-(intOf i).toNat)
 case atStart=>exact⟨0,by omega,by omega,rfl,by rw[lZ,zV9];simpa using P1.out.1,P1.out.2⟩
 case round=>
  clear P1
  obtain⟨k,hk,hkm,rfl,ho,hb⟩:=hrel
  have OB:=zW (zY ho hb)
  clear ho hb
  rcases(show(k<16∧k<m)∨¬k<m∨(k<m∧¬k<16) by omega)with⟨i1,i2⟩|i2|⟨i2,i1⟩
  ·obtain⟨ad,hA,hab,hc⟩:=(HH.out.2.1.below OB.out.2).at_ (k:=k) (by rw[HH.out.2.2];exact i2)
   obtain⟨v,hv⟩:∃v,M[k]'(by rw[HH.out.2.2];exact i2)=v:=⟨_,rfl⟩
   rw[hv]at hc
   have FV:=zW (show(cC (ov P (M.take k))).set k v=cC (ov P (M.take (k+1))) by rw[←hv];exact zMO P M k i1 _)
   obtain rfl:=hA
   have c3:=OB.out.1.cellAt k zBY
   have c4:=OB.out.1.frozenAt k
   have c5:((cC (ov P (M.take k))).map (Value.int .u8))[k]?=some (.int .u8 (ov P (M.take k) k)):=by rw[jK,yK,zG i1];rfl
   rw[c5]at c3
   have J1:=zW (zY i1 i2)
   have i1I:(k:Int)<16:=zBY
   have i2I:(k:Int)<(m:Int):=zBY
   clear hv hab c5
   go_wp2
   go_roundw
   case rel=>
    refine⟨k+1,by have:=J1.out.1;omega,by have:=J1.out.2;omega,by go_num,?_,OB.out.2.setCell (p:=⟨g,k,none⟩) HG.out _⟩
    rw[←FV.out,List.map_set]
    exact(OB.out.1.stored k _).1
   case measure=>simp[intOf];omega
  ·have i2I:¬(k:Int)<(m:Int):=zBY
   have e:=zW (GH P M k (.inl (by rw[HH.out.2.2];omega)))
   clear i2 hkm
   go_wp2
   go_ret
   have ho:=OB.out.1
   rw[e.out]at ho
   exact⟨_,rfl,by rw[nV];exact ho,OB.out.2⟩
  ·have i2I:(k:Int)<(m:Int):=zBY
   have i1I:¬(k:Int)<16:=zBY
   have e:=zW (GH P M k (.inr zBY))
   clear i1 i2 hkm
   go_wp2
   go_ret
   have ho:=OB.out.1
   rw[e.out]at ho
   exact⟨_,rfl,by rw[nV];exact ho,OB.out.2⟩
end
section
structure Ev where
 k:Int
 d:Bool
instance:Inhabited Ev:=⟨⟨0,false⟩⟩
def ap(K:Nat→Bool)(e:Ev):Nat→Bool:=fun j=>if(0≤e.k∧e.k≤15)∧j=e.k.toNat then e.d else K j
def rel(K:Nat→Bool)(e:Ev):Bool:=decide (0≤e.k∧e.k≤15)&&(K e.k.toNat&& !e.d)
def aft(K:Nat→Bool)(l:List Ev):Nat→Bool:=l.foldl ap K
def one(K:Nat→Bool)(e:Ev):List Int:=if rel K e=true then[e.k]else[]
def pW(K:Nat→Bool):List Ev→List Int
 |[]=>[]
 |e::l=>one K e++pW (ap K e) l
def up:Nat→Bool:=fun _=>false
theorem ap_in{K:Nat→Bool}{e:Ev}{n:Nat}(h:e.k=(n:Int))(hn:n<16):ap K e=fun j=>if j=n then e.d else K j:=by
 funext j
 unfold ap;rw[h];by_cases hj:j=n
 ·rw[zG ⟨⟨by omega,by omega⟩,by omega⟩,zG hj]
 ·rw[zL (fun q=>hj zBY),zL hj]
theorem ap_out{K:Nat→Bool}{e:Ev}(h:¬(0≤e.k∧e.k≤15)):ap K e=K:=by
 funext j
 unfold ap;rw[zL (fun q=>h q.1)]
theorem rel_in{K:Nat→Bool}{e:Ev}{n:Nat}(h:e.k=(n:Int))(hn:n<16):rel K e=(K n&& !e.d):=by
 unfold rel;rw[h,zO zBY,Bool.true_and,jS]
theorem zL5{K:Nat→Bool}{e:Ev}(h:¬(0≤e.k∧e.k≤15)):rel K e=false:=by
 unfold rel;rw[zC h,Bool.false_and]
theorem key_or(k:Int):(∃n:Nat,k=(n:Int)∧n<16)∨¬(0≤k∧k≤15):=by
 by_cases h:0≤k∧k≤15
 ·exact .inl ⟨k.toNat,by omega,by omega⟩
 ·exact .inr h
theorem zYE(K:Nat→Bool)(e:Ev)(j:Nat)(h:(j:Int)≠e.k):ap K e j=K j:=by
 unfold ap;rw[zL];rintro⟨⟨h1,h2⟩,h3⟩;omega
theorem zGJ(K:Nat→Bool)(e:Ev)(j:Nat)(hj:j<16)(h:(j:Int)=e.k):ap K e j=e.d:=by
 unfold ap;rw[zG];exact⟨⟨by omega,by omega⟩,by omega⟩
theorem zGG(K:Nat→Bool):aft K []=K:=rfl
theorem zY3(K:Nat→Bool)(e:Ev)(l:List Ev):aft K (e::l)=aft (ap K e) l:=rfl
theorem zGB(K:Nat→Bool)(l m:List Ev):aft K (l++m)=aft (aft K l) m:=List.foldl_append
theorem zQX:∀(K:Nat→Bool) (l m:List Ev),pW K (l++m)=pW K l++pW (aft K l) m
 |_,[],_=>rfl
 |K,e::l,m=>by
  rw[jF,pW,pW,zQX (ap K e) l m,zY3,lH]
theorem NR(l:List Ev)(k:Nat)(h:k<l.length):l.take (k+1)=l.take k++[l[k]]:=by
 rw[j7 h]
theorem MT(K:Nat→Bool)(l:List Ev)(k:Nat)(h:k<l.length):aft K (l.take (k+1))=ap (aft K (l.take k)) l[k]:=by
 rw[NR l k h,zGB];rfl
theorem zK7(K:Nat→Bool)(l:List Ev)(k:Nat)(h:k<l.length):pW K (l.take (k+1))=pW K (l.take k)++one (aft K (l.take k)) l[k]:=by
 rw[NR l k h,zQX];simp[pW]
theorem zK8:∀(K:Nat→Bool) (l:List Ev),(pW K l).length≤l.length
 |_,[]=>zH _
 |K,e::l=>by
  have:=zK8 (ap K e) l;rw[pW,jB,jH];unfold one;split<;>simp<;>omega
def dn(l:List Ev)(key:Int):Bool:=decide (0≤key∧key≤15)&&aft up l key.toNat
theorem zW2(key:Int):dn [] key=false:=by
 unfold dn;rw[zGG];simp[up]
theorem dn_hit(l:List Ev)(k:Nat)(h:k<l.length)(key:Int)(hk:l[k].k=key):dn (l.take (k+1)) key=(l[k].d&&decide (0≤key∧key≤15)):=by
 unfold dn;rw[MT _ _ _ h];by_cases hq:0≤key∧key≤15
 ·rw[zO hq,zGJ _ _ _ zBY zBY];simp
 ·rw[zC hq];simp
theorem zHR(l:List Ev)(k:Nat)(h:k<l.length)(key:Int)(hk:l[k].k≠key):dn (l.take (k+1)) key=dn (l.take k) key:=by
 unfold dn;rw[MT _ _ _ h];by_cases hq:0≤key∧key≤15
 ·rw[zYE _ _ _ zBY]
 ·rw[zC hq];simp
def zG9(K:Nat→Bool)(a:Nat):Nat→Int
 |0=> -1
 |n+1=>if K a then(a:Int)else zG9 K (a+1) n
def low(K:Nat→Bool):Int:=zG9 K 0 16
end
section
open Go.RowKit Num
def kc(K:Nat→Bool):Array Value:=((List.range 16).map fun j=>Value.bool (K j)).toArray
theorem vF(K:Nat→Bool):(kc K).size=16:=by simp[kc]
theorem ZG(K:Nat→Bool)(j:Nat)(hj:j<16):(kc K)[j]?=some (.bool (K j)):=by simp[kc,hj]
theorem iX(K:Nat→Bool):cL (kc K):=by
 unfold cL;rw[jV];intro v hv;simp only[kc,lF,jR,j8]at hv;obtain⟨j,_,rfl⟩:=hv;rfl
theorem kc_put(K:Nat→Bool)(n:Nat)(hn:n<16)(v:Bool):(kc K).setIfInBounds n (.bool v)=kc fun j=>if j=n then v else K j:=by
 apply qH
 intro j
 rw[jJ,vF];by_cases h1:n=j
 ·subst h1;rw[zG rfl,zG hn,ZG _ _ hn,zG rfl]
 ·rw[zL h1];by_cases h3:j<16
  ·rw[ZG _ _ h3,ZG _ _ h3,zL (fun e=>h1 e.symm)]
  ·rw[zE (by rw[vF];omega),zE (by rw[vF];omega)]
theorem wV:xX Tryz.prog 75 16:=⟨⟨_,Tryz.underlying75,rfl⟩,by kernel_rfl⟩
theorem OT:cY Tryz.prog 75 (kc up):=by
 unfold cY;rw[vF];kernel_rfl
theorem JP(w:World):(zeroValue 75).run Tryz.prog w=.ok (.agg (kc up)) w:=tK OT
theorem zXZ:Tryz.prog.built 75 []=some (kc up):=by kernel_rfl
def KB(b:Nat)(K:Nat→Bool)(w:World):Prop:=Blk b 75 (kc K) w
section
variable {b:Nat} {K L:Nat→Bool} {w w':World}
theorem KB.lt(H:KB b K w):b<w.heap.size:=Blk.lt H
theorem KB.below(H:KB b K w){n:Nat}(hb:Below n w w')(hn:b<n):KB b K w':=Blk.below H hb hn
theorem KB.step(H:KB b K w)(hb:Below w.heap.size w w'):KB b K w':=Blk.step H hb
theorem KB.new(w:World)(K:Nat→Bool):KB w.heap.size K (w.alloc (.cells (kc K) 75)):=Blk.new _ _ _
theorem KB.alloc(H:KB b K w)(o:Obj):KB b K (w.alloc o):=Blk.alloc H o
theorem KB.drew(H:KB b K w):KB b K w.drew:=H
theorem KB.other(H:KB b K w){g:Nat}(hg:b≠g)(o:Nat)(v:Value):KB b K (w.setCell ⟨g,o,none⟩ v):=Blk.other H hg o v
theorem KB.otherRow(H:KB b K w){g:Nat}(hg:b≠g)(ds:Array Value):KB b K (w.setRow g ds):=Blk.otherRow H hg ds
theorem KB.cell(H:KB b K w){j:Nat}(hj:j<16):w.cell? ⟨b,j,none⟩=some (.bool (K j)):=by rw[Blk.cell H,ZG _ _ hj]
theorem KB.fz(H:KB b K w)(j:Nat):w.frozen? ⟨b,j,none⟩=false:=Blk.frozen H j
theorem KB.store(H:KB b K w)(L:Nat→Bool):KB b L (w.setRow b (kc L)):=Blk.store H _
theorem KB.put(H:KB b K w){n:Nat}(hn:n<16)(v:Bool):KB b (fun j=>if j=n then v else K j) (w.setCell ⟨b,n,none⟩ (.bool v)):=(Blk.put H n _).eq (kc_put K n hn v)
end
section
variable {ops:Array Oper} {C:World→Prop}
end
theorem rR{P:Program}{fn:Func}{p q:Tmp}{ty:TypeId}(h:fn.results=#[.cell p ty,.tmp q])(tmps:Array Value)(w:World)(g:Nat)(t:TypeId)(cs:Array Value)(fr:Nat×Nat)(d:TypeDesc)(v:Value)
  (hp:tmps.getD p undef=.pointer (some ⟨g,0,none⟩)) (hq:tmps.getD q undef=v) (hg:w.heap[g]?=some (.cells cs t fr))
  (hu:P.underlying ty=some d) (hd:(match d with| .struct _| .array _ _=>true|_=>false)=true) (hi:(P.info? ty).map (·.size)=some cs.size):
  (results fn tmps).run P w=.ok (.tuple #[.agg cs,v]) w:=by
 exact zD8
theorem eT{B:Nat}{a w:World}(h:Below B a w){g:Nat}(hg:B≤g)(cs:Array Value):Below B a (w.setRow g cs):=lU h hg cs
theorem yD(w:World)(o:Obj):Below w.heap.size w (w.alloc o):=(zB _ _).alloc (zH _) _
def ec(e:Ev):Array Value:=#[.int .i64 e.k,.bool e.d]
theorem aggEv:xX Tryz.prog 103 2:=⟨⟨_,Tryz.underlying103,rfl⟩,by kernel_rfl⟩
def Ev.ok(e:Ev):Prop:= -9223372036854775808≤e.k∧e.k≤9223372036854775807
structure Evs(w:World)(A:Option Addr)(n:Nat)(l:List Ev):Prop where
 len:l.length=n
 max:n≤maxLen
 at_:∀i (h:i<l.length),∃b o,A=some ⟨b,o,none⟩∧b<w.heap.size∧w.cell? ⟨b,o+i*2,none⟩=some (.int .i64 (l[i]).k)∧w.cell? ⟨b,o+i*2+1,none⟩=some (.bool (l[i]).d)∧(l[i]).ok
theorem Evs.step{w w':World}{A:Option Addr}{n:Nat}{l:List Ev}(h:Evs w A n l)(hb:Below w.heap.size w w'):Evs w' A n l:=
 ⟨h.len,h.max,fun i hi=>by
  obtain⟨b,o,e,lt,c1,c2,k⟩:=h.at_ i hi;exact⟨b,o,e,zS lt hb.size,(hb.cell (p:=⟨b,o+i*2,none⟩) lt).trans c1,(hb.cell (p:=⟨b,o+i*2+1,none⟩) lt).trans c2,k⟩⟩
theorem Evs.take{w:World}{A:Option Addr}{n:Nat}{l:List Ev}(h:Evs w A n l)(k:Nat)(hk:k≤n):Evs w A k (l.take k):=
 ⟨by rw[qV,h.len];omega,zD hk h.max,fun i hi=>by
  rw[qV]at hi;rw[jU];exact h.at_ i zBY⟩
theorem Evs.drop{w:World}{A A':Option Addr}{n:Nat}{l:List Ev}(h:Evs w A n l)(k:Nat)(hk:k≤n)(hA:∀b o,A=some ⟨b,o,none⟩→k<n→A'=some ⟨b,o+k*2,none⟩):Evs w A' (n-k) (l.drop k):=
 ⟨by rw[kK,h.len],zD (Nat.sub_le _ _) h.max,fun i hi=>by
  rw[kK]at hi;obtain⟨b,o,e,lt,c1,c2,ok⟩:=h.at_ (k+i) zBY;rw[List.getElem_drop];refine⟨b,o+k*2,hA b o e (by have:=h.len;omega),lt,?_,?_,ok⟩
  ·rw[show o+k*2+i*2=o+(k+i)*2 by omega];exact c1
  ·rw[show o+k*2+i*2+1=o+(k+i)*2+1 by omega];exact c2⟩
theorem LU(A:Option Addr)(n c:Nat)(l:List Ev)(key:Int)(v:Bool)(hv:v=dn l key)(w:World)(H:Evs w A n l)(hn:n≤1000):
  Calls Tryz.prog 67 #[.slice A n c,.int .i64 key] w fun x w'=>x=.returned (.bool v)∧w=w':=by
 have HV:=zW hv;have HZ:=zW H.len;have HE:=zW H;clear hv H;have m1:(-1:Int)≤(n:Int)-1:=zBY;go_enter Tryz.func67,Tryz.ntmps67;go_wp2;go_loop [5] (fun i=>∃m:Nat,m≤n∧i=.int .i64 ((m:Int)-1)∧v=dn (l.take m) key) (fun i=>(intOf i+1).toNat)
 case atStart=>exact⟨n,zH _,rfl,by rw[qY (by rw[HZ.out];omega)];exact HV.out⟩
 case round=>
  obtain⟨m,hm,rfl,hno⟩:=hrel
  have Hno:=zW hno
  clear hno m1
  rcases m with _|k
  ·have e0:=zW (show v=false by rw[Hno.out,lZ,zW2])
   have m0:¬(0:Int)≤((0:Nat):Int)-1:=zBY
   go_wp2
   go_ret
   exact⟨by rw[e0.out];rfl,rfl⟩
  ·have e1:((k+1:Nat):Int)-1=(k:Int):=zBY
   rw[e1]
   clear e1
   have k0:0≤(k:Int):=zBY
   have k1:(k:Int)<(n:Int):=zBY
   have hkl:k<l.length:=by rw[HZ.out];omega
   obtain⟨b,o,hA,hbl,c1,c2,ok⟩:=HE.out.at_ k hkl
   subst hA
   obtain⟨e,he⟩:∃e,e=l[k]:=⟨_,rfl⟩
   rw[←he]at c1 c2
   by_cases hf:e.k=key
   ·have HD:=zW (show v=(e.d&&decide (0≤key∧key≤15)) by rw[Hno.out,he];exact dn_hit l k hkl key (he▸hf))
    have hf1:(e.k==key)=true:=by simpa using hf
    clear hf he ok hkl Hno
    obtain⟨ek,d⟩:=e
    simp only at c1 c2 hf1
    cases d
    ·have H2:=zW (show v=false by rw[HD.out];simp)
     go_wp2
     go_ret
     exact⟨by rw[H2.out];rfl,rfl⟩
    ·by_cases h0:0≤key
     ·by_cases h1:key≤15
      ·have H2:=zW (show v=true by rw[HD.out,zO ⟨h0,h1⟩];rfl)
       have h2:decide (key≤15)=true:=by simpa using h1
       go_wp2
       go_ret
       exact⟨by rw[H2.out];simp,rfl⟩
      ·have H2:=zW (show v=false by rw[HD.out,zC (fun q=>h1 q.2)];rfl)
       have h2:decide (key≤15)=false:=by simpa using h1
       go_wp2
       go_ret
       exact⟨by rw[H2.out];simp[h1],rfl⟩
     ·have H2:=zW (show v=false by rw[HD.out,zC (fun q=>h0 q.1)];rfl)
      go_wp2
      go_ret
      exact⟨by rw[H2.out];simp,rfl⟩
   ·have HD:=zW (zHR l k hkl key (he▸hf))
    have hf1:(e.k==key)=false:=by simpa using hf
    clear hf he ok
    go_wp2
    go_round
    case rel=>exact⟨k,by omega,by go_num,by rw[Hno.out,HD.out]⟩
    case measure=>simp[intOf]
theorem zV0(A B:Option Addr)(c d n:Nat)(L:List Int)(w:World)(hn:L.length=n)(n1:n≤65536)(hA:Row (Value.int .i64) w A L)(hB:Row (Value.int .i64) w B L):
  Calls Tryz.prog 74 #[.slice A n c,.slice B n d] w fun e w'=>e=.returned (.bool true)∧Below w.heap.size w w':=by
 go_enter Tryz.func74,Tryz.ntmps74;go_wp2;go_loopw [5] (fun i wr=>∃k:Nat,k≤n∧i=.int .i64 k∧Below w.heap.size w wr) (fun i _=>n-(intOf i).toNat)
 case atStart=>exact⟨0,qE _,rfl,zB _ _⟩
 case round=>
  obtain⟨k,hk,rfl,hb⟩:=hrel
  by_cases hlt:k<n
  ·obtain⟨g,o,rfl,hg,hc⟩:=(hA.below hb).at_ (k:=k) zBY
   obtain⟨g2,o2,rfl,hg2,hc2⟩:=(hB.below hb).at_ (k:=k) zBY
   have hlk:(k:Int)<(n:Int):=zBY
   obtain⟨x,hx⟩:∃x,L[k]' zBY=x:=⟨_,rfl⟩
   rw[hx]at hc hc2
   clear hx
   go_wp2
   go_quiet (fail)
   go_wp2
   go_roundw
   case rel=>exact⟨k+1,by omega,by go_num,hb.trans ⟨rfl,rfl,rfl,zH _,fun _ _=>rfl⟩⟩
   case measure=>simp[intOf];omega
  ·have hkn:k=n:=zBY
   subst hkn
   go_wp2
   go_ret
   exact⟨rfl,hb⟩
end
section
def nxt(L:List Int)(k:Nat):Int:=L.getD (k%L.length) 0
theorem zMA(k:Nat):nxt [] k=0:=by simp[nxt]
theorem H7(L:List Int)(h:L.length=0)(k:Nat):nxt L k=0:=by
 rw[kA h];exact zMA k
theorem zVO(L:List Int)(k:Nat)(h:0<L.length):k%L.length<L.length:=kC _ h
theorem zQG(L:List Int)(k:Nat)(h:k%L.length<L.length):L[k%L.length]=nxt L k:=by
 unfold nxt;rw[qJ,zP h,Option.getD_some]
def rat(L:List Int)(n:Int):Int:=if n<0 then 0 else nxt L n.toNat
theorem VH(L:List Int)(k:Nat):rat L (k:Int)=nxt L k:=by
 unfold rat;rw[zL zBY,jS]
theorem zMJ(L:List Int)(n:Int)(h:n<0):rat L n=0:=by
 unfold rat;rw[zG h]
end
section
open Go.RowKit Num
theorem MN(w:World)(o:Obj):Below w.heap.size w (w.alloc o):=(zB _ _).alloc (zH _) o
theorem UA(A:Option Addr)(n c:Nat)(w:World):
  Calls Tryz.prog 240 #[.slice A n c] w fun e w'=>e=.returned (.func (.func 272) #[] #[.pointer (some ⟨w.heap.size,0,none⟩)])∧w'=w.alloc (.cells #[.slice A n c] 22):=by
 go_enter Tryz.func240,Tryz.ntmps240;go_wp2;go_returns;exact⟨rfl,rfl⟩
theorem zWZ(A:Option Addr)(n c:Nat)(L:List Int)(k g:Nat)(w:World)(hc:w.cell? ⟨g,0,none⟩=some (.slice A n c))(H:Rd w A L)(hn:L.length=n)(n1:n≤1000000):
  Calls Tryz.prog 272 #[.int .u64 (k:Int),.pointer (some ⟨g,0,none⟩)] w fun e w'=>e=.returned (.int .u8 (nxt L k))∧Below w.heap.size w w':=by
 by_cases h0:n=0
 ·have E:=zW (H7 L (hn.trans h0) k);subst h0;clear H hn n1;go_enter Tryz.func272,Tryz.ntmps272;go_wp2;go_ret;exact⟨uA E.out.symm,by go_grown⟩
 ·obtain⟨j,hj⟩:∃j,k%L.length=j:=⟨_,rfl⟩;have hl:k%L.length<L.length:=zVO L k zBY;obtain⟨ad,rfl,hb,c1⟩:=H.at_ hl;rw[zQG L k hl,hj]at c1;rw[hj,hn]at hl;have u0:IntKind.u64.wrap (n:Int)=(n:Int):=by rw[IntKind.wrap_u64];omega
  have u1:((k:Int)%(n:Int))=(j:Int):=by rw[←hj,hn];rfl
  have u2:Int.tmod (k:Int) (n:Int)=(j:Int):=by rw[qT zBY];exact u1
  have u3:IntKind.u64.wrap (j:Int)=(j:Int):=by rw[IntKind.wrap_u64];omega
  have h0I:¬(n:Int)=0:=zBY;generalize nxt L k=x at*;clear hj hb H hn;go_enter Tryz.func272,Tryz.ntmps272;go_wp2;go_quiet (fail)
  go_wp2;go_ret;exact⟨rfl,⟨rfl,rfl,rfl,zH _,fun _ _=>rfl⟩⟩
theorem Blk.apart{b p:Nat}{T:TypeId}{cs:Array Value}{w w':World}(H:Blk b T cs w)(ha:nC p none w w')(hp:b≠p):Blk b T cs w':=(ha.block b H.lt hp (fun e=>by cases e)).trans H
structure St(base g:Nat)(L:List Int)(k:Nat)(w:World):Prop where
 low:base≤g
 held:∃A c,Blk g 236 #[.slice A L.length c,.int .u64 (k:Int)] w∧w.ownsRow base 5 1 (.slice A L.length c) L.length (L.map (Value.int .u8))
section
variable {base g p k:Nat} {L:List Int} {w w':World}
theorem St.lt(H:St base g L k w):g<w.heap.size:=by obtain⟨A,c,h,_⟩:=H.held;exact h.lt
theorem St.kept(H:St base g L k w)(ha:nC p none w w')(hp:g≠p)(hr:∀A c,w.ownsRow base 5 1 (.slice A L.length c) L.length (L.map (Value.int .u8))→(Value.slice A L.length c).ownBlock≠some p):St base g L k w':=by
 obtain⟨A,c,h,ho⟩:=H.held;exact⟨H.low,A,c,h.apart ha hp,vG ho ha (hr A c ho) (fun _ e=>by cases e)⟩
theorem St.step(H:St base g L k w)(hb:Below w.heap.size w w'):St base g L k w':=
 H.kept (p:=w.heap.size) (nC.of_below hb) (by have:=H.lt;omega) (fun A c ho e=>by have:=(ho.lt _ e).2;omega)
theorem St.alloc(H:St base g L k w)(o:Obj):St base g L k (w.alloc o):=H.step (MN w o)
theorem St.mono(H:St base g L k w){b':Nat}(hb:b'≤base):St b' g L k w:=by
 obtain⟨A,c,h,ho⟩:=H.held;exact⟨zD hb H.low,A,c,h,cV ho hb⟩
theorem St.under(H:St base g L k w)(ha:nC p none w w')(hp:p<base):St base g L k w':=
 H.kept ha (by have:=H.low;omega) (fun A c ho e=>by have:=(XK ho e).1;omega)
theorem St.other{b' k':Nat}{L':List Int}(H:St base g L k w)(ha:nC p none w w')(hp:g≠p)(X:St b' p L' k' w):St base g L k w':=
 H.kept ha hp (fun A c ho e=>by
  obtain⟨A',c',h',_⟩:=X.held;exact vY ho h' zBH e)
theorem St.new{A:Option Addr}{n c:Nat}(ho:w.ownsRow base 5 1 (.slice A n c) n (L.map (Value.int .u8)))(hn:L.length=n)(hb:base≤w.heap.size)(k:Nat):St base w.heap.size L k (w.alloc (.cells #[.slice A n c,.int .u64 (k:Int)] 236)):=by
 subst hn;exact⟨hb,A,c,Blk.new _ _ _,ho.alloc _⟩
end
theorem zJO{base g k:Nat}{L:List Int}{w:World}(H:St base g L k w)(hk:k≤9223372036854775807):
  Calls Tryz.prog 79 #[.pointer (some ⟨g,0,none⟩)] w fun e w'=>e=.returned (.int .i64 (k:Int))∧w=w':=by
 obtain⟨A,c,h,ho⟩:=H.held;have c1:=h.cell 1;have kI:(k:Int)≤9223372036854775807:=zBY;have k0:(0:Int)≤(k:Int):=zBY;have mn:min (k:Int) 9223372036854775807=(k:Int):=zBY;have wr:IntKind.i64.wrap (k:Int)=(k:Int):=by rw[zU];omega
 simp only[zX,zK,zV]at c1;clear h ho;go_enter Tryz.func79,Tryz.ntmps79;exact zDP
theorem zV2{base g k:Nat}{L:List Int}{w:World}(H:St base g L k w)(hk:k≤9223372036854775807)(n1:L.length≤1000000):
  Calls Tryz.prog 205 #[.pointer (some ⟨g,0,none⟩)] w fun e w'=>e=.returned (.int .u8 (nxt L k))∧St base g L (k+1) w'∧nC g none w w':=by
 obtain⟨A,c,h,ho⟩:=H.held;have HH:=zW (zY h (zY ho n1));have LT:=zW H.lt;have LO:=zW H.low;have c0:=h.cell 0;have c1:=h.cell 1;simp only[zX,zK,zV]at c0 c1;have k0:=mH.cell c0 H.lt;have k1:=mH.cell c1 H.lt;have kI:(k:Int)+1≤9223372036854775808:=zBY;have wr:IntKind.u64.wrap ((k:Int)+1)=(k:Int)+1:=by rw[IntKind.wrap_u64];omega
 clear h ho n1 hk c0 c1 H;go_enter Tryz.func205,Tryz.ntmps205;go_upto_region 3 with fail;refine nR (C:=fun w'=>∃x:mH w,w'=x.w) [([0,1,2,3,5,6,7,8],4),([],9)] [10] zBM zBM (fun _ _ d _ _ h=>by cases d<;>exact h) ⟨⟨w.drew,(zB _ _).drew⟩,rfl⟩ ?_;intro wd hwd;have BD:=zW (show Below w.heap.size w wd by rw[hwd];exact(zB _ _).drew);clear hwd;refine nD zBN zBB ?_;repeat(go_big_quiet_step (fail))
 refine zM ?_;refine nK zBB ?_;intro K hK;go_wp2_with fail;refine(UA A L.length c wd).mono ?_;rintro e w1 ⟨rfl,hw1⟩;have B1:=zW (show Below w.heap.size w w1 by rw[hw1];exact BD.out.alloc BD.out.size _);have X1:=zW (show w1.cell? ⟨wd.heap.size,0,none⟩=some (.slice A L.length c) by rw[hw1];simp);clear hw1;simp only[];refine hK _ _ ⟨⟨w1,B1.out⟩,rfl⟩ ?_;clear hK K;refine nD zBN zBB ?_;refine zM ?_;refine nK zBB ?_;intro K hK;go_wp2_with fail;refine(zWZ A L.length c L k wd.heap.size w1 X1.out ((wE HH.out.2.1).below B1.out) rfl HH.out.2.2).mono ?_;rintro e w2 ⟨rfl,b2⟩;have B2:=zW (B1.out.trans (b2.mono B1.out.size));clear b2 X1 B1 BD;simp only[];refine hK _ _ ⟨⟨w2,B2.out⟩,rfl⟩ ?_;clear hK K;refine cT zBN ?_;repeat(go_big_quiet_step (fail))
 refine zM ?_;clear k0 k1;have Y:=zW (HH.out.1.step B2.out);have c1:=Y.out.cell 1;have f1:=Y.out.frozen 1;simp only[zX,zK,zV]at c1;go_wp2;go_ret;have ap:nC g none w2 (w2.setCell ⟨g,1,none⟩ (.int .u64 ((k:Int)+1))):=nC.setCell _ _;have ow:w2.ownsRow base 5 1 (.slice A L.length c) L.length (L.map (Value.int .u8)):=vG (p:=w.heap.size) (g:=none) HH.out.2.1 (nC.of_below B2.out) (fun h=>by have:=(HH.out.2.1.lt _ h).2;omega) (fun k hk=>by cases hk);exact⟨rfl,⟨LO.out,A,c,(Y.out.put 1 (.int .u64 ((k:Int)+1))).eq zBT,vG ow ap (vY ow Y.out zBH) (fun _ e=>by cases e)⟩,(nC.of_below B2.out).trans ap⟩
theorem LS(A:Option Addr)(n c:Nat)(L:List Int)(w:World)(H:Rd w A L)(hn:L.length=n)(n1:n≤1000000):
  Calls Tryz.prog 166 #[.slice A n c] w (wK 5 L w):=by
 have qN:∀(w:World) (a:Option Addr) (n c n' c':Nat),(binOp .eql 22 (.slice a n c) (.slice none n' c')).run Tryz.prog w=.ok (.bool a.isNone) w:=fun w a n c n' c'=>Lib.run_eql_slice_nil w _ _ a n c n' c' Tryz.underlying22;rcases A with _|ad
 ·have e:L=[]:=by
   by_cases h:L=[]
   ·exact h
   ·obtain⟨ad,e,_⟩:=H h;cases e
  subst e;clear H;go_enter Tryz.func166,Tryz.ntmps166;go_wp2;go_ret;exact⟨_,rfl,qO _ _ _ _,zB _ _⟩
 ·have HL:=zW (zY H (zY hn n1));clear H hn n1;go_enter Tryz.func166,Tryz.ntmps166;have hown0:(w.alloc (.cells #[] 5)).ownsRow w.heap.size 5 1 (.slice (some ⟨w.heap.size,0,none⟩) 0 0) 0 (([]:List Int).map (Value.int .u8)):=World.ownsRow_made w #[] 0 (zH _) zB6 rfl;have Q:=zW (zY hown0 (MN w (.cells #[] 5)));exact zDR
def WC(L:List Int)(k:Nat)(w:World)(e:Ending)(w':World):Prop:=∃g,e=.returned (.pointer (some ⟨g,0,none⟩))∧St w.heap.size g L k w'∧Below w.heap.size w w'
theorem IL(A:Option Addr)(n c:Nat)(L:List Int)(m:Int)(k:Nat)(w:World)(H:Rd w A L)(hn:L.length=n)(n1:n≤1000000)(hk:max m 0=(k:Int))(m1:m≤9223372036854775807):
  Calls Tryz.prog 180 #[.slice A n c,.int .i64 m] w (WC L k w):=by
 have HC:=zW (LS A n c L w H hn n1);have kI:(k:Int)≤9223372036854775807:=zBY;have wr:IntKind.u64.wrap (k:Int)=(k:Int):=by rw[IntKind.wrap_u64];omega
 have HN:=zW hn;clear H hn n1 m1;go_enter Tryz.func180,Tryz.ntmps180;go_wp2_with fail;refine HC.out.mono ?_;rintro e w1 ⟨v,rfl,ho,hb⟩;obtain⟨A',c',rfl⟩:=vQ ho;have S:=zW (St.new ho rfl hb.size k);have B:=zW (hb.alloc hb.size (.cells #[.slice A' L.length c',.int .u64 (k:Int)] 236));clear ho hb HC;go_wp2_with fail;go_ret;exact⟨_,rfl,S.out,B.out⟩
theorem zMI(A:Option Addr)(n c:Nat)(L:List Int)(w:World)(H:Rd w A L)(hn:L.length=n)(n1:n≤1000000):
  Calls Tryz.prog 109 #[.slice A n c] w (WC L 0 w):=by
 have HC:=zW (IL A n c L 0 0 w H hn n1 zBH zBH);clear H hn n1;go_enter Tryz.func109,Tryz.ntmps109;go_wp2_with fail;refine HC.out.mono ?_;rintro e w1 ⟨g,rfl,hs,hb⟩;have S:=zW (zY hs hb);clear hs hb HC;go_wp2_with fail;go_ret;exact⟨_,rfl,S.out.1,S.out.2⟩
theorem A6{base g k:Nat}{L:List Int}{w:World}(H:St base g L k w)(n1:L.length≤1000000):
  Calls Tryz.prog 87 #[.pointer (some ⟨g,0,none⟩)] w (WC L k w):=by
 obtain⟨A,c,h,ho⟩:=H.held;have HH:=zW (zY (wE ho) n1);have c0:=h.cell 0;have c1:=h.cell 1;simp only[zX,zK,zV]at c0 c1;have k0:=mH.cell c0 H.lt;have k1:=mH.cell c1 H.lt;clear h ho n1 c0 c1 H;go_enter Tryz.func87,Tryz.ntmps87;go_upto_region 3 with fail;refine nR (C:=fun w'=>∃x:mH w,w'=x.w) [([0,1,2,3,5,6,7,8],4),([9],10)] [11] zBM zBM (fun _ _ d _ _ h=>by cases d<;>exact h) ⟨⟨w.drew,(zB _ _).drew⟩,rfl⟩ ?_;intro wd hwd;have BD:=zW (show Below w.heap.size w wd by rw[hwd];exact(zB _ _).drew);clear hwd;refine nD zBN zBB ?_;repeat(go_big_quiet_step (fail))
 refine zM ?_;refine nK zBB ?_;intro K hK;go_wp2_with fail;refine(LS A L.length c L wd (HH.out.1.below BD.out) rfl HH.out.2).mono ?_;rintro e w1 ⟨v,rfl,ho,hb⟩;obtain⟨A',c',rfl⟩:=vQ ho;have B1:=zW (BD.out.trans (hb.mono BD.out.size));have S:=zW ((St.new ho rfl hb.size k).mono BD.out.size);have B:=zW (B1.out.alloc B1.out.size (.cells #[.slice A' L.length c',.int .u64 (k:Int)] 236));clear ho hb;simp only[];refine hK _ _ ⟨⟨w1,B1.out⟩,rfl⟩ ?_;clear hK K;refine nD zBN zBB ?_;repeat(go_big_quiet_step (fail))
 refine zM ?_;refine nK zBB ?_;intro K hK;go_wp2_with fail;refine hK _ _ ⟨⟨_,B.out⟩,rfl⟩ ?_;clear hK K;refine cT zBN ?_;repeat(go_big_quiet_step (fail))
 refine zM ?_;go_wp2_with fail;go_ret;exact⟨_,rfl,S.out,B.out⟩
theorem zMX(A:Option Addr)(n c:Nat)(L:List Int)(m:Int)(w:World)(H:Rd w A L)(hn:L.length=n)(n1:n≤1000000)(m1:m≤9223372036854775807):
  Calls Tryz.prog 156 #[.slice A n c,.int .i64 m] w fun e w'=>e=.returned (.int .u8 (rat L m))∧w=w':=by
 by_cases h0:m<0
 ·have E:=zW (zMJ L m h0);clear H hn n1 m1;exact zFL
 ·obtain⟨k,rfl⟩:∃k:Nat,m=(k:Int):=⟨m.toNat,by omega⟩;by_cases hz:n=0
  ·have E:=zW ((VH L k).trans (H7 L (hn.trans hz) k));subst hz;clear H hn n1 m1;exact zFL
  ·obtain⟨j,hj⟩:∃j,k%L.length=j:=⟨_,rfl⟩;have E:=zW (VH L k);have hl:k%L.length<L.length:=zVO L k zBY;obtain⟨ad,rfl,hb,c1⟩:=H.at_ hl;rw[zQG L k hl,hj]at c1;rw[hj,hn]at hl;have u1:((k:Int)%(n:Int))=(j:Int):=by rw[←hj,hn];rfl
   have u2:Int.tmod (k:Int) (n:Int)=(j:Int):=by rw[qT zBY];exact u1
   have hzI:¬(n:Int)=0:=zBY;clear hj hb H hn;exact zFL
theorem zXH(K L:Nat→Bool)(n:Nat)(d r:Bool)(hn:n<16)(hL:L=fun j=>if j=n then d else K j)(hr:r=(K n&& !d))(w:World):
  Calls Tryz.prog 102 #[.agg (kc K),.agg #[.int .i64 (n:Int),.bool d]] w fun x w'=>x=.returned (.tuple #[.agg (kc L),.bool r])∧Below w.heap.size w w':=by
 have HA:=zW hL;have HR:=zW hr;clear hL hr;have hz:=JP;have n0:0≤(n:Int):=zBY;have n1:¬(n:Int)<0:=zBY;have n2:(n:Int)<16:=zBY;go_enter Tryz.func102,Tryz.ntmps102;go_upto_region 1 with fail;have P:=zW (((KB.new w K).alloc (.cells #[.int .i64 (n:Int),.bool d] 103)).alloc (.cells (kc up) 75));have E:=zW ((Blk.new (w.alloc (.cells (kc K) 75)) 103 #[.int .i64 (n:Int),.bool d]).alloc (.cells (kc up) 75));have R:=zW (KB.new ((w.alloc (.cells (kc K) 75)).alloc (.cells #[.int .i64 (n:Int),.bool d] 103)) up);have B:=zW (((yD w (.cells (kc K) 75)).alloc zBT (.cells #[.int .i64 (n:Int),.bool d] 103)).alloc zBS (.cells (kc up) 75));simp only[zR]at P E R B;generalize ((w.alloc (.cells (kc K) 75)).alloc (.cells #[.int .i64 (n:Int),.bool d] 103)).alloc (.cells (kc up) 75)=w1 at*;clear hz;have c1:=E.out.cell 0;have c2:=E.out.cell 1;simp at c1 c2;obtain⟨p,hp⟩:∃p,w.heap.size=p:=⟨_,rfl⟩;rw[hp]at P E R B c1 c2⊢;have HP:=zW hp;clear hp;have f3:=P.out.fz n;cases hv:K n
 all_goals
  rw[hv]at HR
  have c3:=P.out.cell hn
  rw[hv]at c3
  clear hv
  go_upto_region 5 with fail
  refine zN ?_
  have P1:=zW (P.out.put hn d)
  have R1:=zW (R.out.other (g:=p) zBY n (.bool d))
  have B1:=zW (B.out.setCell (p:=⟨p,n,none⟩) (zH _) (.bool d))
  generalize w1.setCell ⟨p,n,none⟩ (.bool d)=w2 at*
  clear c1 c2 c3 f3
  rw[←HA.out]at P1
  clear HA P R B E
  refine lP wV P1.out (vF _) rfl (.tmp 2) rfl zBR ?_
  simp only[Act.put,zQ,zZ,zJ]
  iterate 3 go_step
  refine lE (ds:=kc L) wV R1.out (vF _) (vF _) (iX _) rfl (.tmp 4) (.tmp 32) rfl zBL zBL ?_
  have R2:=zW (R1.out.store L)
  have B2:=zW (eT B1.out (by omega:p≤p+1+1) (kc L))
  generalize w2.setRow (p+1+1) (kc L)=w3 at*
  iterate 8 go_step
  exact zT (rR rfl _ _ (p+1+1) _ _ _ _ _ rfl rfl R2.out Tryz.underlying75 rfl (by rw[wV.i,vF])) rfl ⟨by rw[HR.out];simp,by rw[HP.out];exact B2.out⟩
theorem zXN(K:Nat→Bool)(e:Ev)(hk:¬(0≤e.k∧e.k≤15))(w:World):
  Calls Tryz.prog 102 #[.agg (kc K),.agg (ec e)] w fun x w'=>x=.returned (.tuple #[.agg (kc (ap K e)),.bool (rel K e)])∧Below w.heap.size w w':=by
 rw[ap_out hk,zL5 hk];obtain⟨n,d⟩:=e;simp only at hk;have hz:=JP;unfold ec;simp only;rcases(show n<0∨16≤n by omega)with n1|n1
 all_goals
  clear hk
  go_enter Tryz.func102,Tryz.ntmps102
  go_upto_region 1 with fail
  have P:=zW (((KB.new w K).alloc (.cells #[.int .i64 n,.bool d] 103)).alloc (.cells (kc up) 75))
  have E:=zW ((Blk.new (w.alloc (.cells (kc K) 75)) 103 #[.int .i64 n,.bool d]).alloc (.cells (kc up) 75))
  have R:=zW (KB.new ((w.alloc (.cells (kc K) 75)).alloc (.cells #[.int .i64 n,.bool d] 103)) up)
  have B:=zW (((yD w (.cells (kc K) 75)).alloc zBT (.cells #[.int .i64 n,.bool d] 103)).alloc zBS (.cells (kc up) 75))
  simp only[zR]at P E R B
  generalize ((w.alloc (.cells (kc K) 75)).alloc (.cells #[.int .i64 n,.bool d] 103)).alloc (.cells (kc up) 75)=w1 at*
  clear hz
  have c1:=E.out.cell 0
  simp at c1
  obtain⟨p,hp⟩:∃p,w.heap.size=p:=⟨_,rfl⟩
  rw[hp]at P E R B c1⊢
  have HP:=zW hp
  clear hp
  go_upto_region 2 with fail
  refine zN ?_
  clear c1
  refine lP wV P.out (vF _) rfl (.tmp 2) rfl zBR ?_
  simp only[Act.put,zQ,zZ,zJ]
  refine lE (ds:=kc K) wV R.out (vF _) (vF _) (iX _) rfl (.tmp 4) (.tmp 15) rfl zBL zBL ?_
  have R2:=zW (R.out.store K)
  have B2:=zW (eT B.out (by omega:p≤p+1+1) (kc K))
  generalize w1.setRow (p+1+1) (kc K)=w3 at*
  iterate 8 go_step
  exact zT (rR rfl _ _ (p+1+1) _ _ _ _ _ rfl rfl R2.out Tryz.underlying75 rfl (by rw[wV.i,vF])) rfl ⟨by simp,by rw[HP.out];exact B2.out⟩
theorem zXG(K:Nat→Bool)(e:Ev)(w:World):
  Calls Tryz.prog 102 #[.agg (kc K),.agg (ec e)] w fun x w'=>x=.returned (.tuple #[.agg (kc (ap K e)),.bool (rel K e)])∧Below w.heap.size w w':=by
 rcases key_or e.k with⟨n,h,hn⟩|h
 ·obtain⟨k,d⟩:=e;simp only at h;subst h;exact zXH K _ n d _ hn (ap_in rfl hn) (rel_in rfl hn) w
 ·exact zXN K e h w
theorem zWH:(Tryz.prog.info? 3).map (fun i=>(i.zero,i.size,i.bytes))=some (some (.int .i64 0),1,8):=by kernel_rfl
theorem Blk.not_row{b base size k:Nat}{T e:TypeId}{cs:Array Value}{w:World}{v:Value}{xs:List Value}(h:Blk b T cs w)(hne:T≠e)(hr:w.ownsRow base e size v k xs):some b≠v.ownBlock:=by
 rcases hr.2 with⟨rfl,_⟩|⟨g,cap,cur,rfl,_,hgb,_⟩
 ·simp[Value.ownBlock]
 ·intro e';obtain rfl:b=g:=by simpa [Value.ownBlock]using e'
  have:some (Obj.cells cs T (0,0))=some (.cells cur e (0,0)):=(show w.heap[b]?=_ from h).symm.trans hgb;injection this with this
  injection this with _ h1
  exact hne h1
theorem LD{w w':World}(hb:Below w.heap.size w w'):w.grownBy w' none:=⟨hb.os,hb.tape,hb.output,hb.size,fun k hk _=>hb.block k hk⟩
theorem T9{w w':World}{base size k:Nat}{e:TypeId}{v:Value}{xs:List Value}(h:w.ownsRow base e size v k xs)(hb:Below w.heap.size w w'):w'.ownsRow base e size v k xs:=
 h.kept (LD hb) (by
  rcases h.2 with⟨rfl,_⟩|⟨g,cap,cur,rfl,_⟩
  ·exact .inl rfl
  ·exact .inr (by simp[Value.ownBlock]))
structure Rec(n p r:Nat)(K:Nat→Bool)(L:List Int)(w:World):Prop where
 pad:KB p K w
 list:∃v,Boxed w r 38 v∧w.ownsRow n 3 1 v L.length (L.map (Value.int .i64))
theorem Rec.step{n p r:Nat}{K:Nat→Bool}{L:List Int}{w w':World}(h:Rec n p r K L w)(hb:Below w.heap.size w w'):Rec n p r K L w':=by
 obtain⟨h1,v,h2,h3⟩:=h;exact⟨h1.step hb,v,(hb.block r h2.lt).trans h2,T9 h3 hb⟩
theorem i7(w:World)(b:Nat)(cs:Array Value):w.grownBy (w.setRow b cs) (some b):=
 ⟨rfl,rfl,rfl,by simp[World.setRow],fun k _ hk=>zA w b k cs (fun e=>hk (by rw[e]))⟩
theorem KB.ne_box{p r:Nat}{K:Nat→Bool}{w:World}{v:Value}(h:KB p K w)(hv:Boxed w r 38 v):r≠p:=by
 rintro rfl;have:some (Obj.cells (kc K) 75 (0,0))=some (.cells #[v] 38 (0,0)):=(show w.heap[r]?=_ from h).symm.trans hv;injection this with this
 injection this with _ h1
 exact absurd h1 zBH
theorem Blk.appended{b r base size k:Nat}{T e:TypeId}{cs:Array Value}{w w1:World}{v u:Value}{xs:List Value}{tmp:Obj}(h:Blk b T cs w)(hne:T≠e)(hr:w.ownsRow base e size v k xs)(hg:(w.alloc tmp).grownBy w1 v.ownBlock)(hb:b≠r):Blk b T cs (w1.setCell ⟨r,0,none⟩ u):=
 Blk.other (show Blk b T cs w1 from(hg.block b (by have:=h.lt;simp;omega) (h.not_row hne hr)).trans (h.alloc tmp)) hb 0 u
theorem Rec.store{n p r:Nat}{K K':Nat→Bool}{L:List Int}{w:World}(h:Rec n p r K L w):Rec n p r K' L (w.setRow p (kc K')):=by
 obtain⟨h1,v,h2,h3⟩:=h;exact⟨h1.store K',v,(zA w p r _ (h1.ne_box h2)).trans h2,h3.kept (i7 w p _) (.inr fun e=>Blk.not_row h1 zBH h3 e.symm)⟩
theorem zYA(n p r:Nat)(K K':Nat→Bool)(rl:Bool)(k:Int)(d:Bool)(L L':List Int)(w:World)(hK:K'=ap K ⟨k,d⟩)(hr:rl=rel K ⟨k,d⟩)(hL':L'=if rl then L++[k]else L)(np:n≤p)(nr:n≤r)(hn:n≤w.heap.size)(hL:L.length≤100000)(H:Rec n p r K L w)(s:Nat)(K0:Nat→Bool)(hs:s≠p)(HX:KB s K0 w):
  Calls Tryz.prog 112 #[.agg #[.int .i64 k,.bool d],.pointer (some ⟨p,0,none⟩),.pointer (some ⟨r,0,none⟩)] w fun x w'=>x=.returned (.tuple #[])∧(Rec n p r K' L' w'∧KB s K0 w')∧Below n w w':=by
 obtain⟨i0,hi,hz0,hz1,hz2⟩:=lW zWH;have AP:=zW fun w=>(hK▸hr▸zXG K ⟨k,d⟩ w:Calls Tryz.prog 102 #[.agg (kc K),.agg (ec ⟨k,d⟩)] w fun x w'=>x=.returned (.tuple #[.agg (kc K'),.bool rl])∧Below w.heap.size w w');have HR:=zW (H.step (yD w (.cells #[.int .i64 k,.bool d] 103)));have B:=zW ((zB n w).alloc hn (.cells #[.int .i64 k,.bool d] 103));have E:=zW (Blk.new w 103 #[.int .i64 k,.bool d]);have N1:=zW (zY np nr);have HL:=zW hL';have X:=zW (HX.step (yD w (.cells #[.int .i64 k,.bool d] 103)));clear HX;clear H hK hr np nr hL';go_enter Tryz.func112,Tryz.ntmps112;go_upto_region 1 with fail;have hn1:n≤(w.alloc (.cells #[.int .i64 k,.bool d] 103)).heap.size:=by simp;omega
 generalize w.alloc (.cells #[.int .i64 k,.bool d] 103)=w1 at*;obtain⟨q,hq⟩:∃q,w.heap.size=q:=⟨_,rfl⟩;rw[hq]at E⊢;clear hq hn;refine zN ?_;refine lP wV HR.out.pad (vF _) rfl (.tmp 1) rfl zBR ?_;simp only[Act.put,zQ,zZ,zJ];refine lP aggEv E.out rfl rfl (.tmp 3) rfl zBR ?_;simp only[Act.put,zQ,zZ,zJ];go_wp2_with fail;refine(AP.out _).mono ?_;rintro e w2 ⟨rfl,b1⟩;have HR:=zW (HR.out.step b1);have E:=zW (E.out.step b1);have X:=zW (X.out.step b1);have B:=zW (B.out.trans (b1.mono hn1));have hn2:n≤w2.heap.size:=zD hn1 b1.size;clear b1 hn1 AP;simp only[];go_at_K
 iterate 10 go_step
 refine nY (ds:=kc K') wV OT (vF _) (vF _) (iX _) rfl rfl rfl (.tmp 4) (.tmp 10) rfl zBL zBL ?_;simp only[Act.put,zQ,zZ,zJ];have Q:=zW (KB.new w2 K');have BA:=yD w2 (.cells (kc K') 75);have HR:=zW (HR.out.step BA);have E:=zW (E.out.step BA);have X:=zW (X.out.step BA);have B:=zW (B.out.trans (BA.mono hn2));have QN:=zW hn2;have hn3:n≤(w2.alloc (.cells (kc K') 75)).heap.size:=by simp;omega
 obtain⟨g,hg⟩:∃g,w2.heap.size=g:=⟨_,rfl⟩;generalize w2.alloc (.cells (kc K') 75)=w3 at*;rw[hg]at Q QN⊢;clear hg BA hn2;obtain⟨hp,v,hv,hrow⟩:=HR.out;have P:=zW hp;clear hp HR;have c1:=E.out.cell 0;simp at c1;have cv:=hv.cell;have fv:=hv.frozen;have nb:=N1.out.2;cases rl
 ·have HS:=zW (show Rec n p r K L w3 from⟨P.out,v,hv,hrow⟩);clear hv hrow nb;go_upto_region 4 with fail;exact zDD
 ·go_upto_region 4 with(at_builtin;refine lG _ rfl _ _ 38 rfl n 3 i0 (.int .i64 0) 1 8 Tryz.underlying38 hi hz0 hz1 hz2 rfl zBH _ _ _ rfl (hrow.alloc _) ⟨_,0,none⟩ 1 1 [.int .i64 k] rfl rfl (cell_one_new _ _ _) zRK zB6 zBY zBS ?_;intro v' w4 hown' hgrow _;obtain⟨g',cap',rfl⟩:=ownsRow_succ hown';obtain⟨hv1,hv2,hr2,hk2,hb2⟩:=hv.appended zBH hrow hn3 nb hown' hgrow;have hc1:=hv1.cell;have hf1:=hv1.frozen);have hg':(w3.alloc (.cells #[.int .i64 k] 3)).grownBy w4 v.ownBlock:=hgrow;have P:=zW (show KB p K _ from Blk.appended (u:=.slice (some ⟨g',0,none⟩) (L.length+1) cap') P.out zBH hrow hg' (P.out.ne_box hv).symm);have X:=zW (show KB s K0 _ from Blk.appended (u:=.slice (some ⟨g',0,none⟩) (L.length+1) cap') X.out zBH hrow hg' (X.out.ne_box hv).symm);have Q:=zW (show KB g K' _ from Blk.appended (u:=.slice (some ⟨g',0,none⟩) (L.length+1) cap') Q.out zBH hrow hg' (Q.out.ne_box hv).symm);have HS:=zW (show Rec n p r K (L++[k]) _ from⟨P.out,_,hv2,by simpa using hr2⟩);have B:=zW (B.out.trans (hb2.mono (zH _)));clear hv hrow nb hv1 hv2 hr2 hk2 hb2 hc1 hf1 hg' hgrow hown' cv fv c1;generalize w4.setCell ⟨r,0,none⟩ (.slice (some ⟨g',0,none⟩) (L.length+1) cap')=w5 at*;exact zDD
def eS(p r:Nat)(K:Nat→Bool)(v:Value):Type:={w:World//KB p K w∧w.cell? ⟨r,0,none⟩=some v}
def eS.w{p r:Nat}{K:Nat→Bool}{v:Value}(x:eS p r K v):World:=x.1
theorem eS.pad{p r:Nat}{K:Nat→Bool}{v:Value}(x:eS p r K v):KB p K x.w:=x.2.1
theorem eS.cell{p r:Nat}{K:Nat→Bool}{v:Value}(x:eS p r K v):x.w.cell? ⟨r,0,none⟩=some v:=x.2.2
def Alls(K:Nat→Bool)(L:List Int)(w:World)(x:Ending)(w':World):Prop:=(∃A c,x=.returned (.tuple #[.agg (kc K),.slice A L.length c])∧Row (Value.int .i64) w' A L)∧Below w.heap.size w w'
theorem zGL(K K1:Nat→Bool)(L1:List Int)(A:Option Addr)(n c:Nat)(l:List Ev)(w:World)(H:Evs w A n l)(hn:n≤1000)(hK:K1=aft K l)(hL:L1=pW K l):
  Calls Tryz.prog 50 #[.agg (kc K),.slice A n c] w (Alls K1 L1 w):=by
 have HK:=zW hK;have HL:=zW hL;have hz:=JP;have hl:l.length=n:=H.len;have HE:=zW H;clear hK hL H;have HZ:=zW hl;clear hl;have P:=zW (((KB.new w K).alloc (.cells (kc up) 75)).alloc (.cells #[.slice none 0 0] 38));have R:=zW ((KB.new (w.alloc (.cells (kc K) 75)) up).alloc (.cells #[.slice none 0 0] 38));have V:=zW (kX ((w.alloc (.cells (kc K) 75)).alloc (.cells (kc up) 75)) 38 (.slice none 0 0));have B:=zW (((yD w (.cells (kc K) 75)).alloc zBT (.cells (kc up) 75)).alloc zBS (.cells #[.slice none 0 0] 38));simp only[zR]at P R V B;go_enter Tryz.func50,Tryz.ntmps50;go_upto_region 2 with fail;generalize ((w.alloc (.cells (kc K) 75)).alloc (.cells (kc up) 75)).alloc (.cells #[.slice none 0 0] 38)=w1 at*;clear hz;obtain⟨p,hp⟩:∃p,w.heap.size=p:=⟨_,rfl⟩;have HP:=zW hp;rw[hp]at P R V B⊢;clear hp;go_wp2;go_loopw [13] (fun i wr=>∃k:Nat,k≤n∧i=.int .i64 k∧Rec p p (p+1+1) (aft K (l.take k)) (pW K (l.take k)) wr∧KB (p+1) up wr∧Below p w wr) (fun i _=>n-(intOf i).toNat)
 case atStart=>exact⟨0,qE _,rfl,⟨P.out,_,V.out,qO _ _ _ _⟩,R.out,B.out⟩
 case round=>
  clear P R V B
  obtain⟨k,hk,rfl,hrec,hx,hb⟩:=hrel
  have HX:=zW hx
  clear hx
  by_cases hlt:k<n
  ·have hb2:Below w.heap.size w wr:=by rw[HP.out];exact hb
   have hkl:k<l.length:=by rw[HZ.out];exact hlt
   obtain⟨b,o,hA,hbl,c1,c2,ok⟩:=(HE.out.step hb2).at_ k hkl
   subst hA
   have k1:(k:Int)<(n:Int):=zBY
   have k0:0≤(k:Int):=zBY
   obtain⟨e,he⟩:∃e,e=l[k]:=⟨_,rfl⟩
   rw[←he]at c1 c2
   have SA:=zW (he▸MT K l k hkl)
   have SL:=zW (he▸zK7 K l k hkl)
   have HB:=zW hb
   have HR:=zW hrec
   clear he ok hb hb2 hrec hkl
   obtain⟨ek,ed⟩:=e
   simp only at c1 c2
   have b3:=yD wr (.cells #[.int .i64 ek,.bool ed] 103)
   have HR:=zW (HR.out.step b3)
   have HX:=zW (HX.out.step b3)
   have hz:p≤wr.heap.size:=by have:=HB.out.size;have:=HP.out;omega
   have HB:=zW (HB.out.trans (b3.mono hz))
   have hz3:p≤(wr.alloc (.cells #[.int .i64 ek,.bool ed] 103)).heap.size:=by simp;omega
   clear b3
   have hln:(pW K (l.take k)).length≤100000:=by
    have h1:=zK8 K (l.take k);rw[qV]at h1;omega
   go_wp2_with fail
   clear c1 c2
   generalize wr.alloc (.cells #[.int .i64 ek,.bool ed] 103)=wq at*
   refine(zYA p p (p+1+1) (aft K (l.take k)) (aft K (l.take (k+1))) (rel (aft K (l.take k)) ⟨ek,ed⟩) ek ed (pW K (l.take k)) (pW K (l.take (k+1))) wq SA.out rfl (by rw[SL.out];unfold one;split<;>simp) (zH _) zBY hz3 hln HR.out (p+1) up zBY HX.out).mono ?_
   rintro e w5 ⟨rfl,⟨h5,x5⟩,b5⟩
   have HR:=zW h5
   have HX:=zW x5
   have HB:=zW (HB.out.trans b5)
   clear h5 x5 b5 hz3 hln
   go_wp2
   go_roundw
   case rel=>exact⟨k+1,by omega,by go_num,HR.out,HX.out,HB.out⟩
   case measure=>simp[intOf];omega
  ·have hkn:k=n:=zBY
   have k1:¬(k:Int)<(n:Int):=zBY
   have e1:l.take k=l:=qY (by rw[HZ.out];omega)
   rw[e1,←HK.out,←HL.out]at hrec
   obtain⟨h1,v,h2,h3⟩:=hrec
   have P:=zW h1
   have V:=zW h2
   have O:=zW h3
   have B:=zW hb
   clear e1 h1 h2 h3 hb hkn HK HL HE HZ
   go_upto_region 8 with fail
   clear k1
   have hc:=Boxed.cell V.out
   haveI:Nonempty (eS p (p+1+1) K1 v):=⟨⟨wr,P.out,hc⟩⟩
   have C0:=zW (show∃x:eS p (p+1+1) K1 v,wr.drew=x.w from⟨⟨wr.drew,P.out.drew,hc⟩,rfl⟩)
   clear hc
   have KP:=zW (fun(w':World) (hw:∃u:eS p (p+1+1) K1 v,w'=u.w)=>show KB p K1 w' by obtain⟨u,rfl⟩:=hw;exact u.pad)
   have kv:∀u:eS p (p+1+1) K1 v,u.w.cell? ⟨p+1+1,0,none⟩=some v:=fun u=>u.cell
   refine nR (C:=fun w'=>∃u:eS p (p+1+1) K1 v,w'=u.w) [([0,1],2)] [3] zBM zBM (fun _ _ d _ _ h=>by cases d<;>exact h) C0.out ?_
   intro wd hwd
   have B6:=zW (show Below wr.heap.size wr wd by rw[hwd];exact(zB _ _).drew)
   have C6:=zW (show∃x:eS p (p+1+1) K1 v,wd=x.w by rw[hwd];exact C0.out)
   clear hwd C0
   refine nD zBN zBG ?_
   repeat(first
    |(refine l9 wV KP.out (vF _) ?_ (.tmp 2) ?_ ?_ ?_;(focus rfl);(focus rfl);(focus(simp[Act.eval];done));simp only[Act.put,zQ,zZ,zJ])
    |go_big_quiet_step (rfl))
   refine zM ?_
   refine nK zBB ?_
   intro K8 hK
   have X6:=zW (HX.out.step B6.out)
   have O6:=zW (T9 O.out B6.out)
   have P6:=zW (P.out.step B6.out)
   have V6:=zW (show Boxed wd (p+1+1) 38 v from(B6.out.block _ V.out.lt).trans V.out)
   have D6:=zW (B.out.trans (B6.out.mono (by have:=P.out.lt;omega)))
   refine nH (ds:=kc K1) wV X6.out (vF _) (vF _) (iX _) (.tmp 4) (.tmp 21) rfl zBL zBL ?_
   have X8:=zW (X6.out.store K1)
   have O8:=zW (O6.out.kept (i7 wd (p+1) (kc K1)) (.inr fun e=>Blk.not_row X6.out zBH O6.out e.symm))
   have D8:=zW (eT D6.out (qC p) (kc K1))
   have C8:=zW (show∃x:eS p (p+1+1) K1 v,wd.setRow (p+1) (kc K1)=x.w from⟨⟨_,P6.out.otherRow zBY _,Boxed.cell ((zA wd (p+1) (p+1+1) _ zBY).trans V6.out)⟩,rfl⟩)
   refine hK _ _ C8.out ?_
   clear hK K8
   simp only[Act.put,zQ,zZ,zJ]
   generalize wd.setRow (p+1) (kc K1)=w8 at*
   refine cT zBN ?_
   repeat(go_big_quiet_step (rfl))
   refine zM ?_
   iterate 3 go_step
   obtain⟨A8,c8,rfl⟩:=vQ O8.out
   exact zT (rR rfl _ _ (p+1) _ _ _ _ _ rfl rfl X8.out Tryz.underlying75 rfl (by rw[wV.i,vF])) rfl ⟨⟨A8,c8,rfl,Row.of_own O8.out⟩,by rw[HP.out];exact D8.out⟩
def aN(F:Nat→Int)(d:Int):Array Value:=((List.range 17).map fun j=>Value.int .i64 (if j<16 then F j else d)).toArray
theorem uP(F:Nat→Int)(d:Int):(aN F d).size=17:=by simp[aN]
theorem xG(F:Nat→Int)(d:Int)(j:Nat)(hj:j<17):(aN F d)[j]?=some (.int .i64 (if j<16 then F j else d)):=by simp[aN,hj]
theorem W9(F:Nat→Int)(d:Int)(j:Nat)(hj:j<16):(aN F d)[j]?=some (.int .i64 (F j)):=by rw[xG _ _ _ zBY,zG hj]
theorem NS(F:Nat→Int)(d:Int):(aN F d)[16]?=some (.int .i64 d):=by simp[aN]
theorem zKZ(F:Nat→Int)(d:Int):cL (aN F d):=by
 unfold cL;rw[jV];intro v hv;simp only[aN,lF,jR,j8]at hv;obtain⟨j,_,rfl⟩:=hv;rfl
theorem JI{F G:Nat→Int}{d e:Int}(h:∀j,j<16→F j=G j)(he:d=e):aN F d=aN G e:=by
 subst he;apply qH
 intro j
 by_cases hj:j<17
 ·rw[xG _ _ _ hj,xG _ _ _ hj];by_cases h2:j<16
  ·rw[zG h2,zG h2,h j h2]
  ·rw[zL h2,zL h2]
 ·rw[zE zTF,zE zTF]
theorem RK(F:Nat→Int)(d e:Int):(aN F d).setIfInBounds 16 (.int .i64 e)=aN F e:=by
 apply qH
 intro j
 rw[jJ,uP];by_cases h1:16=j
 ·subst h1;rw[zG rfl,zG zBY,NS]
 ·rw[zL h1];by_cases h2:j<17
  ·rw[xG _ _ _ h2,xG _ _ _ h2,zG zBY,zG zBY]
  ·rw[zE zTF,zE zTF]
theorem W8(F:Nat→Int)(d:Int)(k:Nat)(hk:k<16)(v:Int):(aN F d).setIfInBounds k (.int .i64 v)=aN (fun j=>if j=k then v else F j) d:=by
 apply qH
 intro j
 rw[jJ,uP];by_cases h1:k=j
 ·subst h1;rw[zG rfl,zG zBY,W9 _ _ _ hk,zG rfl]
 ·rw[zL h1];by_cases h2:j<17
  ·rw[xG _ _ _ h2,xG _ _ _ h2];by_cases h3:j<16
   ·rw[zG h3,zG h3,zL (fun e:j=k=>h1 e.symm)]
   ·rw[zL h3,zL h3]
  ·rw[zE zTF,zE zTF]
def stF(L:List Int)(j:Nat):Int:=L.getD j 0
def nS(L:List Int):Array Value:=aN (stF L) L.length
theorem JO(L:List Int)(j:Nat)(h:j<L.length):stF L j=L[j]:=by simp[stF,h]
theorem iT(L:List Int)(j:Nat)(h:L.length≤j):stF L j=0:=by simp[stF,h]
theorem nQ(L:List Int):(nS L).size=17:=uP _ _
theorem yF(L:List Int):cL (nS L):=zKZ _ _
theorem zKQ(L:List Int)(a:Int)(h:L.length<16):((nS L).setIfInBounds L.length (.int .i64 a)).setIfInBounds 16 (.int .i64 ((L.length:Int)+1))=nS (L++[a]):=by
 unfold nS;rw[W8 _ _ _ h,RK];refine JI (fun j hj=>?_) zBT;by_cases h1:j=L.length
 ·subst h1;simp[stF]
 ·rw[zL h1];by_cases h2:j<L.length
  ·rw[JO _ _ h2,JO _ _ zBS,List.getElem_append_left h2]
  ·rw[iT L _ zBY,iT _ _ zBS]
theorem zLD(L:List Int)(a:Int)(h:L.length<16):((nS (L++[a])).setIfInBounds L.length (.int .i64 0)).setIfInBounds 16 (.int .i64 (L.length:Int))=nS L:=by
 unfold nS;rw[W8 _ _ _ h,RK];refine JI (fun j hj=>?_) rfl;have hl:(L++[a]).length=L.length+1:=zBT;by_cases h1:j=L.length
 ·subst h1;rw[zG rfl,iT _ _ (zH _)]
 ·rw[zL h1];by_cases h2:j<L.length
  ·rw[JO _ _ h2,JO _ _ zBY,List.getElem_append_left h2]
  ·rw[iT L _ zBY,iT _ _ zBY]
theorem xE:xX Tryz.prog 62 17:=⟨⟨_,Tryz.underlying62,rfl⟩,by kernel_rfl⟩
theorem OL:cY Tryz.prog 62 (nS []):=by
 unfold cY;rw[nQ];kernel_rfl
theorem iM(w:World):(zeroValue 62).run Tryz.prog w=.ok (.agg (nS [])) w:=tK OL
theorem xF(w:World)(o:Obj):Below w.heap.size w (w.alloc o):=(zB _ _).alloc (zH _) _
def TB8(b:Nat)(L:List Int)(w:World):Prop:=Blk b 62 (nS L) w
section
variable {b:Nat} {L:List Int} {w w':World}
theorem TB8.lt(H:TB8 b L w):b<w.heap.size:=Blk.lt H
theorem TB8.step(H:TB8 b L w)(hb:Below w.heap.size w w'):TB8 b L w':=Blk.step H hb
theorem TB8.new(w:World)(L:List Int):TB8 w.heap.size L (w.alloc (.cells (nS L) 62)):=Blk.new _ _ _
theorem TB8.alloc(H:TB8 b L w)(o:Obj):TB8 b L (w.alloc o):=Blk.alloc H o
theorem TB8.other(H:TB8 b L w){g:Nat}(hg:b≠g)(o:Nat)(v:Value):TB8 b L (w.setCell ⟨g,o,none⟩ v):=Blk.other H hg o v
theorem TB8.otherRow(H:TB8 b L w){g:Nat}(hg:b≠g)(ds:Array Value):TB8 b L (w.setRow g ds):=Blk.otherRow H hg ds
theorem TB8.cell(H:TB8 b L w){j:Nat}(hj:j<16):w.cell? ⟨b,j,none⟩=some (.int .i64 (stF L j)):=(Blk.cell H j).trans (W9 _ _ _ hj)
theorem TB8.depth(H:TB8 b L w):w.cell? ⟨b,16,none⟩=some (.int .i64 (L.length:Int)):=(Blk.cell H 16).trans (NS _ _)
theorem TB8.fz(H:TB8 b L w)(j:Nat):w.frozen? ⟨b,j,none⟩=false:=Blk.frozen H j
theorem TB8.store(H:TB8 b L w)(M:List Int):TB8 b M (w.setRow b (nS M)):=Blk.store H _
theorem TB8.push(H:TB8 b L w)(h:L.length<16)(a:Int):TB8 b (L++[a]) ((w.setCell ⟨b,L.length,none⟩ (.int .i64 a)).setCell ⟨b,16,none⟩ (.int .i64 ((L.length:Int)+1))):=
 ((Blk.put H L.length (.int .i64 a)).put 16 _).eq (zKQ L a h)
theorem TB8.pop{a:Int}(H:TB8 b (L++[a]) w)(h:L.length<16):TB8 b L ((w.setCell ⟨b,L.length,none⟩ (.int .i64 0)).setCell ⟨b,16,none⟩ (.int .i64 (L.length:Int))):=
 ((Blk.put H L.length (.int .i64 0)).put 16 _).eq (zLD L a h)
theorem TB8.row(H:TB8 b L w)(h:L.length≤16):Row (Value.int .i64) w (some ⟨b,0,none⟩) L:=fun _=>⟨b,0,rfl,H.lt,fun j hj=>by
 rw[qB,H.cell zBY,JO _ _ hj]⟩
end
theorem aW{B:Nat}{a w:World}(h:Below B a w){g:Nat}(hg:B≤g)(cs:Array Value):Below B a (w.setRow g cs):=lU h hg cs
section
variable {ops:Array Oper} {C:World→Prop} {L:List Int}
end
def ac(P:Nat→Int)(p:Int):Array Value:=((List.range 17).map fun j=>Value.int .u8 (if j<16 then P j else p)).toArray
theorem cQ(P:Nat→Int)(p:Int):(ac P p).size=17:=by simp[ac]
theorem ZO(P:Nat→Int)(p:Int)(j:Nat)(hj:j<16):(ac P p)[j]?=some (.int .u8 (P j)):=by
 have h:j<17:=zBY;simp[ac,h,hj]
theorem WE(P:Nat→Int)(p:Int):(ac P p)[16]?=some (.int .u8 p):=by simp[ac]
theorem sY(P:Nat→Int)(p:Int)(j:Nat)(hj:j<17):(ac P p)[j]?=some (.int .u8 (if j<16 then P j else p)):=by simp[ac,hj]
theorem MF(P:Nat→Int)(p:Int):cL (ac P p):=by
 unfold cL;rw[jV];intro v hv;simp only[ac,lF,jR,j8]at hv;obtain⟨j,_,rfl⟩:=hv;rfl
theorem zY5(P:Nat→Int)(p q:Int):(ac P p).setIfInBounds 16 (.int .u8 q)=ac P q:=by
 apply qH
 intro j
 rw[jJ,cQ];by_cases h1:16=j
 ·subst h1;rw[zG rfl,zG zBY,WE]
 ·rw[zL h1];by_cases h2:j<17
  ·rw[sY _ _ _ h2,sY _ _ _ h2,zG zBY,zG zBY]
  ·rw[zE zTY,zE zTY]
theorem zXD(P Q:Nat→Int)(p:Int):m3 (ac P p) 0 (pc Q)=ac Q p:=by
 apply qH
 intro j
 unfold m3;rw[lZ,jP,qB,nX,zX];by_cases h2:j<16
 ·rw[qA (by simp[nX];omega),ZO _ _ _ h2,jY,rD _ _ h2]
 ·rw[qP (by simp[nX];omega),kO];simp only[kP,nX];rw[show 16+(j-16)=j by omega,jY];by_cases h3:j<17
  ·rw[sY _ _ _ h3,sY _ _ _ h3,zL h2,zL h2]
  ·rw[zE zTY,zE zTY]
theorem zQ3(P:Nat→Int)(p:Int):ac P p=((cC P++[p]).map (Value.int .u8)).toArray:=by
 apply qH
 intro j
 have e:((cC P++[p]).map (Value.int .u8)).toArray[j]?=((cC P++[p])[j]?).map (Value.int .u8):=by rw[←jK];exact zX
 rw[e];by_cases h2:j<16
 ·rw[ZO _ _ _ h2,qA zRG,zP zRG,yS _ _ h2];rfl
 ·by_cases h3:j<17
  ·obtain rfl:j=16:=by omega
   rw[WE,qP zRG,nV];rfl
  ·rw[zE zTY,qD (by simp[nV];omega)];rfl
theorem zGS(L:List Int)(p:Int):(splice ((cC mU++[p]).map (Value.int .u8)) 0 ((L.take 16).map (Value.int .u8))).toArray=ac (pad L) p:=by
 rw[aE,zQ3];congr 2
 apply kT
 intro j
 have ll:(L.take 16).length≤16:=by rw[qV];omega
 rw[wR _ _ _ (by simp[nV];omega),zL zBY,qB];by_cases h1:j<(L.take 16).length
 ·have h2:j<L.length:=by rw[qV]at h1;omega
  rw[zG h1,Nat.sub_zero,qA zRG,zP h1,jU,zP zRG,yS _ _ zBY,VT _ _ h2]
 ·rw[zL h1];by_cases h2:j<16
  ·rw[qA zRG,qA zRG,zP zRG,zP zRG,yS _ _ h2,yS _ _ h2,
    zQN _ _ (by rw[qV]at h1;omega)]
   rfl
  ·rw[qP zRG,qP zRG,nV,nV]
theorem fX:xX Tryz.prog 79 17:=⟨⟨_,Tryz.underlying79,rfl⟩,by kernel_rfl⟩
theorem zLM:cY Tryz.prog 79 (ac mU 0):=by
 unfold cY;rw[cQ];kernel_rfl
theorem zXC(w:World):(zeroValue 79).run Tryz.prog w=.ok (.agg (ac mU 0)) w:=tK zLM
theorem zXJ:Tryz.prog.built 79 [(1,.int .u8 64)]=some (ac mU 64):=by kernel_rfl
def AB(b:Nat)(P:Nat→Int)(p:Int)(w:World):Prop:=Blk b 79 (ac P p) w
section
variable {b:Nat} {P Q:Nat→Int} {p q:Int} {w w':World}
theorem AB.lt(H:AB b P p w):b<w.heap.size:=Blk.lt H
theorem AB.below(H:AB b P p w){n:Nat}(hb:Below n w w')(hn:b<n):AB b P p w':=Blk.below H hb hn
theorem AB.step(H:AB b P p w)(hb:Below w.heap.size w w'):AB b P p w':=Blk.step H hb
theorem AB.new(w:World)(P:Nat→Int)(p:Int):AB w.heap.size P p (w.alloc (.cells (ac P p) 79)):=Blk.new _ _ _
theorem AB.alloc(H:AB b P p w)(o:Obj):AB b P p (w.alloc o):=Blk.alloc H o
theorem AB.drew(H:AB b P p w):AB b P p w.drew:=H
theorem AB.otherRow(H:AB b P p w){g:Nat}(hg:b≠g)(ds:Array Value):AB b P p (w.setRow g ds):=Blk.otherRow H hg ds
theorem AB.other(H:AB b P p w){g:Nat}(hg:b≠g)(o:Nat)(v:Value):AB b P p (w.setCell ⟨g,o,none⟩ v):=Blk.other H hg o v
theorem AB.cell(H:AB b P p w){j:Nat}(hj:j<16):w.cell? ⟨b,j,none⟩=some (.int .u8 (P j)):=by rw[Blk.cell H,ZO _ _ _ hj]
theorem AB.pitch(H:AB b P p w):w.cell? ⟨b,16,none⟩=some (.int .u8 p):=by rw[Blk.cell H,WE]
theorem AB.fz(H:AB b P p w)(j:Nat):w.frozen? ⟨b,j,none⟩=false:=Blk.frozen H j
theorem AB.store(H:AB b P p w)(Q:Nat→Int)(q:Int):AB b Q q (w.setRow b (ac Q q)):=Blk.store H _
theorem AB.tune(H:AB b P p w)(q:Int):AB b P q (w.setCell ⟨b,16,none⟩ (.int .u8 q)):=(Blk.put H 16 _).eq (zY5 P p q)
theorem AB.rd(H:AB b P p w):Rd w (some ⟨b,0,none⟩) (cC P):=fun _=>by
 exact zF0
end
theorem aY{B:Nat}{a w:World}(h:Below B a w){g:Nat}(hg:B≤g)(cs:Array Value):Below B a (w.setRow g cs):=lU h hg cs
end
section
open Go.RowKit
theorem mR{b:Nat}{T:TypeId}{cs:Array Value}{W:World}(H:Blk b T cs W):∀w',(∃u:mH W,w'=u.w)→Blk b T cs w':=fun w' hw=>by obtain⟨u,rfl⟩:=hw;exact H.step u.below
end
section
open Go.RowKit Num
theorem gN{P:Program}{fn:Func}{p q r:Tmp}{ty:TypeId}(h:fn.results=#[.cell p ty,.tmp q,.tmp r])(tmps:Array Value)(w:World)(g:Nat)(t:TypeId)(cs:Array Value)(fr:Nat×Nat)(v u:Value)
  (hp:tmps.getD p undef=.pointer (some ⟨g,0,none⟩)) (hq:tmps.getD q undef=v) (hr:tmps.getD r undef=u) (hg:w.heap[g]?=some (.cells cs t fr)) {n:Nat} (A:xX P ty n) (hn:cs.size=n):
  (results fn tmps).run P w=.ok (.tuple #[.agg cs,v,u]) w:=by
 obtain⟨⟨d,hu,hd⟩,hi⟩:=A;have hp':tmps[p]?.getD undef=.pointer (some ⟨g,0,none⟩):=by simpa using hp
 have hq':tmps[q]?.getD undef=v:=by simpa using hq
 have hr':tmps[r]?.getD undef=u:=by simpa using hr
 have hl:=run_loadVar_row w g t ty cs fr d hg hu zTV (by rw[hi,hn]);simp[results,h,hp',hq',hr',asAddr,hl]
theorem eH(L:List Int)(hl:L.length≤16)(w:World):
  Calls Tryz.prog 110 #[.agg (nS L)] w fun e w'=>e=.returned (.int .i64 (L.length:Int))∧Below w.heap.size w w':=by
 have hI:(L.length:Int)≤16:=zBY;have h0:(0:Int)≤(L.length:Int):=zBY;have m1:max (L.length:Int) 0=(L.length:Int):=zBY;have m2:min (L.length:Int) 16=(L.length:Int):=zBY;clear hl;go_enter Tryz.func110,Tryz.ntmps110;go_upto_region 1 with fail;have T:=zW (TB8.new w L);have B:=zW (xF w (.cells (nS L) 62));generalize w.alloc (.cells (nS L) 62)=w1 at*;obtain⟨r,hr⟩:∃r,w.heap.size=r:=⟨_,rfl⟩;have HR:=zW hr;rw[hr]at T B⊢;clear hr;have c0:=T.out.depth;go_wp2;go_ret;exact⟨rfl,by rw[HR.out];exact B.out⟩
theorem dV(l e:Int)(w:World):
  Calls Tryz.prog 111 #[.int .i64 l,.int .i64 e] w fun x w'=>x=.returned (.func (.func 181) #[] #[.pointer (some ⟨w.heap.size,0,none⟩),.pointer (some ⟨w.heap.size+1,0,none⟩)])∧w'=(w.alloc (.cells #[.int .i64 l] 3)).alloc (.cells #[.int .i64 e] 49):=by
 go_enter Tryz.func111,Tryz.ntmps111;go_wp2;go_returns;exact⟨rfl,rfl⟩
def tG(d l e:Int):Int:=if d=l then e else 0
theorem sK(d l e:Int)(g h:Nat)(w:World)(c0:w.cell? ⟨g,0,none⟩=some (.int .i64 l))(c1:w.cell? ⟨h,0,none⟩=some (.int .i64 e)):
  Calls Tryz.prog 181 #[.int .i64 d,.pointer (some ⟨g,0,none⟩),.pointer (some ⟨h,0,none⟩)] w fun x w'=>x=.returned (.int .i64 (tG d l e))∧w=w':=by
 by_cases hd:d=l
 ·have E:=zW (show e=tG d l e by unfold tG;rw[zG hd]);go_enter Tryz.func181,Tryz.ntmps181;go_wp2;go_ret;exact⟨uA E.out,rfl⟩
 ·have E:=zW (show 0=tG d l e by unfold tG;rw[zL hd]);go_enter Tryz.func181,Tryz.ntmps181;go_wp2;go_ret;exact⟨uA E.out,rfl⟩
structure zY8(r n:Nat)(l e:Int)(w:World):Prop where
 c0:w.cell? ⟨n,0,none⟩=some (.int .i64 l)
 c1:w.cell? ⟨n+1,0,none⟩=some (.int .i64 e)
theorem zQT(l e:Int)(w:World):zY8 0 w.heap.size l e ((w.alloc (.cells #[.int .i64 l] 3)).alloc (.cells #[.int .i64 e] 49)):=⟨by simp,by simp⟩
theorem T6(L:List Int)(a:Int)(hl:L.length<16)(w:World):
  Calls Tryz.prog 49 #[.agg (nS L),.int .i64 a] w fun e w'=>e=.returned (.tuple #[.agg (nS (L++[a])),.int .i64 0])∧Below w.heap.size w w':=by
 have DP:=zW fun w=>eH L zBY w;have E:=zW (show tG (L.length:Int) 16 2=0 by unfold tG;rw[zL zBY]);have HL:=zW hl;have wr0:IntKind.i64.wrap ((L.length:Int)+1)=(L.length:Int)+1:=by rw[zU];omega
 have hI:(L.length:Int)<16:=zBY;have h0:(0:Int)≤(L.length:Int):=zBY;have hz:=iM;have wr:=zW wr0;clear wr0;go_enter Tryz.func49,Tryz.ntmps49;go_upto_region 1 with fail;have S:=zW ((TB8.new w L).alloc (.cells (nS []) 62));have R:=zW (TB8.new (w.alloc (.cells (nS L) 62)) []);have B:=zW ((xF w (.cells (nS L) 62)).alloc zBT (.cells (nS []) 62));rw[zR]at R;generalize (w.alloc (.cells (nS L) 62)).alloc (.cells (nS []) 62)=w1 at*;clear hz;obtain⟨r,hr⟩:∃r,w.heap.size=r:=⟨_,rfl⟩;have HR:=zW hr;rw[hr]at S R B⊢;clear hr;refine zN ?_;refine lP xE S.out (nQ _) rfl (.tmp 2) rfl zBR ?_;simp only[Act.put,zQ,zZ,zJ];have Z:=zW (jX (Nat.lt_of_succ_lt R.out.lt));go_wp2_with fail;refine(DP.out w1).mono ?_;rintro e w2 ⟨rfl,b2⟩;have S:=zW (S.out.step b2);have R:=zW (R.out.step b2);have B:=zW (B.out.trans (b2.mono Z.out));have Z:=zW (zD Z.out b2.size);clear b2;go_wp2_with fail;refine(dV 16 2 w2).mono ?_;rintro e w3 ⟨rfl,hw3⟩;have B3:=zW (show Below w2.heap.size w2 w3 by rw[hw3];exact(xF _ _).alloc zBT _);have T:=zW (show zY8 0 w2.heap.size 16 2 w3 by rw[hw3];exact zQT _ _ _);clear hw3;have S:=zW (S.out.step B3.out);have R:=zW (R.out.step B3.out);have B:=zW (B.out.trans (B3.out.mono Z.out));have CH:=zW (sK (L.length:Int) 16 2 w2.heap.size (w2.heap.size+1) w3 T.out.c0 T.out.c1);rw[E.out]at CH;clear T B3 Z;go_wp2_with fail;refine CH.out.mono ?_;rintro e w4 ⟨rfl,rfl⟩;clear CH;go_upto_region 5 with fail;have c0:=S.out.cell HL.out;have f0:=S.out.fz L.length;have c1:=S.out.depth;have f1:=S.out.fz 16;have S2:=zW (S.out.push HL.out a);have R2:=zW ((R.out.other (g:=r) zBY L.length (.int .i64 a)).other (g:=r) zBY 16 (.int .i64 ((L.length:Int)+1)));have B2:=zW ((B.out.setCell (p:=⟨r,L.length,none⟩) (zH _) (.int .i64 a)).setCell (p:=⟨r,16,none⟩) (zH _) (.int .i64 ((L.length:Int)+1)));clear S R B;go_upto_region 7 with fail;clear c0 c1 f0 f1;generalize (w3.setCell ⟨r,L.length,none⟩ (.int .i64 a)).setCell ⟨r,16,none⟩ (.int .i64 ((L.length:Int)+1))=w4 at*;refine zN ?_;refine lP xE S2.out (nQ _) rfl (.tmp 2) rfl zBR ?_;simp only[Act.put,zQ,zZ,zJ];refine lE (ds:=nS (L++[a])) xE R2.out (nQ _) (nQ _) (yF _) rfl (.tmp 4) (.tmp 24) rfl zBL zBL ?_;have R3:=zW (R2.out.store (L++[a]));have B3:=zW (aW B2.out (qC r) (nS (L++[a])));generalize w4.setRow (r+1) (nS (L++[a]))=w5 at*;iterate 7 go_step
 exact zF3
theorem zMK(L:List Int)(a:Int)(hl:L.length=16)(w:World):
  Calls Tryz.prog 49 #[.agg (nS L),.int .i64 a] w fun e w'=>e=.returned (.tuple #[.agg (nS L),.int .i64 2])∧Below w.heap.size w w':=by
 have DP:=zW fun w=>eH L zBY w;have E:=zW (show tG (L.length:Int) 16 2=2 by unfold tG;rw[zG zBY]);have wr0:=hl;have hz:=iM;have wr:=zW wr0;clear wr0 hl;go_enter Tryz.func49,Tryz.ntmps49;go_upto_region 1 with fail;have S:=zW ((TB8.new w L).alloc (.cells (nS []) 62));have R:=zW (TB8.new (w.alloc (.cells (nS L) 62)) []);have B:=zW ((xF w (.cells (nS L) 62)).alloc zBT (.cells (nS []) 62));rw[zR]at R;generalize (w.alloc (.cells (nS L) 62)).alloc (.cells (nS []) 62)=w1 at*;clear hz;obtain⟨r,hr⟩:∃r,w.heap.size=r:=⟨_,rfl⟩;have HR:=zW hr;rw[hr]at S R B⊢;clear hr;refine zN ?_;refine lP xE S.out (nQ _) rfl (.tmp 2) rfl zBR ?_;simp only[Act.put,zQ,zZ,zJ];have Z:=zW (jX (Nat.lt_of_succ_lt R.out.lt));go_wp2_with fail;refine(DP.out w1).mono ?_;rintro e w2 ⟨rfl,b2⟩;have S:=zW (S.out.step b2);have R:=zW (R.out.step b2);have B:=zW (B.out.trans (b2.mono Z.out));have Z:=zW (zD Z.out b2.size);clear b2;go_wp2_with fail;refine(dV 16 2 w2).mono ?_;rintro e w3 ⟨rfl,hw3⟩;have B3:=zW (show Below w2.heap.size w2 w3 by rw[hw3];exact(xF _ _).alloc zBT _);have T:=zW (show zY8 0 w2.heap.size 16 2 w3 by rw[hw3];exact zQT _ _ _);clear hw3;have S:=zW (S.out.step B3.out);have R:=zW (R.out.step B3.out);have B:=zW (B.out.trans (B3.out.mono Z.out));have CH:=zW (sK (L.length:Int) 16 2 w2.heap.size (w2.heap.size+1) w3 T.out.c0 T.out.c1);rw[E.out]at CH;clear T B3 Z;go_wp2_with fail;refine CH.out.mono ?_;rintro e w4 ⟨rfl,rfl⟩;clear CH;go_upto_region 4 with fail;refine zN ?_;refine lP xE S.out (nQ _) rfl (.tmp 2) rfl zBR ?_;simp only[Act.put,zQ,zZ,zJ];iterate 3 go_step
 refine lE (ds:=nS L) xE R.out (nQ _) (nQ _) (yF _) rfl (.tmp 4) (.tmp 15) rfl zBL zBL ?_;have R3:=zW (R.out.store L);have B3:=zW (aW B.out (qC r) (nS L));generalize w3.setRow (r+1) (nS L)=w5 at*;go_wp2_with fail;exact zF3
theorem pop_no(w:World):
  Calls Tryz.prog 190 #[.agg (nS [])] w fun e w'=>e=.returned (.tuple #[.agg (nS []),.int .i64 0,.int .i64 3])∧Below w.heap.size w w':=by
 have DP:=zW fun w=>eH [] zBT w;have E:=zW (show tG 0 0 3=3 by unfold tG;rw[zG rfl]);have wr0:=E;have hz:=iM;have wr:=zW wr0;go_enter Tryz.func190,Tryz.ntmps190;go_upto_region 1 with fail;have S:=zW ((TB8.new w []).alloc (.cells (nS []) 62));have R:=zW (TB8.new (w.alloc (.cells (nS []) 62)) []);have B:=zW ((xF w (.cells (nS []) 62)).alloc zBT (.cells (nS []) 62));rw[zR]at R;generalize (w.alloc (.cells (nS []) 62)).alloc (.cells (nS []) 62)=w1 at*;clear hz;obtain⟨r,hr⟩:∃r,w.heap.size=r:=⟨_,rfl⟩;have HR:=zW hr;rw[hr]at S R B⊢;clear hr;refine zN ?_;refine lP xE S.out (nQ _) rfl (.tmp 1) rfl zBR ?_;simp only[Act.put,zQ,zZ,zJ];have Z:=zW (jX (Nat.lt_of_succ_lt R.out.lt));go_wp2_with fail;refine(DP.out w1).mono ?_;rintro e w2 ⟨rfl,b2⟩;have S:=zW (S.out.step b2);have R:=zW (R.out.step b2);have B:=zW (B.out.trans (b2.mono Z.out));have Z:=zW (zD Z.out b2.size);clear b2;go_wp2_with fail;refine(dV 0 3 w2).mono ?_;rintro e w3 ⟨rfl,hw3⟩;have B3:=zW (show Below w2.heap.size w2 w3 by rw[hw3];exact(xF _ _).alloc zBT _);have T:=zW (show zY8 0 w2.heap.size 0 3 w3 by rw[hw3];exact zQT _ _ _);clear hw3;have S:=zW (S.out.step B3.out);have R:=zW (R.out.step B3.out);have B:=zW (B.out.trans (B3.out.mono Z.out));have CH:=zW (sK 0 0 3 w2.heap.size (w2.heap.size+1) w3 T.out.c0 T.out.c1);rw[E.out]at CH;clear T B3 Z;go_wp2_with fail;refine CH.out.mono ?_;rintro e w4 ⟨rfl,rfl⟩;clear CH;go_upto_region 4 with fail;refine zN ?_;refine lP xE S.out (nQ _) rfl (.tmp 1) rfl zBR ?_;simp only[Act.put,zQ,zZ,zJ];iterate 3 go_step
 refine lE (ds:=nS []) xE R.out (nQ _) (nQ _) (yF _) rfl (.tmp 2) (.tmp 15) rfl zBL zBL ?_;have R3:=zW (R.out.store []);have B3:=zW (aW B.out (qC r) (nS []));generalize w3.setRow (r+1) (nS [])=w5 at*;go_wp2_with fail;exact zFO
theorem zMW(L:List Int)(a:Int)(hl:L.length<16)(w:World):
  Calls Tryz.prog 190 #[.agg (nS (L++[a]))] w fun e w'=>e=.returned (.tuple #[.agg (nS L),.int .i64 a,.int .i64 0])∧Below w.heap.size w w':=by
 have HM:=zW (show(L++[a]).length=L.length+1 by simp);obtain⟨M,hM⟩:∃M,M=L++[a]:=⟨_,rfl⟩;have MM:=zW hM;rw[←hM]at HM⊢;have DP:=zW fun w=>eH M (by rw[HM.out];omega) w;have E:=zW (show tG ((L.length:Int)+1) 0 3=0 by unfold tG;rw[zL zBY]);rw[show(M.length:Int)=(L.length:Int)+1 by rw[HM.out];simp]at DP;have HL:=zW hl;have wr0:IntKind.i64.wrap ((L.length:Int)+1-1)=(L.length:Int):=by rw[zU];omega
 have hI:(L.length:Int)<16:=zBY;have h0:(0:Int)≤(L.length:Int):=zBY;clear hM;have hz:=iM;have wr:=zW wr0;clear wr0;go_enter Tryz.func190,Tryz.ntmps190;go_upto_region 1 with fail;have S:=zW ((TB8.new w M).alloc (.cells (nS []) 62));have R:=zW (TB8.new (w.alloc (.cells (nS M) 62)) []);have B:=zW ((xF w (.cells (nS M) 62)).alloc zBT (.cells (nS []) 62));rw[zR]at R;generalize (w.alloc (.cells (nS M) 62)).alloc (.cells (nS []) 62)=w1 at*;clear hz;obtain⟨r,hr⟩:∃r,w.heap.size=r:=⟨_,rfl⟩;have HR:=zW hr;rw[hr]at S R B⊢;clear hr;refine zN ?_;refine lP xE S.out (nQ _) rfl (.tmp 1) rfl zBR ?_;simp only[Act.put,zQ,zZ,zJ];have Z:=zW (jX (Nat.lt_of_succ_lt R.out.lt));go_wp2_with fail;refine(DP.out w1).mono ?_;rintro e w2 ⟨rfl,b2⟩;have S:=zW (S.out.step b2);have R:=zW (R.out.step b2);have B:=zW (B.out.trans (b2.mono Z.out));have Z:=zW (zD Z.out b2.size);clear b2;go_wp2_with fail;refine(dV 0 3 w2).mono ?_;rintro e w3 ⟨rfl,hw3⟩;have B3:=zW (show Below w2.heap.size w2 w3 by rw[hw3];exact(xF _ _).alloc zBT _);have T:=zW (show zY8 0 w2.heap.size 0 3 w3 by rw[hw3];exact zQT _ _ _);clear hw3;have S:=zW (S.out.step B3.out);have R:=zW (R.out.step B3.out);have B:=zW (B.out.trans (B3.out.mono Z.out));have CH:=zW (sK ((L.length:Int)+1) 0 3 w2.heap.size (w2.heap.size+1) w3 T.out.c0 T.out.c1);rw[E.out]at CH;clear T B3 Z;go_wp2_with fail;refine CH.out.mono ?_;rintro e w4 ⟨rfl,rfl⟩;clear CH;go_upto_region 5 with fail;have V:=zW (show stF M L.length=a by rw[MM.out];simp[stF]);have c0:=S.out.cell HL.out;rw[V.out]at c0;have f0:=S.out.fz L.length;have c1:=S.out.depth;rw[HM.out]at c1;have f1:=S.out.fz 16;rw[MM.out]at S;have S2:=zW (S.out.pop HL.out);have R2:=zW ((R.out.other (g:=r) zBY L.length (.int .i64 0)).other (g:=r) zBY 16 (.int .i64 (L.length:Int)));have B2:=zW ((B.out.setCell (p:=⟨r,L.length,none⟩) (zH _) (.int .i64 0)).setCell (p:=⟨r,16,none⟩) (zH _) (.int .i64 (L.length:Int)));clear S R B;have wr1:=wr.out;go_upto_region 8 with fail;clear c0 c1 f0 f1 wr1;generalize (w3.setCell ⟨r,L.length,none⟩ (.int .i64 0)).setCell ⟨r,16,none⟩ (.int .i64 (L.length:Int))=w4 at*;refine zN ?_;refine lP xE S2.out (nQ _) rfl (.tmp 1) rfl zBR ?_;simp only[Act.put,zQ,zZ,zJ];iterate 3 go_step
 refine lE (ds:=nS L) xE R2.out (nQ _) (nQ _) (yF _) rfl (.tmp 2) (.tmp 29) rfl zBL zBL ?_;have R3:=zW (R2.out.store L);have B3:=zW (aW B2.out (qC r) (nS L));generalize w4.setRow (r+1) (nS L)=w5 at*;iterate 10 go_step
 exact zFO
end
section
open Go.RowKit

end
section
open Go.RowKit Num
theorem sC(n:Int)(w:World):Calls Tryz.prog 59 #[.int .i64 n] w fun e w'=>e=.returned (.int .i64 (n%65536))∧w=w':=by
 have hb:=PT n;go_enter Tryz.func59,Tryz.ntmps59;exact zDP
def chk(a n:Int)(f:Bool):Int:=if f=true∧65536<a+n then 4 else 0
theorem aQ(a n:Int)(f:Bool)(w:World)(a0:0≤a)(a1:a≤65535)(n0:0≤n)(n1:n≤65536):Calls Tryz.prog 173 #[.int .i64 a,.int .i64 n,.bool f] w fun e w'=>e=.returned (.int .i64 (chk a n f))∧w=w':=by
 cases f
 ·go_enter Tryz.func173,Tryz.ntmps173;go_wp2;go_ret;exact⟨by simp[chk],rfl⟩
 ·by_cases h:65536<a+n
  all_goals
   go_enter Tryz.func173,Tryz.ntmps173
   go_wp2
   go_ret
   exact⟨by simp[chk,h],rfl⟩
def YB(L:List Int)(w:World)(e:Ending)(w':World):Prop:=(∃A c,e=.returned (.slice A L.length c)∧Row (Value.int .i64) w' A L)∧Below w.heap.size w w'
end
end Go.Proofs.YtcjldabaekbdlaaGreatDoor
