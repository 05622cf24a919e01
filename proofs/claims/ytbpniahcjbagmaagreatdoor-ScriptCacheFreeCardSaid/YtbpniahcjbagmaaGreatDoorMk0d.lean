/- PlaneRefSc, Pix2, Fork, Words16, PlaneBits, PlaneRefSpr, Round, ScrFill, ScrWith, ScrSt, ScrNew, ScrRes, ScrSel, FlaBox, AppRd, FlaRef, KeyNum, KeyBox, KeyRef, RanNum, Ran, RanMake, KeyApply, KeyAll. -/
import Derived.Test.YtbpniahcjbagmaaGreatDoorProg
import Derived.Test.YtbpniahcjbagmaaGreatDoorMk0c
set_option maxRecDepth 400000
set_option maxHeartbeats 64000000
set_option linter.unusedVariables false
set_option linter.unusedSimpArgs false
namespace Go.Proofs.YtbpniahcjbagmaaGreatDoor
section
open Go.RowKit Num
def Res(b:Bool)(m h:Nat):Prop:=(b=true∧m=128∧h=64)∨(b=false∧m=64∧h=32)
theorem Res.bounds{b:Bool}{m h:Nat}(r:Res b m h):16≤m∧m≤128∧16≤h∧h≤64:=by
 rcases r with⟨_,rfl,rfl⟩|⟨_,rfl,rfl⟩<;>decide
def aI(B:Nat)(W:World):Type:={w':World//Below B W w'}
def aI.w{B:Nat}{W:World}(x:aI B W):World:=x.1
theorem aI.below{B:Nat}{W:World}(x:aI B W):Below B W x.w:=x.2
instance(B:Nat)(W:World):Nonempty (aI B W):=⟨⟨W,zB _ _⟩⟩
theorem bF{h l h' l':BitVec 64}{n:Int}(e:mv (h++l) n=h'++l')(n0: -9223372036854775808≤n)(n1:n≤9223372036854775807)(w:World):
  Calls Tryz.prog 210 #[.agg #[.int .u64 (h.toNat:Int),.int .u64 (l.toNat:Int)],.int .i64 n,.slice none 0 0] w fun e w'=>e=.returned (.agg #[.int .u64 (h'.toNat:Int),.int .u64 (l'.toNat:Int)])∧Below w.heap.size w w':=by
 rw[←mY,←mY,←e];exact OD _ n w n0 n1
theorem EY(n:Int)(w:World)(n0:0≤n)(n1:n≤128):Calls Tryz.prog 211 #[.int .i64 n] w fun e w'=>e=.returned (rv (uT n))∧Below w.heap.size w w':=by
 obtain⟨h,l,e⟩:=yZ (uT n);rw[e,mY];have e':mv ((18446744073709551615#64)++(18446744073709551615#64)) (n-128)=h++l:=e;have O:=zW (bF e' zGX zGX);clear e e';go_enter Tryz.func211,Tryz.ntmps211;go_wp2_with fail;refine(O.out _).mono ?_;rintro e w1 ⟨rfl,b1⟩;have Y:=(Box.new w 0 0 38).step b1;have B:=zW ((vL w (.cells #[.int .u64 0,.int .u64 0] 38)).trans (b1.mono zGN));have Z:=zW (Y.set h l);have B2:=zW ((B.out.setCell (p:=⟨w.heap.size,0,none⟩) (zG _) (.int .u64 (h.toNat:Int))).setCell (p:=⟨w.heap.size,1,none⟩) (zG _) (.int .u64 (l.toNat:Int)));clear B b1;obtain⟨x1,x2,x3,x4,x5⟩:=Y;go_wp2;generalize (w1.setCell ⟨w.heap.size,0,none⟩ (.int .u64 (h.toNat:Int))).setCell ⟨w.heap.size,1,none⟩ (.int .u64 (l.toNat:Int))=w2 at*;clear x1 x2 x3 x4 x5;obtain⟨x1,x2,x3,x4,x5⟩:=Z.out;exact zP (v:=.agg #[.int .u64 (h.toNat:Int),.int .u64 (l.toNat:Int)]) (by simp[results,Tryz.results211,go_sem,x2,x3]) rfl ⟨rfl,B2.out⟩
theorem wB(h l:BitVec 64)(n width:Int)(h1 l1:BitVec 64)(e:uA (h++l) n width=h1++l1)(w:World)(b:Nat)(h' l':BitVec 64)(em:uT width=h'++l')(X:Box b h' l' w)(n0: -9223372036854775808≤n)(n1:n≤9223372036854775807):
  Calls Tryz.prog 210 #[.agg #[.int .u64 (h.toNat:Int),.int .u64 (l.toNat:Int)],.int .i64 n,.slice (some ⟨b,0,none⟩) 1 1] w fun e w'=>e=.returned (.agg #[.int .u64 (h1.toNat:Int),.int .u64 (l1.toNat:Int)])∧Below w.heap.size w w':=by
 rw[←mY,←mY,←e,uA,em];exact OG _ _ n b w n0 n1 X.lt (by rw[wJ];exact X.c0) (by rw[wQ];exact X.c1)
theorem uR{n:Int}{h l:BitVec 64}(e:uT n=h++l)(n0:0≤n)(n1:n≤128)(w:World):Calls Tryz.prog 211 #[.int .i64 n] w fun e w'=>e=.returned (.agg #[.int .u64 (h.toNat:Int),.int .u64 (l.toNat:Int)])∧Below w.heap.size w w':=by
 rw[←mY,←e];exact EY n w n0 n1
theorem UJ(r:BitVec 128)(n width:Int)(w:World)(n0: -9223372036854775808≤n)(n1:n≤9223372036854775807)(w0:0≤width)(w1:width≤128):
  Calls Tryz.prog 204 #[rv r,.int .i64 n,.int .i64 width] w fun e w'=>e=.returned (rv (uA r n width))∧Below w.heap.size w w':=by
 obtain⟨h,l,rfl⟩:=yZ r;obtain⟨h',l',em⟩:=yZ (uT width);obtain⟨v1,v2,e⟩:=yZ (uA (h++l) n width);rw[e,mY,mY];have O1:=zW (uR em w0 w1);have O2:=zW fun w b X=>wB h l n width v1 v2 e w b h' l' em X n0 n1;clear e em;go_enter Tryz.func204,Tryz.ntmps204;go_wp2_with fail;have X:=(Box.new w h l 38).alloc (.cells #[.int .u64 0,.int .u64 0] 38);have Y:Box (w.heap.size+1) 0 0 ((w.alloc (.cells #[.int .u64 (h.toNat:Int),.int .u64 (l.toNat:Int)] 38)).alloc (.cells #[.int .u64 0,.int .u64 0] 38)):=by
  have:=Box.new (w.alloc (.cells #[.int .u64 (h.toNat:Int),.int .u64 (l.toNat:Int)] 38)) 0 0 38;rw[zT]at this;exact this
 have hs:w.heap.size+1<((w.alloc (.cells #[.int .u64 (h.toNat:Int),.int .u64 (l.toNat:Int)] 38)).alloc (.cells #[.int .u64 0,.int .u64 0] 38)).heap.size:=Y.lt;have YY:=zW Y;clear Y;have B1:=zW ((((zB _ w).alloc (zG _) (.cells #[.int .u64 (h.toNat:Int),.int .u64 (l.toNat:Int)] 38)).alloc zGN (.cells #[.int .u64 0,.int .u64 0] 38)));generalize (w.alloc (.cells #[.int .u64 (h.toNat:Int),.int .u64 (l.toNat:Int)] 38)).alloc (.cells #[.int .u64 0,.int .u64 0] 38)=w1 at*;have X0:∀x:aI (w.heap.size+1) w1,x.w.cell? ⟨w.heap.size,0,none⟩=some (.int .u64 (h.toNat:Int)):=fun x=>X.c0▸x.below.cell (p:=⟨w.heap.size,0,none⟩) (Nat.lt_succ_self _);have X1:∀x:aI (w.heap.size+1) w1,x.w.cell? ⟨w.heap.size,1,none⟩=some (.int .u64 (l.toNat:Int)):=fun x=>X.c1▸x.below.cell (p:=⟨w.heap.size,1,none⟩) (Nat.lt_succ_self _);clear X;refine mT (C:=fun w'=>∃x:aI (w.heap.size+1) w1,w'=x.w) [([0,1,2],3),([],4),([],5),([],6)] [] zGV zGV (fun _ _ d _ _ h=>by cases d<;>exact h) ⟨⟨w1.drew,(zB _ _).drew⟩,rfl⟩ ?_;intro wd hwd;have D:=zW (show Below w1.heap.size w1 wd by rw[hwd];exact(zB _ _).drew);clear hwd;refine mD zGW zGM ?_;repeat(go_big_quiet_step (fail))
 refine zY ?_;refine mH zGM ?_;intro K hK;go_wp2_with fail;refine(O1.out _).mono ?_;rintro e w2 ⟨rfl,b2⟩;have D2:=zW (D.out.trans (b2.mono D.out.size));clear D b2;simp only[];refine hK _ _ ⟨⟨w2,D2.out.mono (j7 hs)⟩,rfl⟩ ?_;clear hK K;refine mD zGW zGM ?_;refine zY ?_;refine mH zGM ?_;intro K hK;go_wp2_with fail;have Z:=zW (Box.new w2 h' l' 38);have D3:=zW (D2.out.alloc D2.out.size (.cells #[.int .u64 (h'.toNat:Int),.int .u64 (l'.toNat:Int)] 38));clear D2;refine hK _ _ ⟨⟨_,D3.out.mono (j7 hs)⟩,rfl⟩ ?_;clear hK K;refine mD zGW zGM ?_;refine zY ?_;refine mH zGM ?_;intro K hK;go_wp2_with fail;refine(O2.out _ _ Z.out).mono ?_;rintro e w3 ⟨rfl,b3⟩;have D4:=zW (D3.out.trans (b3.mono D3.out.size));have Y4:=zW (YY.out.step D4.out);clear D3 b3 Z X0 X1;simp only[];refine hK _ _ ⟨⟨w3,D4.out.mono (j7 hs)⟩,rfl⟩ ?_;clear hK K;refine mD zGW zGM ?_;refine zY ?_;refine mH zGM ?_;intro K hK;have S:=zW (Y4.out.set v1 v2);have BS:=zW (((B1.out.trans (D4.out.mono B1.out.size)).setCell (p:=⟨w.heap.size+1,0,none⟩) zGN (.int .u64 (v1.toNat:Int))).setCell (p:=⟨w.heap.size+1,1,none⟩) zGN (.int .u64 (v2.toNat:Int)));obtain⟨y1,y2,y3,y4,y5⟩:=Y4.out;clear YY Y4;have DS:Below (w.heap.size+1) w1 ((w3.setCell ⟨w.heap.size+1,0,none⟩ (.int .u64 (v1.toNat:Int))).setCell ⟨w.heap.size+1,1,none⟩ (.int .u64 (v2.toNat:Int))):=((D4.out.mono (j7 hs)).setCell (p:=⟨w.heap.size+1,0,none⟩) (zG _) _).setCell (p:=⟨w.heap.size+1,1,none⟩) (zG _) _;have DS:=zW DS;clear D4;go_wp2_with fail;generalize (w3.setCell ⟨w.heap.size+1,0,none⟩ (.int .u64 (v1.toNat:Int))).setCell ⟨w.heap.size+1,1,none⟩ (.int .u64 (v2.toNat:Int))=w4 at*;refine hK _ _ ⟨⟨w4,DS.out⟩,rfl⟩ ?_;clear hK K y1 y2 y3 y4 y5;refine vW zGW ?_;refine zY ?_;obtain⟨x1,x2,x3,x4,x5⟩:=S.out;go_wp2;exact zP (v:=.agg #[.int .u64 (v1.toNat:Int),.int .u64 (v2.toNat:Int)]) (by simp[results,Tryz.results204,go_sem,x2,x3]) rfl ⟨rfl,BS.out⟩
theorem Q7{h l h' l' v1 v2:BitVec 64}(e1:h^^^h'=v1)(e2:l^^^l'=v2)(w:World):Calls Tryz.prog 201 #[.agg #[.int .u64 (h.toNat:Int),.int .u64 (l.toNat:Int)],.agg #[.int .u64 (h'.toNat:Int),.int .u64 (l'.toNat:Int)]] w fun e w'=>
  e=.returned (.agg #[.int .u64 (v1.toNat:Int),.int .u64 (v2.toNat:Int)])∧Below w.heap.size w w':=by
 rw[←e1,←e2,←mY,←mY,←mY,←XT];exact F4 _ _ w
end
section
open Go.RowKit
inductive iV where
 |last (is:List Nat)
 |call (is:List Nat) (c:Nat) (t:iV)
 |fork (is:List Nat) (c1:Nat) (t1:iV) (c2:Nat) (t2:iV)
section
variable {P:Program} {ops:Array Oper} {C:World→Prop} {Q:Exit→Act→World→Prop} {md:Region.Mode}
def vA(P:Program)(ops:Array Oper)(C:World→Prop)(Q:Exit→Act→World→Prop)(c:Nat)(F:Act→World→Prop)(a:Act)(w:World):Prop:=
 match ops[c]? with
 |none=>False
 |some o=>if Region.wanted o (yielded ops a.tmps)then o.wp P a w (fun a'' w''=>C w''∧F a'' w'') Q else F (a.put o.dst undef) w
def vS(P:Program)(ops:Array Oper)(C:World→Prop)(Q:Exit→Act→World→Prop):iV→Act→World→Prop
 |.last is,a,w=>wpQuiet P ops C (fun a'=>Q .normal a' w) (lW ops is) a
 |.call is c t,a,w=>wpQuiet P ops C (fun a'=>vA P ops C Q c (fun a w=>vS P ops C Q t a w) a' w) (lW ops is) a
 |.fork is c1 t1 c2 t2,a,w=>wpQuiet P ops C (fun a'=>vA P ops C Q c1 (fun a w=>vS P ops C Q t1 a w) a' w∧vA P ops C Q c2 (fun a w=>vS P ops C Q t2 a w) a' w) (lW ops is) a
def aN(md:Region.Mode)(ops:Array Oper):iV→Array Bool→Bool
 |.last is,listed=>QG md ops is listed&&(Region.ready md ops (nL listed is)).isEmpty
 |.call is c t,listed=>QG md ops is listed&&decide (Region.ready md ops (nL listed is)=[c])&&aN md ops t ((nL listed is).setIfInBounds c true)
 |.fork is c1 t1 c2 t2,listed=>QG md ops is listed&&decide (Region.ready md ops (nL listed is)=[c1,c2])&&aN md ops t1 ((nL listed is).setIfInBounds c1 true)&&aN md ops t2 ((nL listed is).setIfInBounds c2 true)
def gB:iV→Nat
 |.last is=>is.length
 |.call is _ t=>gB t+1+is.length
 |.fork is _ t1 _ _=>gB t1+1+is.length
def J1:iV→Bool
 |.last _=>true
 |.call _ _ t=>J1 t
 |.fork _ _ t1 _ t2=>J1 t1&&J1 t2&&decide (gB t1=gB t2)
theorem tU{K K':Act→Prop}(hK:∀a,K a→K' a):∀(l:List Oper) (a:Act),wpQuiet P ops C K l a→wpQuiet P ops C K' l a:=by
 exact zB2
theorem iT{c:Nat}{F G:Act→World→Prop}{a:Act}{w:World}(hC:C w)(h:vA P ops C Q c F a w)(hF:∀a w,C w→F a w→G a w):wpOp P ops Q c (fun a' w'=>C w'∧G a' w') a w:=by
 unfold vA at h;unfold wpOp;cases ho:ops[c]? with
 |none=>rw[ho]at h;exact h.elim
 |some o=>
  rw[ho]at h
  simp only at h⊢
  split
  ·rename_i hw
   simp only[hw,if_true]at h
   exact .inl (Oper.wp_mono (fun a'' w'' ⟨h1,h2⟩=>⟨h1,hF _ _ h1 h2⟩) h)
  ·rename_i hw
   simp only[hw]at h
   exact⟨hC,hF _ _ hC h⟩
theorem d8(hs:Region.noSelect ops=true)(hQ:∀(c:_) (a:Act) (d:Option Tmp) (v:Value) (w:World),Q (.panic c) (a.put d v) w→Q (.panic c) a w)(k:Nat):∀(t:iV) (listed:Array Bool) (a:Act) (w:World),C w→
  J1 t=true→aN md ops t listed=true→vS P ops C Q t a w→wpAnyH P md ops Q C (k+gB t) listed a w
 |.last is,listed,a,w,hC,_,hB,h=>by
  simp only[aN,zC]at hB;have hr:Region.ready md ops (nL listed is)=[]:=by simpa using hB.2
  refine wS hs hQ k hC is listed a hB.1 ?_;simp only[vS]at h;exact tU (fun a h=>wpAnyH_done hr h k) _ _ h
 |.call is c t,listed,a,w,hC,he,hB,h=>by
  simp only[aN,zC]at hB;obtain⟨⟨hB1,hB2⟩,hB3⟩:=hB;have hr:Region.ready md ops (nL listed is)=[c]:=by simpa using hB2
  simp only[gB];rw[←qP];refine wS hs hQ _ hC is listed a hB1 ?_;simp only[vS]at h;refine tU (fun a' ha=>?_) _ _ h;rw[←qP];refine wpAnyH_all hr zGN fun i hi=>?_;obtain rfl:i=c:=by simpa using hi
  exact iT hC ha fun a'' w'' h1 h2=>d8 hs hQ k t _ a'' w'' h1 he hB3 h2
 |.fork is c1 t1 c2 t2,listed,a,w,hC,he,hB,h=>by
  simp only[aN,zC]at hB;obtain⟨⟨⟨hB1,hB2⟩,hB3⟩,hB4⟩:=hB;have hr:Region.ready md ops (nL listed is)=[c1,c2]:=by simpa using hB2
  simp only[J1,zC,qK]at he;obtain⟨⟨e1,e2⟩,e3⟩:=he;simp only[gB];rw[←qP];refine wS hs hQ _ hC is listed a hB1 ?_;simp only[vS]at h;refine tU (fun a' ha=>?_) _ _ h;rw[←qP];refine wpAnyH_all hr zGN fun i hi=>?_;rcases(by simpa using hi:i=c1∨i=c2)with rfl|rfl
  ·exact iT hC ha.1 fun a'' w'' h1 h2=>d8 hs hQ k t1 _ a'' w'' h1 e1 hB3 h2
  ·refine iT hC ha.2 fun a'' w'' h1 h2=>?_;rw[e3];exact d8 hs hQ k t2 _ a'' w'' h1 e2 hB4 h2
theorem uX{id:Nat}{a:Act}{w:World}{l:List Oper}(t:iV)(hm:P.follows .mixedOrders=true)
  (hB:(Region.noSelect l.toArray&&aN .any l.toArray t (Array.replicate l.toArray.size false)&&J1 t&&decide (gB t≤l.toArray.size))=true)
  (hQ:∀(c:_) (a:Act) (d:Option Tmp) (v:Value) (w:World),Q (.panic c) (a.put d v) w→Q (.panic c) a w) (hC:C w.drew)
  (h:∀wd,wd=w.drew→vS P l.toArray C Q t a wd):(Code.region id l.toArray true).wp P Q a w:=by
 simp only[zC,qK]at hB;obtain⟨⟨⟨hs,hb⟩,he⟩,hle⟩:=hB;refine wp_region_held (S:=C) hm ?_;have:=d8 (md:=.any) hs hQ (l.toArray.size-gB t) t (Array.replicate l.toArray.size false) a w.drew hC he hb (h _ rfl);rwa [Nat.sub_add_cancel hle]at this
theorem gM{is:List Nat}{l:List Oper}{a:Act}{w:World}(hl:lW ops is=l)(h:wpQuiet P ops C (fun a'=>Q .normal a' w) l a):vS P ops C Q (.last is) a w:=by
 subst hl;exact h
theorem gH{is:List Nat}{c:Nat}{t:iV}{l:List Oper}{a:Act}{w:World}(hl:lW ops is=l)(h:wpQuiet P ops C (vA P ops C Q c (fun a w=>vS P ops C Q t a w) · w) l a):vS P ops C Q (.call is c t) a w:=by
 subst hl;exact h
theorem gN{is:List Nat}{c1 c2:Nat}{t1 t2:iV}{l:List Oper}{a:Act}{w:World}(hl:lW ops is=l)
  (h:wpQuiet P ops C (fun a=>vA P ops C Q c1 (fun a w=>vS P ops C Q t1 a w) a w∧vA P ops C Q c2 (fun a w=>vS P ops C Q t2 a w) a w) l a):vS P ops C Q (.fork is c1 t1 c2 t2) a w:=by
 subst hl;exact h
theorem nG{c:Nat}{t:iV}{o:Oper}{a:Act}{w:World}(ho:ops[c]?=some o)(hw:Region.wanted o (yielded ops a.tmps)=true)(h:∀K:Act→World→Prop,(∀a w,C w→vS P ops C Q t a w→K a w)→o.wp P a w K Q):vA P ops C Q c (fun a w=>vS P ops C Q t a w) a w:=by
 unfold vA;rw[ho];simp only[hw,if_true];exact h _ fun a w hc h=>⟨hc,h⟩
end
end
section
open Go.RowKit Go.ChangeShapes Go.WideShapes Num
def hE(w:World)(A:Option Addr)(L:List Nat):Prop:=L≠[]→∃ad,A=some ad∧ad.block<w.heap.size∧∀j (h:j<L.length),w.cell? (ad.add j)=some (.int .u16 (L[j]:Int))
theorem aA(a:Addr)(n:Nat):(a.add n).block=a.block:=by unfold Addr.add;split<;>rfl
section
variable {w w':World} {A:Option Addr} {L:List Nat}
theorem hE.nil:hE w A []:=fun h=>absurd rfl h
theorem hE.at_(h:hE w A L){k:Nat}(hk:k<L.length):∃ad,A=some ad∧ad.block<w.heap.size∧w.cell? (ad.add k)=some (.int .u16 (L.getD k 0:Int)):=by
 obtain⟨ad,hA,hb,hc⟩:=h zG2;exact⟨ad,hA,hb,by rw[hc k hk];simp[hk]⟩
theorem hE.below(h:hE w A L)(hb:Below w.heap.size w w'):hE w' A L:=fun hne=>by
 obtain⟨ad,hA,hlt,hc⟩:=h hne;exact⟨ad,hA,zD hlt hb.size,fun j hj=>(hb.cell (p:=ad.add j) (by rw[aA];exact hlt)).trans (hc j hj)⟩
end
def nth(L:List Nat)(i:Nat):Nat:=L.getD i 0
theorem nth_le{L:List Nat}(h:∀x∈L,x≤65535)(i:Nat):nth L i≤65535:=by
 unfold nth;rw[qJ];rcases jU i L.length with hi|hi
 ·rw[zS hi];exact h _ (j4 hi)
 ·rw[qR hi];simp
section
variable {H:Type} {enc:TypeId×Value→H} {W:World} {r:Reach} {base:Nat}
end
end
section
open Go.RowKit Num


end
section
open Go.RowKit
def A7(ops:Array Oper):Bool:=ops.toList.all fun o=>match o.op with| .defer _=>false|_=>true
section
variable {P:Program} {ops:Array Oper} {C:World→Prop} {Q:Exit→Act→World→Prop} {l:Nat} {n:Nat}
theorem zXS{o:Oper}{a:Act}{w:World}{K K':Act→World→Prop}(hd:∀c,o.op≠ .defer c)(hK:∀a w,K a w→K' a w)(hQ:¬LetsOut Q)(h:o.wp P a w K Q):o.wpIn (Fence.wide.inRound l) n P a w K' Q:=by
 unfold Oper.wp at h;unfold Oper.wpIn;refine⟨fun _ _=>trivial,?_⟩;rw[Oper.semAt_eq _ _ _ hd];generalize (execOp a.eval o).run P w=r at*;cases r with
 |ok x w'=>
  cases x<;>simp only[Oper.upon,Oper.uponIn]at h⊢
  case value v=>exact hK _ _ h
  case skip=>exact hK _ _ h
  case defer d=>exact hK _ _ h
  case enter f args=>
   refine⟨fun hs=>by simp[Fence.wide]at hs,?_⟩
   refine CallsIn.inRound l (callsIn_wide.2 (h.mono ?_))
   intro e w'' he
   cases e with
   |returned v=>exact hK _ _ he
   |panicked c=>exact he
   |outgrown=>exact he
  case row row args=>
   refine⟨fun hs=>by simp[Fence.wide]at hs,fun c cs _=>?_⟩
   obtain⟨v,w'',hr,hs⟩:=h c cs
   exact⟨v,w'',hK _ _ hr,stepsIn_wide.2 hs⟩
 |halt x w'=>cases x<;>simp only[Oper.upon,Oper.uponIn]at h⊢;exact h
theorem dM(hd:A7 ops=true)(hQ:¬LetsOut Q):∀(is:List Nat) (a:Act) (w:World),wpOps P ops Q is a w→wpOpsIn (Fence.wide.inRound l) n P ops Q is a w
 |[],a,w,h=>h
 |i::is,a,w,h=>by
  simp only[wpOps]at h;simp only[wpOpsIn];cases ho:ops[i]? with
  |none=>rw[ho]at h;exact dM hd hQ is a w h
  |some o=>
   rw[ho]at h
   have hnd:∀c,o.op≠ .defer c:=by
    intro c hc;have hm:o∈ops.toList:=by
     rw[Array.mem_toList_iff];exact kD ho
    have:=(jJ.1 hd) o hm;rw[hc]at this;cases this
   simp only at h⊢
   by_cases hw:Region.wanted o (yielded ops a.tmps)=true
   ·rw[zN hw]at h⊢
    rcases h with h|⟨_,h⟩
    ·exact zXS hnd (fun a w h=>dM hd hQ is a w h) hQ h
    ·exact absurd h hQ
   ·rw[zL hw]at h⊢
    exact⟨fun _ _=>trivial,dM hd hQ is _ w h⟩
theorem p9{id:Nat}{a:Act}{w:World}{ls:List Oper}(c0:Nat)(bs:List (List Nat×Nat×Bool))(is0 last:List Nat)(hm:P.follows .mixedOrders=true)
  (hB:(Region.noSelect ls.toArray&&aB .any ls.toArray c0 bs is0 last (Array.replicate ls.toArray.size false)&&decide (rQ bs is0 last≤ls.toArray.size)&&A7 ls.toArray)=true)
  (hQ:∀(c:_) (a:Act) (d:Option Tmp) (v:Value) (w:World),Q (.panic c) (a.put d v) w→Q (.panic c) a w) (hO:∀a w,¬Q .outgrown a w) (hC:∀w w',C w→Gr w w'→C w') (hw:C w.drew)
  (h:∀wd,wd=w.drew→cA P ls.toArray C Q c0 bs is0 last a wd):(Code.region id ls.toArray true).wpIn (Fence.wide.inRound l) n P Q a w:=by
 simp only[zC,qK]at hB;obtain⟨⟨⟨hs,hb⟩,hle⟩,hd⟩:=hB;refine wpIn_region_draw fun t=>?_;refine dM hd (fun⟨a,w,h⟩=>hO a w h) _ _ _ ?_;simp only[Region.schedule,hm,Bool.true_or,if_true];refine wpAny_sound ls.toArray.size t _ a _ ?_;refine tN (C:=C) (c0:=c0) _ _ _ _ ?_;have:=dO (md:=.any) hs hQ hC (ls.toArray.size-rQ bs is0 last) is0 last bs (Array.replicate ls.toArray.size false) a w.drew hw hb (h _ rfl);rwa [Nat.sub_add_cancel hle]at this
end
end
section
open Go.RowKit Num
def Rd8(w:World)(A:Option Addr)(L:List Nat):Prop:=L≠[]→∃ad,A=some ad∧ad.block<w.heap.size∧∀j (h:j<L.length),w.cell? (ad.add j)=some (.int .u8 (L[j]:Int))
theorem FM(a:Addr)(n:Nat):(a.add n).block=a.block:=by unfold Addr.add;split<;>rfl
section
variable {w w':World} {A:Option Addr} {L:List Nat}
theorem Rd8.nil:Rd8 w A []:=fun h=>absurd rfl h
theorem Rd8.at_(h:Rd8 w A L){k:Nat}(hk:k<L.length):∃ad,A=some ad∧ad.block<w.heap.size∧w.cell? (ad.add k)=some (.int .u8 (L.getD k 0:Int)):=by
 obtain⟨ad,hA,hb,hc⟩:=h zG2;exact⟨ad,hA,hb,by rw[hc k hk];simp[hk]⟩
theorem Rd8.step(h:Rd8 w A L)(hb:Below w.heap.size w w'):Rd8 w' A L:=fun hne=>by
 obtain⟨ad,hA,hlt,hc⟩:=h hne;exact⟨ad,hA,zD hlt hb.size,fun j hj=>(hb.cell (p:=ad.add j) (by rw[FM];exact hlt)).trans (hc j hj)⟩
end
structure Bys(g n:Nat)(F:Nat→Nat)(w:World):Prop where
 lt:g<w.heap.size
 at_:∀j,j<n→w.cell? ⟨g,j,none⟩=some (.int .u8 (F j:Int))
 fz:∀j,j<n→w.frozen? ⟨g,j,none⟩=false
section
variable {g n:Nat} {F F':Nat→Nat} {w w':World}
theorem Bys.below(H:Bys g n F w){m:Nat}(hb:Below m w w')(hn:g<m):Bys g n F w':=
 ⟨zD H.lt hb.size,fun j hj=>(hb.cell (p:=⟨g,j,none⟩) hn).trans (H.at_ j hj),fun j hj=>(hb.frozen (p:=⟨g,j,none⟩) hn).trans (H.fz j hj)⟩
theorem Bys.step(H:Bys g n F w)(hb:Below w.heap.size w w'):Bys g n F w':=H.below hb H.lt
theorem Bys.congr(H:Bys g n F w)(h:∀j,j<n→F j=F' j):Bys g n F' w:=⟨H.lt,fun j hj=>by rw[←h j hj];exact H.at_ j hj,H.fz⟩
theorem Bys.set(H:Bys g n F w){k:Nat}(hk:k<n)(v:Nat):Bys g n (fun j=>if j=k then v else F j) (w.setCell ⟨g,k,none⟩ (.int .u8 (v:Int))):=by
 exact zBP
theorem Bys.rd{n0:Nat}(H:Bys g n F w)(h:n0=n):Rd8 w (some ⟨g,0,none⟩) ((List.range n0).map F):=fun _=>by
 subst h;refine⟨_,rfl,H.lt,fun j hj=>?_⟩;have hj:j<n0:=by simpa using hj
 have e:(⟨g,0,none⟩:Addr).add j=⟨g,j,none⟩:=by unfold Addr.add;split<;>simp_all
 rw[e,H.at_ j hj];simp
end
theorem Bys.new(w:World)(n:Nat):Bys w.heap.size n (fun _=>0) (w.alloc (.cells (arr (List.replicate n 0)) 5)):=
 ⟨by simp,fun j hj=>by rw[World.cell?_alloc_at _ _ _ _ rfl,pT _ _ (by simpa using hj)];simp,fun j hj=>World.frozen?_alloc_at _ _ _ _ rfl⟩
def encP(N g:Nat):Value:=.slice (some ⟨g,0,none⟩) N N
section
variable {q:Nat} {v:Value} {hi:Bool} {M:Int} {w w':World}
end
structure iX(N q:Nat)(A:Option Addr)(gs:List Nat)(F:Nat→Nat→Bool)(w:World):Prop where
 len:gs.length=4
 row:Row (encP N) w A gs
 px:∀i,i<4→Pxs (gs.getD i 0) (F i) w
 ra:∀ad,A=some ad→ad.block≠q
 pa:∀i,i<4→gs.getD i 0≠q
section
variable {N q:Nat} {A A':Option Addr} {gs:List Nat} {F F':Nat→Nat→Bool} {w w':World}
theorem iX.step(H:iX N q A gs F w)(hb:Below w.heap.size w w'):iX N q A gs F w':=⟨H.len,H.row.below hb,fun i hi=>(H.px i hi).step hb,H.ra,H.pa⟩
theorem iX.congr(H:iX N q A gs F w)(h:∀i,i<4→F i=F' i):iX N q A gs F' w:=⟨H.len,H.row,fun i hi=>by rw[←h i hi];exact H.px i hi,H.ra,H.pa⟩
theorem Pxs.other{g:Nat}{f:Nat→Bool}{w:World}(H:Pxs g f w){b:Nat}(hb:b≠g)(o:Nat)(v:Value):Pxs g f (w.setCell ⟨b,o,none⟩ v):=
 ⟨by simpa using H.lt,fun j hj=>by rw[qS _ _ _ _ (by simp[hb])];exact H.at_ j hj,fun j hj=>by rw[World.frozen?_setCell];exact H.fz j hj⟩
theorem iX.put(H:iX N q A gs F w)(o:Nat)(v:Value):iX N q A gs F (w.setCell ⟨q,o,none⟩ v):=
 ⟨H.len,fun hne=>by
  obtain⟨b,oo,hA,hlt,hc⟩:=H.row hne;have hbq:b≠q:=H.ra _ hA;exact⟨b,oo,hA,by simpa using hlt,fun j hj=>by rw[qS _ _ _ _ (by simp[Ne.symm hbq])];exact hc j hj⟩,
 fun i hi=>(H.px i hi).other (Ne.symm (H.pa i hi)) _ _,H.ra,H.pa⟩
theorem iX.set(H:iX N q A gs F w){i x:Nat}{f:Nat→Bool}(hi:i<4)(hrow:Row (encP N) w A' (gs.set i x))(hx:Pxs x f w)(hra:∀ad,A'=some ad→ad.block≠q)(hxq:x≠q):iX N q A' (gs.set i x) (fun j=>if j=i then f else F j) w:=by
 have hg:∀j,j<4→(gs.set i x).getD j 0=if j=i then x else gs.getD j 0:=fun j hj=>by
  have:=H.len;rw[qJ,qJ,List.getElem?_set];by_cases e:i=j
  ·subst e;simp[show i<gs.length by omega]
  ·rw[zL e,zL (fun h=>e h.symm)]
 refine⟨by rw[List.length_set];exact H.len,hrow,fun j hj=>?_,hra,fun j hj=>?_⟩
 ·rw[hg j hj];by_cases e:j=i
  ·rw[zN e,zN e];exact hx
  ·rw[zL e,zL e];exact H.px j hj
 ·rw[hg j hj];by_cases e:j=i
  ·rw[zN e];exact hxq
  ·rw[zL e];exact H.pa j hj
end
def FA(A0 A:Option Addr)(n:Nat):Prop:=A=A0∨∀ad,A=some ad→n≤ad.block
theorem FA.trans{A0 A1 A2:Option Addr}{n m:Nat}(h:FA A0 A1 n)(k:FA A1 A2 m)(hm:n≤m):FA A0 A2 n:=k.elim (fun e=>e▸h) (fun f=> .inr fun ad e=>zR hm (f ad e))
theorem FA.low{A0 A:Option Addr}{n m:Nat}(h:FA A0 A n)(hm:m≤n):FA A0 A m:=h.elim .inl fun f=> .inr fun ad e=>zR hm (f ad e)
theorem FA.new{A:Option Addr}{n:Nat}(h:FA none A n)(A0:Option Addr):FA A0 A n:=.inr (h.elim (fun e ad ea=>by rw[e]at ea;cases ea) id)
section
variable {N g:Nat} {f:Nat→Bool} {w w':World}
theorem Pxs.grown{row:Option Nat}(H:Pxs g f w)(hg:w.grownBy w' row)(hne:some g≠row):Pxs g f w':=by
 have hb:=hg.block g H.lt hne;exact⟨zD H.lt hg.size,fun j hj=>(qU (a:=⟨g,j,none⟩) hb).trans (H.at_ j hj),fun j hj=>(World.frozen?_of_block (a:=⟨g,j,none⟩) hb).trans (H.fz j hj)⟩
theorem U4{base size n:Nat}{e:TypeId}{v:Value}{xs:List Value}(h:w.ownsRow base e size v n xs)(hb:Below w.heap.size w w'):w'.ownsRow base e size v n xs:=by
 refine⟨h.1,h.2.imp id ?_⟩;rintro⟨b,cap,cur,rfl,hbb,hh,r⟩;exact⟨b,cap,cur,rfl,hbb,(hb.block b (qM.1 hh).1).trans hh,r⟩
end


def ov(P:Nat→Int)(L:List Int)(j:Nat):Int:=L.getD j (P j)
theorem zHI(P:Nat→Int)(L:List Int)(j:Nat)(h:j<L.length):ov P L j=L[j]:=by simp[ov,h]
theorem zXD(P:Nat→Int)(L:List Int)(j:Nat)(h:¬j<L.length):ov P L j=P j:=by simp[ov,qJ,qR (Nat.le_of_not_lt h)]
def cl(n:Int):Nat:=(min (max n 0) 16).toNat
theorem cl_le(n:Int):cl n≤16:=by unfold cl;omega
theorem cl_eq(n:Int):min (max n 0) 16=(cl n:Int):=by unfold cl;omega
theorem cl_nat(k:Nat)(h:k≤16):cl (k:Int)=k:=by unfold cl;omega
theorem dH(P:Nat→Int)(j:Nat):(xB P)[j]?=if j<16 then some (P j)else none:=by
 by_cases h:j<16
 ·rw[zN h,zS (by rw[m5];exact h),wT _ _ h]
 ·rw[zL h,qR zGE]
theorem zZ6(P:Nat→Int)(k:Nat)(h:k≤16):((xB P).take k).length=k:=by rw[qX,m5];omega
theorem AU(P:Nat→Int):pc P=((xB P).map (Value.int .u8)).toArray:=by
 apply qH
 intro j
 have e:((xB P).map (Value.int .u8)).toArray[j]?=((xB P)[j]?).map (Value.int .u8):=by rw[←jX];exact zX
 rw[e,dH];by_cases h:j<16
 ·rw[uL _ _ h,zN h];rfl
 ·rw[zF zBK,zL h];rfl
theorem zKZ(P:Nat→Int)(L:List Int):splice (xB P) 0 (L.take 16)=xB (ov P L):=by
 apply kN
 intro j
 have ll:(L.take 16).length≤16:=by rw[qX];omega
 rw[yT _ _ _ zGE,zL zGX,qL,dH,dH];by_cases h1:j<(L.take 16).length
 ·have h2:j<L.length:=by rw[qX]at h1;omega
  rw[zN h1,zN zGX,Nat.sub_zero,zS h1,jB,zHI _ _ _ h2]
 ·rw[zL h1];by_cases h2:j<16
  ·rw[zN h2,zN h2,zXD _ _ _ (by rw[qX]at h1;omega)]
  ·rw[zL h2,zL h2]
theorem zY6(P:Nat→Int)(L:List Int):(splice ((xB P).map (Value.int .u8)) 0 ((L.take 16).map (Value.int .u8))).toArray=pc (ov P L):=by
 rw[eP,zKZ,←AU]
theorem FK:vZ Tryz.prog 86 16:=⟨⟨_,Tryz.underlying86,rfl⟩,by kernel_rfl⟩
theorem zWU:nH Tryz.prog 86 (pc mM):=by
 unfold nH;rw[nF];kernel_rfl
theorem zeroF(w:World):(zeroValue 86).run Tryz.prog w=.ok (.agg (pc mM)) w:=uO zWU
def FB(b:Nat)(P:Nat→Int)(w:World):Prop:=Blk b 86 (pc P) w
section
variable {b:Nat} {P Q:Nat→Int} {w w':World}
theorem FB.lt(H:FB b P w):b<w.heap.size:=Blk.lt H
theorem FB.below(H:FB b P w){n:Nat}(hb:Below n w w')(hn:b<n):FB b P w':=Blk.below H hb hn
theorem FB.step(H:FB b P w)(hb:Below w.heap.size w w'):FB b P w':=Blk.step H hb
theorem FB.new(w:World)(P:Nat→Int):FB w.heap.size P (w.alloc (.cells (pc P) 86)):=Blk.new _ _ _
theorem FB.alloc(H:FB b P w)(o:Obj):FB b P (w.alloc o):=Blk.alloc H o
theorem FB.drew(H:FB b P w):FB b P w.drew:=H
theorem FB.otherRow(H:FB b P w){g:Nat}(hg:b≠g)(ds:Array Value):FB b P (w.setRow g ds):=Blk.otherRow H hg ds
theorem FB.other(H:FB b P w){g:Nat}(hg:b≠g)(o:Nat)(v:Value):FB b P (w.setCell ⟨g,o,none⟩ v):=Blk.other H hg o v
theorem FB.cell(H:FB b P w){j:Nat}(hj:j<16):w.cell? ⟨b,j,none⟩=some (.int .u8 (P j)):=by rw[Blk.cell H,uL _ _ hj]
theorem FB.fz(H:FB b P w)(j:Nat):w.frozen? ⟨b,j,none⟩=false:=Blk.frozen H j
theorem FB.store(H:FB b P w)(Q:Nat→Int):FB b Q (w.setRow b (pc Q)):=Blk.store H _
theorem FB.rd(H:FB b P w):Rd w (some ⟨b,0,none⟩) (xB P):=fun _=>by
 exact zRI
theorem zY0{A:Option Addr}{L:List Int}(H:Rd w A L)(k:Nat):Rd w A (L.take k):=fun hne=>by
 obtain⟨ad,e,hb,hc⟩:=H (by rintro rfl;simp at hne);refine⟨ad,e,hb,fun j hj=>?_⟩;rw[qX]at hj;rw[hc j zGX,jB]
end
theorem zZJ{B:Nat}{a w:World}(h:Below B a w){g:Nat}(hg:B≤g)(cs:Array Value):Below B a (w.setRow g cs):=lU h hg cs
section
variable {ops:Array Oper} {C:World→Prop} {Q':Act→Prop} {o:Oper} {rest:List Oper} {a:Act} {P Q:Nat→Int} {b:Nat}
end
theorem QH(w:World)(ty:TypeId)(base:Nat)(v:Value)(n:Nat)(L0:List Int)(hown:w.ownsRow base 5 1 v n (L0.map (Value.int .u8)))(A:Option Addr)(m c:Nat)(L:List Int)(hR:Rd w A L)(hL:L.length=m)
  (h63:n+m≤1000000) (hbase:base≤w.heap.size):
  ∃v' w',(Builtin.append_ #[22,22] ty #[v,.slice A m c]).run Tryz.prog w=.ok v' w'∧w'.ownsRow base 5 1 v' (n+m) ((L0++L).map (Value.int .u8))∧w.grownBy w' v.ownBlock:=by
 obtain⟨i0,hi,hz0,hz1,hz2⟩:=kA t7;rcases A with _|ad
 ·have hm:m=0:=by
   rcases Nat.eq_zero_or_pos m with h|h
   ·exact h
   ·obtain⟨ad,e,_⟩:=hR (by rintro rfl;simp at hL;omega);cases e
  subst hm;obtain rfl:L=[]:=jE hL;refine⟨v,w,?_,by simpa using hown,World.grownBy.refl w _⟩;rcases hown.2 with⟨rfl,rfl⟩|⟨g,cap,cur,rfl,_,_,hnc,_⟩
  ·simp[Builtin.append_,jV Tryz.underlying22,sizeOf,typeInfo,hi,Builtin.lenOf,Builtin.firstCells]
  ·simp[Builtin.append_,jV Tryz.underlying22,sizeOf,typeInfo,hi,Builtin.lenOf,Builtin.firstCells,hnc,storeCells]
 ·have hc:∀j u,(L.map (Value.int .u8))[j]?=some u→w.cell? (ad.add j)=some u:=by
   by_cases hne:L=[]
   ·subst hne;intro j u hu;simp at hu
   ·obtain⟨ad',e,_,hc⟩:=hR hne;injection e with e
    subst e;exact zXZ hc
  obtain⟨v',w',hrun,h2,h3,_,_⟩:=run_append_own_at (P:=Tryz.prog) w base 22 ty 5 i0 (.int .u8 0) 1 1 Tryz.underlying22 hi hz0 hz1 hz2 rfl zGX v n _ hown ad m c (L.map (Value.int .u8)) (by rw[qI];omega) hc (O7 L) zGD zGX hbase;exact⟨v',w',hrun,by rw[kY];exact h2,h3⟩
theorem tD{w:World}{ops:Array Oper}{rest:List Oper}{o:Oper}{a:Act}{Q:Exit→Act→World→Prop}(hgd:o.guard=none)(s x:Operand)
  (ho:o.op=.call {callee:=.builtin .append,args:=#[s,x],argTypes:=#[22,22]}) (base:Nat) (v:Value) (n:Nat) (L0:List Int) (hs:a.eval s=v) (hown:w.ownsRow base 5 1 v n (L0.map (Value.int .u8)))
  (A:Option Addr) (m c:Nat) (L:List Int) (hx:a.eval x=.slice A m c) (hR:Rd w A L) (hL:L.length=m) (h63:n+m≤1000000) (hbase:base≤w.heap.size)
  (h:∀v' w',w'.ownsRow base 5 1 v' (n+m) ((L0++L).map (Value.int .u8))→w.grownBy w' v.ownBlock→wpList Tryz.prog ops Q rest (a.put o.dst v') w'):wpList Tryz.prog ops Q (o::rest) a w:=by
 refine qZ hgd fun K hK=>?_;obtain⟨v',w',hrun,h2,h3⟩:=QH w o.type base v n L0 hown A m c L hR hL h63 hbase;unfold Oper.wp execOp;simp only[ho,resolve,invoke,builtin,zA,Sem.run_pure,Result.andThen_ok,List.map_toArray,List.map_cons,List.map_nil,hs,hx,hrun];exact hK _ _ (h v' w' h2 h3)

end
section
structure Ev where
 k:Int
 d:Bool
instance:Inhabited Ev:=⟨⟨0,false⟩⟩
def ap(K:Nat→Bool)(e:Ev):Nat→Bool:=fun j=>if(0≤e.k∧e.k≤15)∧j=e.k.toNat then e.d else K j
def rel(K:Nat→Bool)(e:Ev):Bool:=decide (0≤e.k∧e.k≤15)&&(K e.k.toNat&& !e.d)
def aft(K:Nat→Bool)(l:List Ev):Nat→Bool:=l.foldl ap K
def one(K:Nat→Bool)(e:Ev):List Int:=if rel K e=true then[e.k]else[]
def up:Nat→Bool:=fun _=>false
theorem ap_in{K:Nat→Bool}{e:Ev}{n:Nat}(h:e.k=(n:Int))(hn:n<16):ap K e=fun j=>if j=n then e.d else K j:=by
 funext j
 unfold ap;rw[h];by_cases hj:j=n
 ·rw[zN ⟨⟨by omega,by omega⟩,by omega⟩,zN hj]
 ·rw[zL (fun q=>hj zGX),zL hj]
theorem ap_out{K:Nat→Bool}{e:Ev}(h:¬(0≤e.k∧e.k≤15)):ap K e=K:=by
 funext j
 unfold ap;rw[zL (fun q=>h q.1)]
theorem rel_in{K:Nat→Bool}{e:Ev}{n:Nat}(h:e.k=(n:Int))(hn:n<16):rel K e=(K n&& !e.d):=by
 unfold rel;rw[h,qY zGX,Bool.true_and,Int.toNat_natCast]
theorem zYC{K:Nat→Bool}{e:Ev}(h:¬(0≤e.k∧e.k≤15)):rel K e=false:=by
 unfold rel;rw[zO h,Bool.false_and]
theorem key_or(k:Int):(∃n:Nat,k=(n:Int)∧n<16)∨¬(0≤k∧k≤15):=by
 by_cases h:0≤k∧k≤15
 ·exact .inl ⟨k.toNat,by omega,by omega⟩
 ·exact .inr h
theorem IY(K:Nat→Bool):aft K []=K:=rfl
theorem zWY(K:Nat→Bool)(e:Ev)(l:List Ev):aft K (e::l)=aft (ap K e) l:=rfl
theorem zHX(K:Nat→Bool)(l m:List Ev):aft K (l++m)=aft (aft K l) m:=List.foldl_append
def dn(l:List Ev)(key:Int):Bool:=decide (0≤key∧key≤15)&&aft up l key.toNat
theorem dn_nil(key:Int):dn [] key=false:=by
 unfold dn;rw[IY];simp[up]
def zH0(K:Nat→Bool)(a:Nat):Nat→Int
 |0=> -1
 |n+1=>if K a then(a:Int)else zH0 K (a+1) n
def low(K:Nat→Bool):Int:=zH0 K 0 16
end
section
open Go.RowKit Num
def kc(K:Nat→Bool):Array Value:=((List.range 16).map fun j=>Value.bool (K j)).toArray
theorem vB(K:Nat→Bool):(kc K).size=16:=by simp[kc]
theorem fN(K:Nat→Bool)(j:Nat)(hj:j<16):(kc K)[j]?=some (.bool (K j)):=by simp[kc,hj]
theorem NA(K:Nat→Bool):n8 (kc K):=by
 unfold n8;rw[qC];intro v hv;simp only[kc,kV,jG,jD]at hv;obtain⟨j,_,rfl⟩:=hv;rfl
theorem kc_put(K:Nat→Bool)(n:Nat)(hn:n<16)(v:Bool):(kc K).setIfInBounds n (.bool v)=kc fun j=>if j=n then v else K j:=by
 apply qH
 intro j
 rw[qB,vB];by_cases h1:n=j
 ·subst h1;rw[zN rfl,zN hn,fN _ _ hn,zN rfl]
 ·rw[zL h1];by_cases h3:j<16
  ·rw[fN _ _ h3,fN _ _ h3,zL (fun e=>h1 e.symm)]
  ·rw[zF (by rw[vB];omega),zF (by rw[vB];omega)]
theorem tR:vZ Tryz.prog 74 16:=⟨⟨_,Tryz.underlying74,rfl⟩,by kernel_rfl⟩
theorem F3:nH Tryz.prog 74 (kc up):=by
 unfold nH;rw[vB];kernel_rfl
theorem YX(w:World):(zeroValue 74).run Tryz.prog w=.ok (.agg (kc up)) w:=uO F3
def KB(b:Nat)(K:Nat→Bool)(w:World):Prop:=Blk b 74 (kc K) w
section
variable {b:Nat} {K L:Nat→Bool} {w w':World}
theorem KB.lt(H:KB b K w):b<w.heap.size:=Blk.lt H
theorem KB.below(H:KB b K w){n:Nat}(hb:Below n w w')(hn:b<n):KB b K w':=Blk.below H hb hn
theorem KB.step(H:KB b K w)(hb:Below w.heap.size w w'):KB b K w':=Blk.step H hb
theorem KB.new(w:World)(K:Nat→Bool):KB w.heap.size K (w.alloc (.cells (kc K) 74)):=Blk.new _ _ _
theorem KB.alloc(H:KB b K w)(o:Obj):KB b K (w.alloc o):=Blk.alloc H o
theorem KB.drew(H:KB b K w):KB b K w.drew:=H
theorem KB.other(H:KB b K w){g:Nat}(hg:b≠g)(o:Nat)(v:Value):KB b K (w.setCell ⟨g,o,none⟩ v):=Blk.other H hg o v
theorem KB.otherRow(H:KB b K w){g:Nat}(hg:b≠g)(ds:Array Value):KB b K (w.setRow g ds):=Blk.otherRow H hg ds
theorem KB.cell(H:KB b K w){j:Nat}(hj:j<16):w.cell? ⟨b,j,none⟩=some (.bool (K j)):=by rw[Blk.cell H,fN _ _ hj]
theorem KB.fz(H:KB b K w)(j:Nat):w.frozen? ⟨b,j,none⟩=false:=Blk.frozen H j
theorem KB.store(H:KB b K w)(L:Nat→Bool):KB b L (w.setRow b (kc L)):=Blk.store H _
theorem KB.put(H:KB b K w){n:Nat}(hn:n<16)(v:Bool):KB b (fun j=>if j=n then v else K j) (w.setCell ⟨b,n,none⟩ (.bool v)):=(Blk.put H n _).eq (kc_put K n hn v)
end
section
variable {ops:Array Oper} {C:World→Prop}
end
theorem tQ{P:Program}{fn:Func}{p q:Tmp}{ty:TypeId}(h:fn.results=#[.cell p ty,.tmp q])(tmps:Array Value)(w:World)(g:Nat)(t:TypeId)(cs:Array Value)(fr:Nat×Nat)(d:TypeDesc)(v:Value)
  (hp:tmps.getD p undef=.pointer (some ⟨g,0,none⟩)) (hq:tmps.getD q undef=v) (hg:w.heap[g]?=some (.cells cs t fr))
  (hu:P.underlying ty=some d) (hd:(match d with| .struct _| .array _ _=>true|_=>false)=true) (hi:(P.info? ty).map (·.size)=some cs.size):
  (results fn tmps).run P w=.ok (.tuple #[.agg cs,v]) w:=by
 exact zRQ
theorem KG{B:Nat}{a w:World}(h:Below B a w){g:Nat}(hg:B≤g)(cs:Array Value):Below B a (w.setRow g cs):=lU h hg cs
theorem gS(w:World)(o:Obj):Below w.heap.size w (w.alloc o):=(zB _ _).alloc (zG _) _
def ec(e:Ev):Array Value:=#[.int .i64 e.k,.bool e.d]
theorem zNT(e:Ev):(ec e).size=2:=rfl
theorem zH7:vZ Tryz.prog 69 2:=⟨⟨_,Tryz.underlying69,rfl⟩,by kernel_rfl⟩
def Ev.ok(e:Ev):Prop:= -9223372036854775808≤e.k∧e.k≤9223372036854775807
structure Evs(w:World)(A:Option Addr)(n:Nat)(l:List Ev):Prop where
 len:l.length=n
 max:n≤maxLen
 at_:∀i (h:i<l.length),∃b o,A=some ⟨b,o,none⟩∧b<w.heap.size∧w.cell? ⟨b,o+i*2,none⟩=some (.int .i64 (l[i]).k)∧w.cell? ⟨b,o+i*2+1,none⟩=some (.bool (l[i]).d)∧(l[i]).ok
theorem Evs.step{w w':World}{A:Option Addr}{n:Nat}{l:List Ev}(h:Evs w A n l)(hb:Below w.heap.size w w'):Evs w' A n l:=
 ⟨h.len,h.max,fun i hi=>by
  obtain⟨b,o,e,lt,c1,c2,k⟩:=h.at_ i hi;exact⟨b,o,e,zD lt hb.size,(hb.cell (p:=⟨b,o+i*2,none⟩) lt).trans c1,(hb.cell (p:=⟨b,o+i*2+1,none⟩) lt).trans c2,k⟩⟩
theorem Evs.take{w:World}{A:Option Addr}{n:Nat}{l:List Ev}(h:Evs w A n l)(k:Nat)(hk:k≤n):Evs w A k (l.take k):=
 ⟨by rw[qX,h.len];omega,zR hk h.max,fun i hi=>by
  rw[qX]at hi;rw[jB];exact h.at_ i zGX⟩
theorem Evs.drop{w:World}{A A':Option Addr}{n:Nat}{l:List Ev}(h:Evs w A n l)(k:Nat)(hk:k≤n)(hA:∀b o,A=some ⟨b,o,none⟩→k<n→A'=some ⟨b,o+k*2,none⟩):Evs w A' (n-k) (l.drop k):=
 ⟨by rw[jF,h.len],zR (Nat.sub_le _ _) h.max,fun i hi=>by
  rw[jF]at hi;obtain⟨b,o,e,lt,c1,c2,ok⟩:=h.at_ (k+i) zGX;rw[List.getElem_drop];refine⟨b,o+k*2,hA b o e (by have:=h.len;omega),lt,?_,?_,ok⟩
  ·rw[show o+k*2+i*2=o+(k+i)*2 by omega];exact c1
  ·rw[show o+k*2+i*2+1=o+(k+i)*2+1 by omega];exact c2⟩

end
section
def nxt(L:List Int)(k:Nat):Int:=L.getD (k%L.length) 0
theorem zLH(k:Nat):nxt [] k=0:=by simp[nxt]
theorem zX1(L:List Int)(h:L.length=0)(k:Nat):nxt L k=0:=by
 rw[jE h];exact zLH k
theorem nxt_lt(L:List Int)(k:Nat)(h:0<L.length):k%L.length<L.length:=kU _ h
theorem zLG(L:List Int)(k:Nat)(h:k%L.length<L.length):L[k%L.length]=nxt L k:=by
 unfold nxt;rw[qJ,zS h,Option.getD_some]
end
section
open Go.RowKit Num
theorem ZI(w:World)(o:Obj):Below w.heap.size w (w.alloc o):=(zB _ _).alloc (zG _) o
theorem PR(A:Option Addr)(n c:Nat)(w:World):
  Calls Tryz.prog 180 #[.slice A n c] w fun e w'=>e=.returned (.func (.func 205) #[] #[.pointer (some ⟨w.heap.size,0,none⟩)])∧w'=w.alloc (.cells #[.slice A n c] 22):=by
 go_enter Tryz.func180,Tryz.ntmps180;go_wp2;go_returns;exact⟨rfl,rfl⟩
theorem zKJ(A:Option Addr)(n c:Nat)(L:List Int)(k g:Nat)(w:World)(hc:w.cell? ⟨g,0,none⟩=some (.slice A n c))(H:Rd w A L)(hn:L.length=n)(n1:n≤1000000):
  Calls Tryz.prog 205 #[.int .u64 (k:Int),.pointer (some ⟨g,0,none⟩)] w fun e w'=>e=.returned (.int .u8 (nxt L k))∧Below w.heap.size w w':=by
 by_cases h0:n=0
 ·have E:=zW (zX1 L (hn.trans h0) k);subst h0;clear H hn n1;go_enter Tryz.func205,Tryz.ntmps205;go_wp2;go_ret;exact⟨wM E.out.symm,by go_grown⟩
 ·obtain⟨j,hj⟩:∃j,k%L.length=j:=⟨_,rfl⟩;have hl:k%L.length<L.length:=nxt_lt L k zGX;obtain⟨ad,rfl,hb,c1⟩:=H.at_ hl;rw[zLG L k hl,hj]at c1;rw[hj,hn]at hl;have u0:IntKind.u64.wrap (n:Int)=(n:Int):=by rw[IntKind.wrap_u64];omega
  have u1:((k:Int)%(n:Int))=(j:Int):=by rw[←hj,hn];rfl
  have u2:Int.tmod (k:Int) (n:Int)=(j:Int):=by rw[kF zGX];exact u1
  have u3:IntKind.u64.wrap (j:Int)=(j:Int):=by rw[IntKind.wrap_u64];omega
  have h0I:¬(n:Int)=0:=zGX;generalize nxt L k=x at*;clear hj hb H hn;go_enter Tryz.func205,Tryz.ntmps205;go_wp2;go_quiet (fail)
  go_wp2;go_ret;exact⟨rfl,⟨rfl,rfl,rfl,zG _,fun _ _=>rfl⟩⟩
theorem Blk.apart{b p:Nat}{T:TypeId}{cs:Array Value}{w w':World}(H:Blk b T cs w)(ha:nW p none w w')(hp:b≠p):Blk b T cs w':=(ha.block b H.lt hp (fun e=>by cases e)).trans H
structure St(base g:Nat)(L:List Int)(k:Nat)(w:World):Prop where
 low:base≤g
 held:∃A c,Blk g 148 #[.slice A L.length c,.int .u64 (k:Int)] w∧w.ownsRow base 5 1 (.slice A L.length c) L.length (L.map (Value.int .u8))
section
variable {base g p k:Nat} {L:List Int} {w w':World}
theorem St.lt(H:St base g L k w):g<w.heap.size:=by obtain⟨A,c,h,_⟩:=H.held;exact h.lt
theorem St.kept(H:St base g L k w)(ha:nW p none w w')(hp:g≠p)(hr:∀A c,w.ownsRow base 5 1 (.slice A L.length c) L.length (L.map (Value.int .u8))→(Value.slice A L.length c).ownBlock≠some p):St base g L k w':=by
 obtain⟨A,c,h,ho⟩:=H.held;exact⟨H.low,A,c,h.apart ha hp,tI ho ha (hr A c ho) (fun _ e=>by cases e)⟩
theorem St.step(H:St base g L k w)(hb:Below w.heap.size w w'):St base g L k w':=
 H.kept (p:=w.heap.size) (nW.of_below hb) (by have:=H.lt;omega) (fun A c ho e=>by have:=(ho.lt _ e).2;omega)
theorem St.alloc(H:St base g L k w)(o:Obj):St base g L k (w.alloc o):=H.step (ZI w o)
theorem St.mono(H:St base g L k w){b':Nat}(hb:b'≤base):St b' g L k w:=by
 obtain⟨A,c,h,ho⟩:=H.held;exact⟨zR hb H.low,A,c,h,bR ho hb⟩
theorem St.under(H:St base g L k w)(ha:nW p none w w')(hp:p<base):St base g L k w':=
 H.kept ha (by have:=H.low;omega) (fun A c ho e=>by have:=(U3 ho e).1;omega)
theorem St.other{b' k':Nat}{L':List Int}(H:St base g L k w)(ha:nW p none w w')(hp:g≠p)(X:St b' p L' k' w):St base g L k w':=
 H.kept ha hp (fun A c ho e=>by
  obtain⟨A',c',h',_⟩:=X.held;exact tX ho h' zGL e)
theorem St.new{A:Option Addr}{n c:Nat}(ho:w.ownsRow base 5 1 (.slice A n c) n (L.map (Value.int .u8)))(hn:L.length=n)(hb:base≤w.heap.size)(k:Nat):St base w.heap.size L k (w.alloc (.cells #[.slice A n c,.int .u64 (k:Int)] 148)):=by
 subst hn;exact⟨hb,A,c,Blk.new _ _ _,ho.alloc _⟩
end
theorem zX2{base g k:Nat}{L:List Int}{w:World}(H:St base g L k w)(hk:k≤9223372036854775807)(n1:L.length≤1000000):
  Calls Tryz.prog 145 #[.pointer (some ⟨g,0,none⟩)] w fun e w'=>e=.returned (.int .u8 (nxt L k))∧St base g L (k+1) w'∧nW g none w w':=by
 obtain⟨A,c,h,ho⟩:=H.held;have HH:=zW (zM h (zM ho n1));have LT:=zW H.lt;have LO:=zW H.low;have c0:=h.cell 0;have c1:=h.cell 1;simp only[zX,zK,zV]at c0 c1;have k0:=lA.cell c0 H.lt;have k1:=lA.cell c1 H.lt;have kI:(k:Int)+1≤9223372036854775808:=zGX;have wr:IntKind.u64.wrap ((k:Int)+1)=(k:Int)+1:=by rw[IntKind.wrap_u64];omega
 clear h ho n1 hk c0 c1 H;go_enter Tryz.func145,Tryz.ntmps145;go_upto_region 3 with fail;refine mT (C:=fun w'=>∃x:lA w,w'=x.w) [([0,1,2,3,5,6,7,8],4),([],9)] [10] zGV zGV (fun _ _ d _ _ h=>by cases d<;>exact h) ⟨⟨w.drew,(zB _ _).drew⟩,rfl⟩ ?_;intro wd hwd;have BD:=zW (show Below w.heap.size w wd by rw[hwd];exact(zB _ _).drew);clear hwd;refine mD zGW zGM ?_;repeat(go_big_quiet_step (fail))
 refine zY ?_;refine mH zGM ?_;intro K hK;go_wp2_with fail;refine(PR A L.length c wd).mono ?_;rintro e w1 ⟨rfl,hw1⟩;have B1:=zW (show Below w.heap.size w w1 by rw[hw1];exact BD.out.alloc BD.out.size _);have X1:=zW (show w1.cell? ⟨wd.heap.size,0,none⟩=some (.slice A L.length c) by rw[hw1];simp);clear hw1;simp only[];refine hK _ _ ⟨⟨w1,B1.out⟩,rfl⟩ ?_;clear hK K;refine mD zGW zGM ?_;refine zY ?_;refine mH zGM ?_;intro K hK;go_wp2_with fail;refine(zKJ A L.length c L k wd.heap.size w1 X1.out ((NH HH.out.2.1).below B1.out) rfl HH.out.2.2).mono ?_;rintro e w2 ⟨rfl,b2⟩;have B2:=zW (B1.out.trans (b2.mono B1.out.size));clear b2 X1 B1 BD;simp only[];refine hK _ _ ⟨⟨w2,B2.out⟩,rfl⟩ ?_;clear hK K;refine vW zGW ?_;repeat(go_big_quiet_step (fail))
 refine zY ?_;clear k0 k1;have Y:=zW (HH.out.1.step B2.out);have c1:=Y.out.cell 1;have f1:=Y.out.frozen 1;simp only[zX,zK,zV]at c1;go_wp2;go_ret;have ap:nW g none w2 (w2.setCell ⟨g,1,none⟩ (.int .u64 ((k:Int)+1))):=nW.setCell _ _;have ow:w2.ownsRow base 5 1 (.slice A L.length c) L.length (L.map (Value.int .u8)):=tI (p:=w.heap.size) (g:=none) HH.out.2.1 (nW.of_below B2.out) (fun h=>by have:=(HH.out.2.1.lt _ h).2;omega) (fun k hk=>by cases hk);exact⟨rfl,⟨LO.out,A,c,(Y.out.put 1 (.int .u64 ((k:Int)+1))).eq zGN,tI ow ap (tX ow Y.out zGL) (fun _ e=>by cases e)⟩,(nW.of_below B2.out).trans ap⟩
theorem ZN(A:Option Addr)(n c:Nat)(L:List Int)(w:World)(H:Rd w A L)(hn:L.length=n)(n1:n≤1000000):
  Calls Tryz.prog 57 #[.slice A n c] w (dK 5 L w):=by
 have qN:∀(w:World) (a:Option Addr) (n c n' c':Nat),(binOp .eql 22 (.slice a n c) (.slice none n' c')).run Tryz.prog w=.ok (.bool a.isNone) w:=fun w a n c n' c'=>Lib.run_eql_slice_nil w _ _ a n c n' c' Tryz.underlying22;rcases A with _|ad
 ·have e:L=[]:=by
   by_cases h:L=[]
   ·exact h
   ·obtain⟨ad,e,_⟩:=H h;cases e
  subst e;clear H;go_enter Tryz.func57,Tryz.ntmps57;go_wp2;go_ret;exact⟨_,rfl,kH _ _ _ _,zB _ _⟩
 ·have HL:=zW (zM H (zM hn n1));clear H hn n1;go_enter Tryz.func57,Tryz.ntmps57;have hown0:(w.alloc (.cells #[] 5)).ownsRow w.heap.size 5 1 (.slice (some ⟨w.heap.size,0,none⟩) 0 0) 0 (([]:List Int).map (Value.int .u8)):=World.ownsRow_made w #[] 0 (zG _) zGD rfl;have Q:=zW (zM hown0 (ZI w (.cells #[] 5)));exact zBI
def X9(L:List Int)(k:Nat)(w:World)(e:Ending)(w':World):Prop:=∃g,e=.returned (.pointer (some ⟨g,0,none⟩))∧St w.heap.size g L k w'∧Below w.heap.size w w'
theorem GA(A:Option Addr)(n c:Nat)(L:List Int)(m:Int)(k:Nat)(w:World)(H:Rd w A L)(hn:L.length=n)(n1:n≤1000000)(hk:max m 0=(k:Int))(m1:m≤9223372036854775807):
  Calls Tryz.prog 60 #[.slice A n c,.int .i64 m] w (X9 L k w):=by
 have HC:=zW (ZN A n c L w H hn n1);have kI:(k:Int)≤9223372036854775807:=zGX;have wr:IntKind.u64.wrap (k:Int)=(k:Int):=by rw[IntKind.wrap_u64];omega
 have HN:=zW hn;clear H hn n1 m1;go_enter Tryz.func60,Tryz.ntmps60;go_wp2_with fail;refine HC.out.mono ?_;rintro e w1 ⟨v,rfl,ho,hb⟩;obtain⟨A',c',rfl⟩:=uN ho;have S:=zW (St.new ho rfl hb.size k);have B:=zW (hb.alloc hb.size (.cells #[.slice A' L.length c',.int .u64 (k:Int)] 148));clear ho hb HC;go_wp2_with fail;go_ret;exact⟨_,rfl,S.out,B.out⟩
theorem zLT(A:Option Addr)(n c:Nat)(L:List Int)(w:World)(H:Rd w A L)(hn:L.length=n)(n1:n≤1000000):
  Calls Tryz.prog 47 #[.slice A n c] w (X9 L 0 w):=by
 have HC:=zW (GA A n c L 0 0 w H hn n1 zGL zGL);clear H hn n1;go_enter Tryz.func47,Tryz.ntmps47;go_wp2_with fail;refine HC.out.mono ?_;rintro e w1 ⟨g,rfl,hs,hb⟩;have S:=zW (zM hs hb);clear hs hb HC;go_wp2_with fail;go_ret;exact⟨_,rfl,S.out.1,S.out.2⟩
theorem GY{base g k:Nat}{L:List Int}{w:World}(H:St base g L k w)(n1:L.length≤1000000):
  Calls Tryz.prog 43 #[.pointer (some ⟨g,0,none⟩)] w (X9 L k w):=by
 obtain⟨A,c,h,ho⟩:=H.held;have HH:=zW (zM (NH ho) n1);have c0:=h.cell 0;have c1:=h.cell 1;simp only[zX,zK,zV]at c0 c1;have k0:=lA.cell c0 H.lt;have k1:=lA.cell c1 H.lt;clear h ho n1 c0 c1 H;go_enter Tryz.func43,Tryz.ntmps43;go_upto_region 3 with fail;refine mT (C:=fun w'=>∃x:lA w,w'=x.w) [([0,1,2,3,5,6,7,8],4),([9],10)] [11] zGV zGV (fun _ _ d _ _ h=>by cases d<;>exact h) ⟨⟨w.drew,(zB _ _).drew⟩,rfl⟩ ?_;intro wd hwd;have BD:=zW (show Below w.heap.size w wd by rw[hwd];exact(zB _ _).drew);clear hwd;refine mD zGW zGM ?_;repeat(go_big_quiet_step (fail))
 refine zY ?_;refine mH zGM ?_;intro K hK;go_wp2_with fail;refine(ZN A L.length c L wd (HH.out.1.below BD.out) rfl HH.out.2).mono ?_;rintro e w1 ⟨v,rfl,ho,hb⟩;obtain⟨A',c',rfl⟩:=uN ho;have B1:=zW (BD.out.trans (hb.mono BD.out.size));have S:=zW ((St.new ho rfl hb.size k).mono BD.out.size);have B:=zW (B1.out.alloc B1.out.size (.cells #[.slice A' L.length c',.int .u64 (k:Int)] 148));clear ho hb;simp only[];refine hK _ _ ⟨⟨w1,B1.out⟩,rfl⟩ ?_;clear hK K;refine mD zGW zGM ?_;repeat(go_big_quiet_step (fail))
 refine zY ?_;refine mH zGM ?_;intro K hK;go_wp2_with fail;refine hK _ _ ⟨⟨_,B.out⟩,rfl⟩ ?_;clear hK K;refine vW zGW ?_;repeat(go_big_quiet_step (fail))
 refine zY ?_;go_wp2_with fail;go_ret;exact⟨_,rfl,S.out,B.out⟩
theorem zZK(K L:Nat→Bool)(n:Nat)(d r:Bool)(hn:n<16)(hL:L=fun j=>if j=n then d else K j)(hr:r=(K n&& !d))(w:World):
  Calls Tryz.prog 38 #[.agg (kc K),.agg #[.int .i64 (n:Int),.bool d]] w fun x w'=>x=.returned (.tuple #[.agg (kc L),.bool r])∧Below w.heap.size w w':=by
 have HA:=zW hL;have HR:=zW hr;clear hL hr;have hz:=YX;have n0:0≤(n:Int):=zGX;have n1:¬(n:Int)<0:=zGX;have n2:(n:Int)<16:=zGX;go_enter Tryz.func38,Tryz.ntmps38;go_upto_region 1 with fail;have P:=zW (((KB.new w K).alloc (.cells #[.int .i64 (n:Int),.bool d] 69)).alloc (.cells (kc up) 74));have E:=zW ((Blk.new (w.alloc (.cells (kc K) 74)) 69 #[.int .i64 (n:Int),.bool d]).alloc (.cells (kc up) 74));have R:=zW (KB.new ((w.alloc (.cells (kc K) 74)).alloc (.cells #[.int .i64 (n:Int),.bool d] 69)) up);have B:=zW (((gS w (.cells (kc K) 74)).alloc zGN (.cells #[.int .i64 (n:Int),.bool d] 69)).alloc zGH (.cells (kc up) 74));simp only[zT]at P E R B;generalize ((w.alloc (.cells (kc K) 74)).alloc (.cells #[.int .i64 (n:Int),.bool d] 69)).alloc (.cells (kc up) 74)=w1 at*;clear hz;have c1:=E.out.cell 0;have c2:=E.out.cell 1;simp at c1 c2;obtain⟨p,hp⟩:∃p,w.heap.size=p:=⟨_,rfl⟩;rw[hp]at P E R B c1 c2⊢;have HP:=zW hp;clear hp;have f3:=P.out.fz n;cases hv:K n
 all_goals
  rw[hv]at HR
  have c3:=P.out.cell hn
  rw[hv]at c3
  clear hv
  go_upto_region 5 with fail
  refine zH ?_
  have P1:=zW (P.out.put hn d)
  have R1:=zW (R.out.other (g:=p) zGX n (.bool d))
  have B1:=zW (B.out.setCell (p:=⟨p,n,none⟩) (zG _) (.bool d))
  generalize w1.setCell ⟨p,n,none⟩ (.bool d)=w2 at*
  clear c1 c2 c3 f3
  rw[←HA.out]at P1
  clear HA P R B E
  refine lL tR P1.out (vB _) rfl (.tmp 2) rfl zGB ?_
  simp only[Act.put,zQ,zZ,zJ]
  iterate 3 go_step
  refine lM (ds:=kc L) tR R1.out (vB _) (vB _) (NA _) rfl (.tmp 4) (.tmp 32) rfl zGK zGK ?_
  have R2:=zW (R1.out.store L)
  have B2:=zW (KG B1.out (by omega:p≤p+1+1) (kc L))
  generalize w2.setRow (p+1+1) (kc L)=w3 at*
  iterate 8 go_step
  exact zP (tQ rfl _ _ (p+1+1) _ _ _ _ _ rfl rfl R2.out Tryz.underlying74 rfl (by rw[tR.i,vB])) rfl ⟨by rw[HR.out];simp,by rw[HP.out];exact B2.out⟩
theorem zZX(K:Nat→Bool)(e:Ev)(hk:¬(0≤e.k∧e.k≤15))(w:World):
  Calls Tryz.prog 38 #[.agg (kc K),.agg (ec e)] w fun x w'=>x=.returned (.tuple #[.agg (kc (ap K e)),.bool (rel K e)])∧Below w.heap.size w w':=by
 rw[ap_out hk,zYC hk];obtain⟨n,d⟩:=e;simp only at hk;have hz:=YX;unfold ec;simp only;rcases(show n<0∨16≤n by omega)with n1|n1
 all_goals
  clear hk
  go_enter Tryz.func38,Tryz.ntmps38
  go_upto_region 1 with fail
  have P:=zW (((KB.new w K).alloc (.cells #[.int .i64 n,.bool d] 69)).alloc (.cells (kc up) 74))
  have E:=zW ((Blk.new (w.alloc (.cells (kc K) 74)) 69 #[.int .i64 n,.bool d]).alloc (.cells (kc up) 74))
  have R:=zW (KB.new ((w.alloc (.cells (kc K) 74)).alloc (.cells #[.int .i64 n,.bool d] 69)) up)
  have B:=zW (((gS w (.cells (kc K) 74)).alloc zGN (.cells #[.int .i64 n,.bool d] 69)).alloc zGH (.cells (kc up) 74))
  simp only[zT]at P E R B
  generalize ((w.alloc (.cells (kc K) 74)).alloc (.cells #[.int .i64 n,.bool d] 69)).alloc (.cells (kc up) 74)=w1 at*
  clear hz
  have c1:=E.out.cell 0
  simp at c1
  obtain⟨p,hp⟩:∃p,w.heap.size=p:=⟨_,rfl⟩
  rw[hp]at P E R B c1⊢
  have HP:=zW hp
  clear hp
  go_upto_region 2 with fail
  refine zH ?_
  clear c1
  refine lL tR P.out (vB _) rfl (.tmp 2) rfl zGB ?_
  simp only[Act.put,zQ,zZ,zJ]
  refine lM (ds:=kc K) tR R.out (vB _) (vB _) (NA _) rfl (.tmp 4) (.tmp 15) rfl zGK zGK ?_
  have R2:=zW (R.out.store K)
  have B2:=zW (KG B.out (by omega:p≤p+1+1) (kc K))
  generalize w1.setRow (p+1+1) (kc K)=w3 at*
  iterate 8 go_step
  exact zP (tQ rfl _ _ (p+1+1) _ _ _ _ _ rfl rfl R2.out Tryz.underlying74 rfl (by rw[tR.i,vB])) rfl ⟨by simp,by rw[HP.out];exact B2.out⟩
theorem zZV(K:Nat→Bool)(e:Ev)(w:World):
  Calls Tryz.prog 38 #[.agg (kc K),.agg (ec e)] w fun x w'=>x=.returned (.tuple #[.agg (kc (ap K e)),.bool (rel K e)])∧Below w.heap.size w w':=by
 rcases key_or e.k with⟨n,h,hn⟩|h
 ·obtain⟨k,d⟩:=e;simp only at h;subst h;exact zZK K _ n d _ hn (ap_in rfl hn) (rel_in rfl hn) w
 ·exact zZX K e h w
theorem Blk.not_row{b base size k:Nat}{T e:TypeId}{cs:Array Value}{w:World}{v:Value}{xs:List Value}(h:Blk b T cs w)(hne:T≠e)(hr:w.ownsRow base e size v k xs):some b≠v.ownBlock:=by
 rcases hr.2 with⟨rfl,_⟩|⟨g,cap,cur,rfl,_,hgb,_⟩
 ·simp[Value.ownBlock]
 ·intro e';obtain rfl:b=g:=by simpa [Value.ownBlock]using e'
  have:some (Obj.cells cs T (0,0))=some (.cells cur e (0,0)):=(show w.heap[b]?=_ from h).symm.trans hgb;injection this with this
  injection this with _ h1
  exact hne h1
theorem ZM{w w':World}(hb:Below w.heap.size w w'):w.grownBy w' none:=⟨hb.os,hb.tape,hb.output,hb.size,fun k hk _=>hb.block k hk⟩
theorem zXT{w w':World}{base size k:Nat}{e:TypeId}{v:Value}{xs:List Value}(h:w.ownsRow base e size v k xs)(hb:Below w.heap.size w w'):w'.ownsRow base e size v k xs:=
 h.kept (ZM hb) (by
  rcases h.2 with⟨rfl,_⟩|⟨g,cap,cur,rfl,_⟩
  ·exact .inl rfl
  ·exact .inr (by simp[Value.ownBlock]))
structure Rec(n p r:Nat)(K:Nat→Bool)(L:List Int)(w:World):Prop where
 pad:KB p K w
 list:∃v,Boxed w r 52 v∧w.ownsRow n 3 1 v L.length (L.map (Value.int .i64))
theorem Rec.step{n p r:Nat}{K:Nat→Bool}{L:List Int}{w w':World}(h:Rec n p r K L w)(hb:Below w.heap.size w w'):Rec n p r K L w':=by
 obtain⟨h1,v,h2,h3⟩:=h;exact⟨h1.step hb,v,(hb.block r h2.lt).trans h2,zXT h3 hb⟩
theorem NI(w:World)(b:Nat)(cs:Array Value):w.grownBy (w.setRow b cs) (some b):=
 ⟨rfl,rfl,rfl,by simp[World.setRow],fun k _ hk=>qQ w b k cs (fun e=>hk (by rw[e]))⟩
theorem KB.ne_box{p r:Nat}{K:Nat→Bool}{w:World}{v:Value}(h:KB p K w)(hv:Boxed w r 52 v):r≠p:=by
 rintro rfl;have:some (Obj.cells (kc K) 74 (0,0))=some (.cells #[v] 52 (0,0)):=(show w.heap[r]?=_ from h).symm.trans hv;injection this with this
 injection this with _ h1
 exact absurd h1 zGL
theorem Blk.appended{b r base size k:Nat}{T e:TypeId}{cs:Array Value}{w w1:World}{v u:Value}{xs:List Value}{tmp:Obj}(h:Blk b T cs w)(hne:T≠e)(hr:w.ownsRow base e size v k xs)(hg:(w.alloc tmp).grownBy w1 v.ownBlock)(hb:b≠r):Blk b T cs (w1.setCell ⟨r,0,none⟩ u):=
 Blk.other (show Blk b T cs w1 from(hg.block b (by have:=h.lt;simp;omega) (h.not_row hne hr)).trans (h.alloc tmp)) hb 0 u
theorem Rec.store{n p r:Nat}{K K':Nat→Bool}{L:List Int}{w:World}(h:Rec n p r K L w):Rec n p r K' L (w.setRow p (kc K')):=by
 obtain⟨h1,v,h2,h3⟩:=h;exact⟨h1.store K',v,(qQ w p r _ (h1.ne_box h2)).trans h2,h3.kept (NI w p _) (.inr fun e=>Blk.not_row h1 zGL h3 e.symm)⟩
def KO(p r:Nat)(K:Nat→Bool)(v:Value):Type:={w:World//KB p K w∧w.cell? ⟨r,0,none⟩=some v}
def KO.w{p r:Nat}{K:Nat→Bool}{v:Value}(x:KO p r K v):World:=x.1
theorem KO.pad{p r:Nat}{K:Nat→Bool}{v:Value}(x:KO p r K v):KB p K x.w:=x.2.1
theorem KO.cell{p r:Nat}{K:Nat→Bool}{v:Value}(x:KO p r K v):x.w.cell? ⟨r,0,none⟩=some v:=x.2.2
end
end Go.Proofs.YtbpniahcjbagmaaGreatDoor
