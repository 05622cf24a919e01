/- PixSp, PixW, Plane, PlaneScr, PlaneComb, PlaneRows, PlaneEq, PlaneDraw, PlaneSpr, PlaneStep, ScrBox, ScrIter, ScrNeed, ScrChange. -/
import Derived.Test.YtbpniahcjbagmaaGreatDoorMPix4
set_option maxRecDepth 400000
set_option maxHeartbeats 64000000
set_option linter.unusedVariables false
set_option linter.unusedSimpArgs false
namespace Go.Proofs.YtbpniahcjbagmaaGreatDoor
section
open Go.RowKit Num
theorem T9(b c x m:Nat)(clip:Bool)(w:World)(hc:c=8∨c=16)(b1:b≤65535)(x1:x≤128)(m1:m≤128):
  Calls Tryz.prog 203 #[.int .u16 (b:Int),.int .i64 (c:Int),.int .i64 (x:Int),.int .i64 (m:Int),.bool clip] w fun e w'=>e=.returned (rv (rV b c x m clip))∧Below w.heap.size w w':=by
 obtain⟨m1',m2',em⟩:=yZ (uT m);obtain⟨i1,i2,ei⟩:=yZ (uA (sp0 b c) x m);obtain⟨j1,j2,ej⟩:=yZ (mv (sp0 b c) ((x:Int)-m));have hp:∀k:Nat,IntKind.u64.wrap ((b:Int)*2^min k 64)=((BitVec.ofNat 64 b<<<k).toNat:Int):=fun k=>by
  have h:=zJG (BitVec.ofNat 64 b) k;rw[BitVec.toNat_ofNat,kR zGX]at h;rw[IntKind.wrap_u64];exact h
 unfold rV;cases clip
 ·rw[zL zGN,ei,ej,XT,mY];rcases hc with rfl|rfl
  ·exact oZ b x m _ m1' m2' i1 i2 j1 j2 _ _ ej rfl rfl w (hp 56) zGX zGX zGX zGX zGX zGX em ei
  ·exact a8 b x m _ m1' m2' i1 i2 j1 j2 _ _ ej rfl rfl w (hp 48) zGX zGX zGX zGX zGX zGX em ei
 ·rw[zN rfl,ei,mY];rcases hc with rfl|rfl
  ·exact QY b x m _ m1' m2' i1 i2 w (hp 56) zGX zGX zGX zGX zGX zGX em ei
  ·exact oJ b x m _ m1' m2' i1 i2 w (hp 48) zGX zGX zGX zGX zGX zGX em ei
theorem zYV{b c x m:Nat}{bi ci xi mi:Int}{clip:Bool}{h l:BitVec 64}(e:rV b c x m clip=h++l)(hb:bi=(b:Int))(hci:ci=(c:Int))(hxi:xi=(x:Int))(hmi:mi=(m:Int))(hc:c=8∨c=16)(b1:b≤65535)(x1:x≤128)(m1:m≤128)(w:World):
  Calls Tryz.prog 203 #[.int .u16 bi,.int .i64 ci,.int .i64 xi,.int .i64 mi,.bool clip] w fun e w'=>e=.returned (.agg #[.int .u64 (h.toNat:Int),.int .u64 (l.toNat:Int)])∧Below w.heap.size w w':=by
 subst hb hci hxi hmi;rw[←mY,←e];exact T9 b c x m clip w hc b1 x1 m1
theorem shiftW{h l h' l':BitVec 64}{n m:Int}(e:uA (h++l) n m=h'++l')(n0: -1000≤n)(n1:n≤1000)(m0:0≤m)(m1:m≤128)(w:World):
  Calls Tryz.prog 204 #[.agg #[.int .u64 (h.toNat:Int),.int .u64 (l.toNat:Int)],.int .i64 n,.int .i64 m] w fun e w'=>e=.returned (.agg #[.int .u64 (h'.toNat:Int),.int .u64 (l'.toNat:Int)])∧Below w.heap.size w w':=by
 rw[←mY,←mY,←e];exact UJ _ n m w zGX zGX m0 m1
theorem andW{h l h' l' v1 v2:BitVec 64}(e:(h++l)&&&(h'++l')=v1++v2)(w:World):Calls Tryz.prog 202 #[.agg #[.int .u64 (h.toNat:Int),.int .u64 (l.toNat:Int)],.agg #[.int .u64 (h'.toNat:Int),.int .u64 (l'.toNat:Int)]] w fun e w'=>
  e=.returned (.agg #[.int .u64 (v1.toNat:Int),.int .u64 (v2.toNat:Int)])∧Below w.heap.size w w':=by
 rw[←mY,←mY,←mY,←e];exact zN6 _ _ w
theorem xorW{h l h' l' v1 v2:BitVec 64}(e:(h++l)^^^(h'++l')=v1++v2)(w:World):Calls Tryz.prog 201 #[.agg #[.int .u64 (h.toNat:Int),.int .u64 (l.toNat:Int)],.agg #[.int .u64 (h'.toNat:Int),.int .u64 (l'.toNat:Int)]] w fun e w'=>
  e=.returned (.agg #[.int .u64 (v1.toNat:Int),.int .u64 (v2.toNat:Int)])∧Below w.heap.size w w':=by
 rw[←mY,←mY,←mY,←e];exact F4 _ _ w
theorem oV{b:Bool}{m h:Nat}(hr:Res b m h)(w:World):Calls Tryz.prog 173 #[.bool b] w fun e w'=>e=.returned (.tuple #[.int .i64 (m:Int),.int .i64 (h:Int)])∧w=w':=by
 rcases hr with⟨rfl,rfl,rfl⟩|⟨rfl,rfl,rfl⟩
 all_goals
  go_enter Tryz.func173,Tryz.ntmps173
  go_wp2
  go_ret2
  exact⟨rfl,rfl⟩
def yS(Q:Pl)(k:Nat):Pl:=fun y=>if y<k then Q y else 0#128
theorem Y7(Q:Pl)(y:Nat):yS Q 0 y=0#128:=by simp[yS]
theorem GS(Q:Pl)(k y:Nat)(h:y<k):yS Q k y=Q y:=by rw[yS,zN h]
theorem GH(Q:Pl)(k:Nat)(r:BitVec 128)(hr:Q k=r)(y:Nat):YW (yS Q k) k r y=yS Q (k+1) y:=by
 by_cases e:y=k
 ·subst e;rw[tF,GS _ _ _ zGX,hr]
 ·rw[tS _ _ _ _ e];unfold yS;by_cases e2:y<k
  ·rw[zN e2,zN zGX]
  ·rw[zL e2,zL zGX]
theorem aV(Q:Pl)(k:Nat)(hr:Q k=0#128)(y:Nat):yS Q k y=yS Q (k+1) y:=by
 unfold yS;by_cases e2:y<k
 ·rw[zN e2,zN zGX]
 ·rw[zL e2];by_cases e:y=k
  ·subst e;rw[zN zGX,hr]
  ·rw[zL zGX]
theorem GF(Q:Pl)(k:Nat)(hQ:∀y,k≤y→Q y=0#128)(y:Nat):yS Q k y=Q y:=by
 unfold yS;by_cases e2:y<k
 ·rw[zN e2]
 ·rw[zL e2,hQ _ zGX]
theorem iZ(P:Pl)(dx dy:Int)(m h y:Nat)(hy:h≤y):m3 P dx dy m h y=0#128:=by
 unfold m3;rw[zL zGX]
theorem GV(P:Pl)(dx dy:Int)(b:Bool)(m h:Nat)(hr:Res b m h)(w:World)(d0: -1000≤dx)(d1:dx≤1000)(e0: -1000≤dy)(e1:dy≤1000):
  Calls Tryz.prog 179 #[.agg (lY P),.int .i64 dx,.int .i64 dy,.bool b] w fun e w'=>e=.returned (.agg (lY (m3 P dx dy m h)))∧Below w.heap.size w w':=by
 obtain⟨m0,m1,h0,h1⟩:=hr.bounds;have RR:=zW hr;have hz:=yU;clear hr;go_enter Tryz.func179,Tryz.ntmps179;go_wp2_with fail;have N1:=zW (nZ.new w P 41);have B1:=zW (vL w (.cells (lY P) 41));have S1:(w.alloc (.cells (lY P) 41)).heap.size=w.heap.size+1:=zGN;have M2:=zW (nZ.new (w.alloc (.cells (lY P) 41)) (fun _=>0#128) 41);rw[S1]at M2;have M1:=zW (N1.out.alloc (.cells (lY fun _=>0#128) 41));have B2:=zW (B1.out.alloc (by rw[S1];omega) (.cells (lY fun _=>0#128) 41));have S2:((w.alloc (.cells (lY P) 41)).alloc (.cells (lY fun _=>0#128) 41)).heap.size=w.heap.size+2:=zGN;clear N1 B1 S1;generalize (w.alloc (.cells (lY P) 41)).alloc (.cells (lY fun _=>0#128) 41)=w2 at*;refine(oV RR.out w2).mono ?_;rintro e w' ⟨rfl,rfl⟩;go_wp2;have L3:=zW (nZ.new w2 (fun _=>0#128) 41);rw[S2]at L3;have L2:=zW (M2.out.alloc (.cells (lY fun _=>0#128) 41));have L1:=zW (M1.out.alloc (.cells (lY fun _=>0#128) 41));have B3:=zW (B2.out.alloc (by rw[S2];omega) (.cells (lY fun _=>0#128) 41));clear M2 M1 B2 S2 hz;generalize w2.alloc (.cells (lY fun _=>0#128) 41)=w3 at*;go_loopw [20] (fun i wr=>∃k:Nat,k≤h∧i=.int .i64 (k:Int)∧nZ w.heap.size 41 P wr∧nZ (w.heap.size+1) 41 (fun _=>0#128) wr∧nZ (w.heap.size+2) 41 (yS (m3 P dx dy m h) k) wr∧Below w.heap.size w wr) (fun i _=>h-(intOf i).toNat)
 case atStart=>exact⟨0,by omega,rfl,L1.out,L2.out,L3.out.congr fun y _=>(Y7 _ y).symm,B3.out⟩
 case round=>
  clear L1 L2 L3 B3
  obtain⟨k,hk,rfl,h1',h2',h3',hB⟩:=hrel
  have Q:=zW (zM h1' (zM h2' (zM h3' hB)))
  clear h1' h2' h3' hB
  by_cases hlt:k<h
  ·have ki:(k:Int)<(h:Int):=zGX
   have k6:(k:Int)<64:=zGX
   rcases(show(0≤(k:Int)-dy∧(k:Int)-dy<h)∨¬0≤(k:Int)-dy∨(0≤(k:Int)-dy∧¬(k:Int)-dy<h) by omega)with⟨i1,i2⟩|i1|⟨i1,i2⟩
   ·obtain⟨f,hf⟩:∃f:Nat,(k:Int)-dy=f:=⟨((k:Int)-dy).toNat,by omega⟩
    have f6:f<64:=zGX
    have c1:=Q.out.1.left f f6
    have c2:=Q.out.1.right f f6
    have e3:m3 P dx dy m h k=uA (P f) dx m:=by
     unfold m3;rw[zN zGX,hf,Int.toNat_natCast]
    obtain⟨v1,v2,ev⟩:=yZ (uA (P f) dx m)
    have SH:=zW fun w=>shiftW (h:=hi (P f)) (l:=lo (P f)) (h':=v1) (l':=v2) (n:=dx) (m:=(m:Int)) (by rw[aT,ev]) d0 d1 zGX zGX w
    have EV:=zW (show m3 P dx dy m h k=v1++v2 by rw[e3,ev])
    clear e3 ev
    rw[hf]at i1 i2
    generalize hi (P f)=u1 at*
    generalize lo (P f)=u2 at*
    go_wp2_with fail
    refine(SH.out _).mono ?_
    rintro e w' ⟨rfl,hb⟩
    have Q2:=zW (zM (Q.out.1.step hb) (zM (Q.out.2.1.step hb) (zM (Q.out.2.2.1.step hb) (Q.out.2.2.2.trans (hb.mono Q.out.2.2.2.size)))))
    clear c1 c2 hb
    have k64:k<64:=zGX
    have c1:=Q2.out.2.2.1.left k k64
    have c2:=Q2.out.2.2.1.right k k64
    have c3:=Q2.out.2.2.1.frozen (k*2)
    have c4:=Q2.out.2.2.1.frozen (k*2+1)
    generalize hi (yS (m3 P dx dy m h) k k)=u3 at*
    generalize lo (yS (m3 P dx dy m h) k k)=u4 at*
    go_wp2
    go_roundw
    case rel=>
     exact⟨k+1,by omega,by go_num,(Q2.out.1.other zGX _ _).other zGX _ _,(Q2.out.2.1.other zGX _ _).other zGX _ _,(Q2.out.2.2.1.row k k64 v1 v2).congr fun y _=>GH _ _ _ EV.out y,(Q2.out.2.2.2.setCell (p:=⟨w.heap.size+2,k*2,none⟩) zGN _).setCell (p:=⟨w.heap.size+2,k*2+1,none⟩) zGN _⟩
    case measure=>simp[intOf];omega
   ·have HF:=zW (show m3 P dx dy m h k=0#128 by unfold m3;rw[zL zGX])
    go_wp2
    go_roundw
    case rel=>exact⟨k+1,by omega,by go_num,Q.out.1,Q.out.2.1,Q.out.2.2.1.congr fun y _=>aV _ _ HF.out y,Q.out.2.2.2⟩
    case measure=>simp[intOf];omega
   ·have HF:=zW (show m3 P dx dy m h k=0#128 by unfold m3;rw[zL zGX])
    go_wp2
    go_roundw
    case rel=>exact⟨k+1,by omega,by go_num,Q.out.1,Q.out.2.1,Q.out.2.2.1.congr fun y _=>aV _ _ HF.out y,Q.out.2.2.2⟩
    case measure=>simp[intOf];omega
  ·have ke:=zW (show k=h by omega)
   have ki:¬(k:Int)<(h:Int):=zGX
   have q2:=zW Q.out.2.1
   have q3:=zW (Q.out.2.2.1.congr (Q:=m3 P dx dy m h) fun y hy=>GF _ _ (fun j hj=>iZ _ _ _ _ _ _ (by have:=ke.out;omega)) y)
   have hb:=zW Q.out.2.2.2
   clear Q
   go_upto_region 10 with fail
   refine zH ?_
   refine kL rfl 41 (.tmp 11) rfl (w.heap.size+2) zGB _ _ _ _ q3.out Tryz.underlying41 rfl zGP ?_
   refine wpList_store_row rfl 41 (.tmp 8) (.tmp 44) rfl (w.heap.size+1) (lY (m3 P dx dy m h)) zGK zGK _ _ q2.out zGP (by rw[lH,lH]) (vI _) ?_
   have q4:=zW (q2.out.store (m3 P dx dy m h))
   have hb2:=zW (cF hb.out (show w.heap.size≤w.heap.size+1 by omega) (lY (m3 P dx dy m h)))
   generalize wr.setRow (w.heap.size+1) (lY (m3 P dx dy m h))=w4 at*
   iterate 4 go_step
   exact zP (zE rfl _ _ (w.heap.size+1) _ _ _ _ rfl q4.out Tryz.underlying41 rfl zGP) rfl ⟨rfl,hb2.out⟩
def pO(F:FuncId)(op:BitVec 128→BitVec 128→BitVec 128):Prop:=
 ∀(h l h' l' v1 v2:BitVec 64),op (h++l) (h'++l')=v1++v2→∀w:World,Calls Tryz.prog F #[.agg #[.int .u64 (h.toNat:Int),.int .u64 (l.toNat:Int)],.agg #[.int .u64 (h'.toNat:Int),.int .u64 (l'.toNat:Int)]] w fun e w'=>
  e=.returned (.agg #[.int .u64 (v1.toNat:Int),.int .u64 (v2.toNat:Int)])∧Below w.heap.size w w'
def rT(op:BitVec 128→BitVec 128→BitVec 128)(A B:Pl)(k:Nat):Pl:=fun y=>if y<k then op (A y) (B y)else A y
theorem ZT(op:BitVec 128→BitVec 128→BitVec 128)(A B:Pl)(k:Nat)(r:BitVec 128)(hr:op (A k) (B k)=r)(y:Nat):YW (rT op A B k) k r y=rT op A B (k+1) y:=by
 unfold rT;by_cases e:y=k
 ·subst e;rw[tF,zN zGX,hr]
 ·rw[tS _ _ _ _ e];by_cases e2:y<k
  ·rw[zN e2,zN zGX]
  ·rw[zL e2,zL zGX]
theorem J7(op:BitVec 128→BitVec 128→BitVec 128)(A B:Pl)(k:Nat):rT op A B k k=A k:=by
 rw[rT,zL zGX]
theorem zW5(w:World)(t:TypeId)(A B:Pl):nZ w.heap.size t A ((w.alloc (.cells (lY A) t)).alloc (.cells (lY B) t))∧nZ (w.heap.size+1) t B ((w.alloc (.cells (lY A) t)).alloc (.cells (lY B) t))∧
  Below w.heap.size w ((w.alloc (.cells (lY A) t)).alloc (.cells (lY B) t))∧((w.alloc (.cells (lY A) t)).alloc (.cells (lY B) t)).heap.size=w.heap.size+1+1:=by
 have S1:(w.alloc (.cells (lY A) t)).heap.size=w.heap.size+1:=zGN;have N2:=nZ.new (w.alloc (.cells (lY A) t)) B t;rw[S1]at N2;exact⟨(nZ.new w A t).alloc _,N2,(vL w _).alloc (by rw[S1];omega) _,by simp⟩
theorem fJ(w:World)(t:TypeId)(A B C:Pl):nZ w.heap.size t A (((w.alloc (.cells (lY A) t)).alloc (.cells (lY B) t)).alloc (.cells (lY C) t))∧nZ (w.heap.size+1) t B (((w.alloc (.cells (lY A) t)).alloc (.cells (lY B) t)).alloc (.cells (lY C) t))∧
  nZ (w.heap.size+1+1) t C (((w.alloc (.cells (lY A) t)).alloc (.cells (lY B) t)).alloc (.cells (lY C) t))∧Below w.heap.size w (((w.alloc (.cells (lY A) t)).alloc (.cells (lY B) t)).alloc (.cells (lY C) t)):=by
 obtain⟨h1,h2,h3,h4⟩:=zW5 w t A B;have N3:=nZ.new ((w.alloc (.cells (lY A) t)).alloc (.cells (lY B) t)) C t;rw[h4]at N3;exact⟨h1.alloc _,h2.alloc _,N3,h3.alloc (by rw[h4];omega) _⟩
theorem WI(op:BitVec 128→BitVec 128→BitVec 128)(hF:pO 201 op)(A B:Pl)(w:World):
  Calls Tryz.prog 200 #[.agg (lY A),.agg (lY B),.func (.func 201) #[] #[]] w fun e w'=>e=.returned (.agg (lY fun y=>op (A y) (B y)))∧Below w.heap.size w w':=by
 have hz:=yU;have FF:=zW hF;obtain⟨Z,hZ⟩:∃Z:Pl,(fun y=>op (A y) (B y))=Z:=⟨_,rfl⟩;rw[hZ];have ZZ:=zW hZ;clear hF hZ;go_enter Tryz.func200,Tryz.ntmps200;go_upto_region 1 with fail;have L:=zW (fJ w 41 A B (fun _=>0#128));generalize ((w.alloc (.cells (lY A) 41)).alloc (.cells (lY B) 41)).alloc (.cells (lY fun _=>0#128) 41)=w3 at*;clear hz;go_wp2;go_loopw [8] (fun i wr=>∃k:Nat,k≤64∧i=.int .i64 (k:Int)∧nZ w.heap.size 41 (rT op A B k) wr∧nZ (w.heap.size+1) 41 B wr∧nZ (w.heap.size+1+1) 41 (fun _=>0#128) wr∧Below w.heap.size w wr) (fun i _=>64-(intOf i).toNat)
 case atStart=>exact⟨0,by omega,rfl,L.out.1.congr fun y _=>by simp[rT],L.out.2.1,L.out.2.2.1,L.out.2.2.2⟩
 case round=>
  clear L
  obtain⟨k,hk,rfl,h1',h2',h3',hB⟩:=hrel
  have Q:=zW (zM h1' (zM h2' (zM h3' hB)))
  clear h1' h2' h3' hB
  by_cases hlt:k<64
  ·have ki:(k:Int)<64:=zGX
   obtain⟨v1,v2,ev⟩:=yZ (op (A k) (B k))
   have FC:=zW fun w=>FF.out (hi (A k)) (lo (A k)) (hi (B k)) (lo (B k)) v1 v2 (by rw[aT,aT,ev]) w
   have EV:=zW ev
   have KL:=zW hlt
   clear ev
   have a1:=Q.out.1.left k hlt
   have a2:=Q.out.1.right k hlt
   rw[J7]at a1 a2
   have a3:=Q.out.2.1.left k hlt
   have a4:=Q.out.2.1.right k hlt
   generalize hi (A k)=u1 at*
   generalize lo (A k)=u2 at*
   generalize hi (B k)=u3 at*
   generalize lo (B k)=u4 at*
   go_wp2
   have Q1:=zW (zM Q.out.1.drew (zM Q.out.2.1.drew (zM Q.out.2.2.1.drew Q.out.2.2.2.drew)))
   clear Q
   go_region_with (go_at_call 201;refine(FC.out _).mono ?_;rintro e wc ⟨rfl,b3⟩;have Q:=zW (zM (Q1.out.1.step b3) (zM (Q1.out.2.1.step b3) (zM (Q1.out.2.2.1.step b3) (Q1.out.2.2.2.trans (b3.mono Q1.out.2.2.2.size)))));clear Q1 b3 a1 a2 a3 a4;have a1:=Q.out.1.left k KL.out;have a2:=Q.out.1.right k KL.out;have a3:=Q.out.1.frozen (k*2);have a4:=Q.out.1.frozen (k*2+1))
   all_goals
    go_wp2
    go_roundw
    case rel=>
     exact⟨k+1,by omega,by go_num,(Q.out.1.row k KL.out v1 v2).congr fun y _=>ZT op A B k _ EV.out y,(Q.out.2.1.other zGX _ _).other zGX _ _,(Q.out.2.2.1.other zGX _ _).other zGX _ _,(Q.out.2.2.2.setCell (p:=⟨w.heap.size,k*2,none⟩) zGN _).setCell (p:=⟨w.heap.size,k*2+1,none⟩) zGN _⟩
    case measure=>simp[intOf];omega
  ·have ke:=zW (show k=64 by omega)
   have ki:¬(k:Int)<64:=zGX
   have q1:=zW (Q.out.1.congr (Q:=Z) fun y hy=>by rw[rT,zN (by rw[ke.out];exact hy),←ZZ.out])
   have q2:=zW Q.out.2.2.1
   have hb:=zW Q.out.2.2.2
   clear Q
   go_upto_region 6 with fail
   refine zH ?_
   refine kL rfl 41 (.tmp 3) rfl w.heap.size zGB _ _ _ _ q1.out Tryz.underlying41 rfl zGP ?_
   refine wpList_store_row rfl 41 (.tmp 6) (.tmp 25) rfl (w.heap.size+1+1) _ zGK (by simp[Act.eval,Act.put];rfl) _ _ q2.out zGP (by rw[lH,lH]) (vI _) ?_
   have q4:=zW (q2.out.store Z)
   have hb2:=zW (cF hb.out (show w.heap.size≤w.heap.size+1+1 by omega) (lY Z))
   generalize wr.setRow (w.heap.size+1+1) (lY Z)=w4 at*
   iterate 4 go_step
   exact zP (zE rfl _ _ (w.heap.size+1+1) _ _ _ _ rfl q4.out Tryz.underlying41 rfl zGP) rfl ⟨rfl,hb2.out⟩
theorem WO(op:BitVec 128→BitVec 128→BitVec 128)(hF:pO 202 op)(A B:Pl)(w:World):
  Calls Tryz.prog 200 #[.agg (lY A),.agg (lY B),.func (.func 202) #[] #[]] w fun e w'=>e=.returned (.agg (lY fun y=>op (A y) (B y)))∧Below w.heap.size w w':=by
 have hz:=yU;have FF:=zW hF;obtain⟨Z,hZ⟩:∃Z:Pl,(fun y=>op (A y) (B y))=Z:=⟨_,rfl⟩;rw[hZ];have ZZ:=zW hZ;clear hF hZ;go_enter Tryz.func200,Tryz.ntmps200;go_upto_region 1 with fail;have L:=zW (fJ w 41 A B (fun _=>0#128));generalize ((w.alloc (.cells (lY A) 41)).alloc (.cells (lY B) 41)).alloc (.cells (lY fun _=>0#128) 41)=w3 at*;clear hz;go_wp2;go_loopw [8] (fun i wr=>∃k:Nat,k≤64∧i=.int .i64 (k:Int)∧nZ w.heap.size 41 (rT op A B k) wr∧nZ (w.heap.size+1) 41 B wr∧nZ (w.heap.size+1+1) 41 (fun _=>0#128) wr∧Below w.heap.size w wr) (fun i _=>64-(intOf i).toNat)
 case atStart=>exact⟨0,by omega,rfl,L.out.1.congr fun y _=>by simp[rT],L.out.2.1,L.out.2.2.1,L.out.2.2.2⟩
 case round=>
  clear L
  obtain⟨k,hk,rfl,h1',h2',h3',hB⟩:=hrel
  have Q:=zW (zM h1' (zM h2' (zM h3' hB)))
  clear h1' h2' h3' hB
  by_cases hlt:k<64
  ·have ki:(k:Int)<64:=zGX
   obtain⟨v1,v2,ev⟩:=yZ (op (A k) (B k))
   have FC:=zW fun w=>FF.out (hi (A k)) (lo (A k)) (hi (B k)) (lo (B k)) v1 v2 (by rw[aT,aT,ev]) w
   have EV:=zW ev
   have KL:=zW hlt
   clear ev
   have a1:=Q.out.1.left k hlt
   have a2:=Q.out.1.right k hlt
   rw[J7]at a1 a2
   have a3:=Q.out.2.1.left k hlt
   have a4:=Q.out.2.1.right k hlt
   generalize hi (A k)=u1 at*
   generalize lo (A k)=u2 at*
   generalize hi (B k)=u3 at*
   generalize lo (B k)=u4 at*
   go_wp2
   have Q1:=zW (zM Q.out.1.drew (zM Q.out.2.1.drew (zM Q.out.2.2.1.drew Q.out.2.2.2.drew)))
   clear Q
   go_region_with (go_at_call 202;refine(FC.out _).mono ?_;rintro e wc ⟨rfl,b3⟩;have Q:=zW (zM (Q1.out.1.step b3) (zM (Q1.out.2.1.step b3) (zM (Q1.out.2.2.1.step b3) (Q1.out.2.2.2.trans (b3.mono Q1.out.2.2.2.size)))));clear Q1 b3 a1 a2 a3 a4;have a1:=Q.out.1.left k KL.out;have a2:=Q.out.1.right k KL.out;have a3:=Q.out.1.frozen (k*2);have a4:=Q.out.1.frozen (k*2+1))
   all_goals
    go_wp2
    go_roundw
    case rel=>
     exact⟨k+1,by omega,by go_num,(Q.out.1.row k KL.out v1 v2).congr fun y _=>ZT op A B k _ EV.out y,(Q.out.2.1.other zGX _ _).other zGX _ _,(Q.out.2.2.1.other zGX _ _).other zGX _ _,(Q.out.2.2.2.setCell (p:=⟨w.heap.size,k*2,none⟩) zGN _).setCell (p:=⟨w.heap.size,k*2+1,none⟩) zGN _⟩
    case measure=>simp[intOf];omega
  ·have ke:=zW (show k=64 by omega)
   have ki:¬(k:Int)<64:=zGX
   have q1:=zW (Q.out.1.congr (Q:=Z) fun y hy=>by rw[rT,zN (by rw[ke.out];exact hy),←ZZ.out])
   have q2:=zW Q.out.2.2.1
   have hb:=zW Q.out.2.2.2
   clear Q
   go_upto_region 6 with fail
   refine zH ?_
   refine kL rfl 41 (.tmp 3) rfl w.heap.size zGB _ _ _ _ q1.out Tryz.underlying41 rfl zGP ?_
   refine wpList_store_row rfl 41 (.tmp 6) (.tmp 25) rfl (w.heap.size+1+1) _ zGK (by simp[Act.eval,Act.put];rfl) _ _ q2.out zGP (by rw[lH,lH]) (vI _) ?_
   have q4:=zW (q2.out.store Z)
   have hb2:=zW (cF hb.out (show w.heap.size≤w.heap.size+1+1 by omega) (lY Z))
   generalize wr.setRow (w.heap.size+1+1) (lY Z)=w4 at*
   iterate 4 go_step
   exact zP (zE rfl _ _ (w.heap.size+1+1) _ _ _ _ rfl q4.out Tryz.underlying41 rfl zGP) rfl ⟨rfl,hb2.out⟩
theorem zJH:(Tryz.prog.info? 39).map (·.size)=some 128:=by kernel_rfl
theorem zYM:(Tryz.prog.info? 38).map (·.size)=some 2:=by kernel_rfl
theorem aF(P:Pl)(k:Nat)(hk:k<64):(lY P).extract (k*2) (k*2+2)=#[.int .u64 ((hi (P k)).toNat:Int),.int .u64 ((lo (P k)).toNat:Int)]:=by
 apply qH
 intro j
 rw[jS];by_cases hj:j<2
 ·rw[zN zBX,xG _ _ zGX];rcases(show j=0∨j=1 by omega)with rfl|rfl
  ·rw[show k*2+0=2*k by omega,fQ];rfl
  ·rw[show k*2+1=2*k+1 by omega,iA];rfl
 ·rw[zL zBX,zF zGH]
section
variable {P:Program}
theorem yF(d:Nat)(ta tr:TypeId)(dr:TypeDesc)(n sz:Nat)(xs ys:Array Value)(r:Nat→Bool)(hd:(match dr with| .struct _| .array _ _=>true|_=>false)=true)(ht:P.underlying ta=some (.array n tr))(hu:P.underlying tr=some dr)(hi:(P.info? tr).map (·.size)=some sz)
  (h:∀i,i<n→∀w,(Op.equalIn d tr (.agg (xs.extract (i*sz) (i*sz+sz))) (.agg (ys.extract (i*sz) (i*sz+sz)))).run P w=.ok (r i) w) (w:World):
  (Op.equalIn (d+1) ta (.agg xs) (.agg ys)).run P w=.ok ((List.range' 0 n).all r) w:=by
 cases hq:P.info? tr with
 |none=>simp[hq]at hi
 |some i=>
  have hs:i.size=sz:=zG5
  simp only[Op.equalIn,zA,jV ht,Result.andThen_ok,sizeOf,typeInfo,hq,hs,Sem.run_pure]
  have go:∀l:List Nat,(∀i∈l,i<n)→(forIn (m:=Sem) l ((none:Option Bool),()) (fun i _=>do
      let a←part tr xs (i*sz)
      let b←part tr ys (i*sz)
      let r←Op.equalIn d tr a b
      if r=false then pure (ForInStep.done (some false,()))else pure (ForInStep.yield (none,())))).run P w=.ok ((if l.all r then none else some false),()) w:=by
   intro l;induction l with
   |nil=>intro _;simp
   |cons k l ih=>
    intro hl
    simp only[List.forIn_cons,zA,xU tr dr xs (k*sz) sz w hd hu hi,xU tr dr ys (k*sz) sz w hd hu hi,Result.andThen_ok,h k (hl k zGN) w]
    cases hk:r k
    ·simp[hk]
    ·simp[hk]
     have:=ih fun i hi=>hl i (by simp[hi])
     simpa using this
  have hgo:=go (List.range' 0 n) fun i hi=>by have:=kX.1 hi;omega
  simp[zA,hq,hs,Std.Legacy.Range.forIn_eq_forIn_range']at hgo⊢
  rw[hgo]
  have ha:(List.range' 0 n).all r=true↔∀x,x<n→r x=true:=by simp[jJ,kX]
  by_cases hall:∀x,x<n→r x=true
  ·rw[ha.2 hall];simp only[Result.andThen_ok,zN hall];simp
  ·cases hb:(List.range' 0 n).all r
   ·simp only[Result.andThen_ok,zL hall];simp
   ·exact absurd (ha.1 hb) hall
end
def wC(A B:Pl):Bool:=(List.range' 0 64).all fun y=>decide (A y=B y)
theorem eU(A B:Pl):wC A B=true↔∀y,y<64→A y=B y:=by
 unfold wC;rw[jJ];constructor
 ·intro h y hy;have:=h y (by rw[kX];omega);exact qA this
 ·intro h y hy;rw[kX]at hy;exact qY (h y zGX)
theorem zJE(h l h' l':BitVec 64)(d:Nat)(w:World):(Op.equalIn (d+2) 38 (.agg #[.int .u64 (h.toNat:Int),.int .u64 (l.toNat:Int)]) (.agg #[.int .u64 (h'.toNat:Int),.int .u64 (l'.toNat:Int)])).run Tryz.prog w=.ok (decide (h++l=h'++l')) w:=by
 have ht:Tryz.prog.underlying 38=some (.struct (Tryz.prog.fieldsOf 38)):=zGV;have hp:Tryz.prog.stoodInHeld 38=false:=zGV;rw[run_equalIn_struct (P:=Tryz.prog) w (d+1) 38 _ _ ht hp];simp[Program.fieldsOf,Tryz.underlying38,Op.eqFields,go_sem];have e:h++l=h'++l'↔((h.toNat:Int)=h'.toNat∧(l.toNat:Int)=l'.toNat):=by
  rw[zN3,←BitVec.toNat_inj,←BitVec.toNat_inj];omega
 by_cases e1:(h.toNat:Int)=h'.toNat
 ·by_cases e2:(l.toNat:Int)=l'.toNat
  ·rw[zN e1,zN e2,qY (e.2 ⟨e1,e2⟩)]
  ·rw[zN e1,zL e2,zO fun q=>e2 (e.1 q).2]
 ·rw[zL e1,zO fun q=>e1 (e.1 q).1]
theorem WG(C:Pl):(lY C).extract 0 (0+128)=lY C:=by
 apply qH
 intro j
 rw[jS,lH];by_cases hj:j<128
 ·rw[zN zGX,qL]
 ·rw[zL zGX,zF zBX]
theorem bW(A B:Pl)(d:Nat)(w:World):(Op.equalIn (d+4) 41 (.agg (lY A)) (.agg (lY B))).run Tryz.prog w=.ok (wC A B) w:=by
 have ht:Tryz.prog.underlying 41=some (.struct (Tryz.prog.fieldsOf 41)):=zGV;have hp:Tryz.prog.stoodInHeld 41=false:=zGV;rw[run_equalIn_struct (P:=Tryz.prog) w (d+3) 41 _ _ ht hp];have hx:∀C:Pl,(part 39 (lY C) 0).run Tryz.prog w=.ok (.agg (lY C)) w:=by
  intro C;rw[xU (P:=Tryz.prog) 39 _ (lY C) 0 128 w rfl Tryz.underlying39 zJH,WG]
 have he:(Op.equalIn (d+3) 39 (.agg (lY A)) (.agg (lY B))).run Tryz.prog w=.ok (wC A B) w:=yF (P:=Tryz.prog) (d+2) 39 38 _ 64 2 (lY A) (lY B) (fun y=>decide (A y=B y)) rfl Tryz.underlying39 Tryz.underlying38 zYM (fun y hy w=>by
  rw[aF A y hy,aF B y hy,zJE,aT,aT]) w
 have hxA:=hx A;have hxB:=hx B;clear hx ht hp;generalize wC A B=v at*;generalize lY A=CA at*;generalize lY B=CB at*;simp only[Program.fieldsOf,Tryz.underlying41,Op.eqFields];rw[zN zGL,zA,hxA,Result.andThen_ok,zA,hxB,Result.andThen_ok,zA,he,Result.andThen_ok];cases v
 ·rw[zN zGL,Sem.run_pure]
 ·rw[zL zGL,Sem.run_pure]
theorem OX(A B:Pl)(w:World):(binOp .neq 41 (.agg (lY A)) (.agg (lY B))).run Tryz.prog w=.ok (.bool (!wC A B)) w:=by
 have h:=bW A B 9996 w;have e:(10000:Nat)=9996+4:=zGL;rw[run_neq_struct,e,h];simp only[Result.andThen_ok]
theorem N8:Tryz.prog.eqGuardType Tryz.prog.depth 41=false:=by kernel_rfl
section
variable {P:Program} {ops:Array Oper} {C:World→Prop} {Q:Act→Prop}
theorem cC{o:Oper}{rest:List Oper}{a:Act}(hgd:o.guard=none)(v:Value)(h1:∀w,C w→(execOp a.eval o).run P w=.ok (.value v) w)(h:wpQuiet P ops C Q rest (a.put o.dst v)):wpQuiet P ops C Q (o::rest) a:=by
 have hw:Region.wanted o (yielded ops a.tmps)=true:=by simp[Region.wanted,hgd]
 exact zRC
theorem dT{o:Oper}{ρ:Operand→Value}{w:World}(ty:TypeId)(x:Operand)(ho:o.op=.load ty x)(g:Nat)(hx:ρ x=.pointer (some ⟨g,0,none⟩))(t:TypeId)(cs:Array Value)(fr:Nat×Nat)(d:TypeDesc)(hg:w.heap[g]?=some (.cells cs t fr))
  (hu:P.underlying ty=some d) (hd:(match d with| .struct _| .array _ _=>true|_=>false)=true) (hi:(P.info? ty).map (·.size)=some cs.size):(execOp ρ o).run P w=.ok (.value (.agg cs)) w:=by
 unfold execOp;simp only[ho,hx,Instr.loadAt,Instr.sureAddr,zA,Sem.run_pure,Result.andThen_ok,run_loadVar_row w g t ty cs fr d hg hu hd hi]
theorem ZB{o:Oper}{ρ:Operand→Value}{w:World}(ty:TypeId)(ho:o.op=.build ty #[])(r:Value)(hr:(Instr.build ty #[]).run P w=.ok r w):(execOp ρ o).run P w=.ok (.value r) w:=by
 unfold execOp;simp only[ho];rw[show(#[]:Array (Nat×Operand)).map (fun(x:Nat×Operand)=>(x.1,ρ x.2))=#[] by simp,zA,hr];simp[Result.andThen_ok]
end
theorem WD{P:Program}{o:Oper}{ρ:Operand→Value}{w:World}(x:Operand)(ho:o.op=.assign x)(v:Value)(hx:ρ x=v):(execOp ρ o).run P w=.ok (.value v) w:=by
 unfold execOp;simp[ho,hx]
theorem tA{P:Program}{fn:Func}{p q:Tmp}{ty:TypeId}(h:fn.results=#[.cell p ty,.tmp q])(tmps:Array Value)(w:World)(g:Nat)(t:TypeId)(cs:Array Value)(fr:Nat×Nat)(d:TypeDesc)(v:Value)
  (hp:tmps.getD p undef=.pointer (some ⟨g,0,none⟩)) (hq:tmps.getD q undef=v) (hg:w.heap[g]?=some (.cells cs t fr))
  (hu:P.underlying ty=some d) (hd:(match d with| .struct _| .array _ _=>true|_=>false)=true) (hi:(P.info? ty).map (·.size)=some cs.size):
  (results fn tmps).run P w=.ok (.tuple #[.agg cs,v]) w:=by
 exact zRQ
theorem ZE(w:World):(Instr.build 41 #[]).run Tryz.prog w=.ok (.agg (lY fun _=>0#128)) w:=by
 refine run_build w 41 _ _ ?_;obtain⟨it,hit,hz⟩:=kT.1 JO;simp only[kQ]at hz;have hp:(match Tryz.prog.underlying 41 with|some (.struct fields)=>fields.toList.mapM (fun f=>(Tryz.prog.info? f.type).map fun i=>(f.offset,i.size))|_=>none)=some [(0,128)]:=by kernel_rfl
 rw[Tryz.underlying41]at hp;unfold Program.built;rw[hit,Tryz.underlying41];simp only at hp⊢;rw[hz.1,hp];rfl
theorem zK9{o:Oper}{ρ:Operand→Value}{w:World}(x y:Operand)(z:TypeId)(ho:o.op=.binOp .neq 41 x y z)(A B:Pl)(hx:ρ x=.agg (lY A))(hy:ρ y=.agg (lY B)):(execOp ρ o).run Tryz.prog w=.ok (.value (.bool (!wC A B))) w:=by
 unfold execOp;simp only[ho,hx,hy];rw[zA,zA,run_eqGuard_agg w .neq 41 x y (lY A) (lY B) N8,Result.andThen_ok,OX,Result.andThen_ok,Sem.run_pure]
theorem UM(A B:Pl):(!wC (fun y=>A y&&&B y) (fun _=>0#128))=gA A B:=by
 rw[Bool.eq_iff_iff,zXM];cases h:wC (fun y=>A y&&&B y) (fun _=>0#128)
 ·simp only[Bool.not_false,true_iff];rcases Classical.em (∃y,y<64∧A y&&&B y≠0#128)with h2|h2
  ·exact h2
  ·have h3:=(eU (fun y=>A y&&&B y) (fun _=>0#128)).2 fun y hy=>by
    rcases Classical.em (A y&&&B y=0#128)with h4|h4
    ·exact h4
    ·exact absurd ⟨y,hy,h4⟩ h2
   rw[h]at h3;cases h3
 ·simp only[Bool.not_true,Bool.false_eq_true,false_iff];rintro⟨y,hy,h4⟩;exact h4 ((eU _ _).1 h y hy)
theorem XV:pO 201 (·^^^·):=fun h l h' l' v1 v2 e w=>xorW e w
theorem XL:pO 202 (·&&&·):=fun h l h' l' v1 v2 e w=>andW e w
structure PB2(s:Nat)(t:TypeId)(A B:Pl) where
 w:World
 a:nZ s t A w
 b:nZ (s+1) t B w
theorem zVW(A B:Pl)(w:World):
  Calls Tryz.prog 176 #[.agg (lY A),.agg (lY B)] w fun e w'=>e=.returned (.tuple #[.agg (lY (rR A B)),.bool (gA A B)])∧Below w.heap.size w w':=by
 have hz:=yU;obtain⟨Z,hZ⟩:∃Z,rR A B=Z:=⟨_,rfl⟩;obtain⟨X,hX⟩:∃X:Pl,(fun y=>A y&&&B y)=X:=⟨_,rfl⟩;obtain⟨hb,hh⟩:∃hb,gA A B=hb:=⟨_,rfl⟩;have CX:=zW fun w=>WI (·^^^·) XV A B w;have CA:=zW fun w=>WO (·&&&·) XL A B w;have SZ:=zW (UM A B);have DE:(fun y=>A y^^^B y)=rR A B:=rfl;rw[DE,hZ]at CX;rw[hX]at CA SZ;rw[hh]at SZ;rw[hZ,hh];clear hZ hX hh DE;go_enter Tryz.func176,Tryz.ntmps176;go_upto_region 1 with fail;have L:=zW (fJ w 41 A B (fun _=>0#128));generalize ((w.alloc (.cells (lY A) 41)).alloc (.cells (lY B) 41)).alloc (.cells (lY fun _=>0#128) 41)=w3 at*;clear hz;refine mT (C:=fun w'=>∃x:PB2 w.heap.size 41 A B,w'=x.w) [([0,1,3,4,6],2),([],5),([7],8)] [9] zGV zGV (fun _ _ d _ _ h=>by cases d<;>exact h) ⟨⟨w3.drew,L.out.1.drew,L.out.2.1.drew⟩,rfl⟩ ?_;intro wd hwd;have D:=zW (show nZ w.heap.size 41 A wd∧nZ (w.heap.size+1) 41 B wd∧nZ (w.heap.size+1+1) 41 (fun _=>0#128) wd∧Below w.heap.size w wd by rw[hwd];exact⟨L.out.1.drew,L.out.2.1.drew,L.out.2.2.1.drew,L.out.2.2.2.drew⟩);clear hwd L;refine mD zGW zGM ?_;refine cC rfl (.agg (lY A)) (fun w' hC=>by obtain⟨x,rfl⟩:=hC;exact dT 41 (.tmp 2) rfl w.heap.size zGK _ _ _ _ x.a Tryz.underlying41 rfl zGP) ?_;refine cC rfl (.agg (lY B)) (fun w' hC=>by obtain⟨x,rfl⟩:=hC;exact dT 41 (.tmp 3) rfl (w.heap.size+1) zGK _ _ _ _ x.b Tryz.underlying41 rfl zGP) ?_;refine cC rfl (.agg (lY A)) (fun w' hC=>by obtain⟨x,rfl⟩:=hC;exact dT 41 (.tmp 2) rfl w.heap.size zGK _ _ _ _ x.a Tryz.underlying41 rfl zGP) ?_;refine cC rfl (.agg (lY B)) (fun w' hC=>by obtain⟨x,rfl⟩:=hC;exact dT 41 (.tmp 3) rfl (w.heap.size+1) zGK _ _ _ _ x.b Tryz.underlying41 rfl zGP) ?_;refine cC rfl _ (fun w' _=>ZB 41 rfl _ (ZE w')) ?_;refine zY ?_;refine mH zGM ?_;intro K hK;go_wp2_with fail;refine(CX.out _).mono ?_;rintro e w4 ⟨rfl,b4⟩;have D4:=zW (zM (D.out.1.step b4) (zM (D.out.2.1.step b4) (zM (D.out.2.2.1.step b4) (D.out.2.2.2.trans (b4.mono D.out.2.2.2.size)))));clear D b4;simp only[];refine hK _ _ ⟨⟨w4,D4.out.1,D4.out.2.1⟩,rfl⟩ ?_;clear hK K;refine mD zGW zGM ?_;refine zY ?_;refine mH zGM ?_;intro K hK;go_wp2_with fail;refine(CA.out _).mono ?_;rintro e w5 ⟨rfl,b5⟩;have D5:=zW (zM (D4.out.1.step b5) (zM (D4.out.2.1.step b5) (zM (D4.out.2.2.1.step b5) (D4.out.2.2.2.trans (b5.mono D4.out.2.2.2.size)))));clear D4 b5;simp only[];refine hK _ _ ⟨⟨w5,D5.out.1,D5.out.2.1⟩,rfl⟩ ?_;clear hK K;refine mD zGW zGM ?_;refine cC rfl (.bool hb) (fun w' _=>by rw[←SZ.out];exact zK9 (.tmp 11) (.tmp 12) _ rfl X (fun _=>0#128) zGK zGK) ?_;refine zY ?_;refine mH zGM ?_;intro K hK;refine wp_store_row 41 (.tmp 4) (.tmp 8) rfl (w.heap.size+1+1) (lY Z) zGK zGK _ _ D5.out.2.2.1 zGP (by rw[lH,lH]) (vI _) ?_;have q4:=zW (D5.out.2.2.1.store Z);have q5:=zW (zM (D5.out.1.otherRow (g:=w.heap.size+1+1) zGX (lY Z)) (D5.out.2.1.otherRow (g:=w.heap.size+1+1) zGX (lY Z)));have hb2:=zW (cF D5.out.2.2.2 (show w.heap.size≤w.heap.size+1+1 by omega) (lY Z));generalize w5.setRow (w.heap.size+1+1) (lY Z)=w6 at*;refine hK _ _ ⟨⟨w6,q5.out.1,q5.out.2⟩,rfl⟩ ?_;clear hK K;refine vW zGW ?_;refine cC rfl (.bool hb) (fun w' _=>WD (.tmp 13) rfl _ zGK) ?_;refine zY ?_;iterate 3 go_step
 exact zP (tA rfl _ _ (w.heap.size+1+1) _ _ _ _ (.bool hb) rfl rfl q4.out Tryz.underlying41 rfl zGP) rfl ⟨rfl,hb2.out⟩
theorem VN(A:Option Addr)(L:List Nat)(n cap c x y:Nat)(clip b:Bool)(m h:Nat)(hr:Res b m h)(w:World)(H:hE w A L)(hL:∀x∈L,x≤65535)(hn:L.length=n)(n1:n≤16)(c8:c=8∨c=16)(hx:x<m)(hy:y<h):
  Calls Tryz.prog 177 #[.slice A n cap,.int .i64 (c:Int),.int .i64 (x:Int),.int .i64 (y:Int),.bool b,.bool clip] w fun e w'=>e=.returned (.agg (lY (spr (nth L) n c x y m h clip)))∧Below w.heap.size w w':=by
 obtain⟨m0,m1,h0,h1⟩:=hr.bounds;have HH:=zW (zM H (zM hL hn));have RR:=zW hr;have hz:=yU;have C8:=zW c8;have cc:c≤16:=zGX;clear hr H hL hn c8;go_enter Tryz.func177,Tryz.ntmps177;go_wp2_with fail;have N1:=zW (nZ.new w (fun _=>0#128) 41);have B1:=zW (vL w (.cells (lY fun _=>0#128) 41));have S1:(w.alloc (.cells (lY fun _=>0#128) 41)).heap.size=w.heap.size+1:=zGN;generalize w.alloc (.cells (lY fun _=>0#128) 41)=w1 at*;refine(oV RR.out w1).mono ?_;rintro e w' ⟨rfl,rfl⟩;go_wp2;have L2:=zW (nZ.new w1 (fun _=>0#128) 41);rw[S1]at L2;have L1:=zW (N1.out.alloc (.cells (lY fun _=>0#128) 41));have B2:=zW (B1.out.alloc (by rw[S1];omega) (.cells (lY fun _=>0#128) 41));clear N1 B1 S1 hz;generalize w1.alloc (.cells (lY fun _=>0#128) 41)=w2 at*;go_loopw [26] (fun t wr=>∃i:Nat,i≤n∧t=.int .i64 (i:Int)∧nZ w.heap.size 41 (fun _=>0#128) wr∧nZ (w.heap.size+1) 41 (spr (nth L) i c x y m h clip) wr∧Below w.heap.size w wr) (fun t _=>n-(intOf t).toNat)
 case atStart=>exact⟨0,by omega,rfl,L1.out,L2.out.congr fun j _=>(zJW _ _ _ _ _ _ _ hy j).symm,B2.out⟩
 case round=>
  clear L1 L2 B2
  obtain⟨i,hi,rfl,h1',h2',hB⟩:=hrel
  have Q:=zW (zM h1' (zM h2' hB))
  clear h1' h2' hB
  by_cases hlt:i<n
  ·have hii:(i:Int)<(n:Int):=zGX
   obtain⟨ad,hA,had,hcell⟩:=(HH.out.1.below Q.out.2.2).at_ (k:=i) (by rw[HH.out.2.2];exact hlt)
   have bl:=nth_le HH.out.2.1 i
   change wr.cell? (ad.add i)=some (.int .u16 (nth L i:Int))at hcell
   obtain⟨v,hv⟩:∃v,nth L i=v:=⟨_,rfl⟩
   rw[hv]at hcell bl
   have HV:=zW hv
   obtain rfl:=hA
   clear hv had
   obtain⟨v1,v2,ev⟩:=yZ (rV v c x m clip)
   have SP:=zW fun w=>zYV (b:=v) (c:=c) (x:=x) (m:=m) (clip:=clip) ev rfl rfl rfl rfl C8.out bl zGX m1 w
   have EV:=zW ev
   clear ev
   have ea:(y:Int)+(i:Int)=((y+i:Nat):Int):=zGX
   obtain⟨a,ha⟩:∃a,a=y+i:=⟨_,rfl⟩
   rw[←ha]at ea
   have a9:(a:Int)≤1000:=zGX
   have HA:=zW ha
   clear ha
   rcases jU a h with hin|hin
   ·have r6:a<64:=by have:=HA.out;omega
    have r7:(a:Int)<(h:Int):=zGX
    go_wp2_with fail
    refine(SP.out _).mono ?_
    rintro e w' ⟨rfl,hb⟩
    have Q2:=zW (zM (Q.out.1.step hb) (zM (Q.out.2.1.step hb) (Q.out.2.2.trans (hb.mono Q.out.2.2.size))))
    clear hb hcell
    have c1:=Q2.out.2.1.left a r6
    have c2:=Q2.out.2.1.right a r6
    have c3:=Q2.out.2.1.frozen (a*2)
    have c4:=Q2.out.2.1.frozen (a*2+1)
    generalize Num.hi (spr (nth L) i c x y m h clip a)=u3 at*
    generalize Num.lo (spr (nth L) i c x y m h clip a)=u4 at*
    go_wp2
    go_roundw
    case rel=>
     refine⟨i+1,by omega,by go_num,(Q2.out.1.other zGX _ _).other zGX _ _,(Q2.out.2.1.row a r6 v1 v2).congr fun j _=>?_,(Q2.out.2.2.setCell (p:=⟨w.heap.size+1,a*2,none⟩) zGN _).setCell (p:=⟨w.heap.size+1,a*2+1,none⟩) zGN _⟩
     rw[spr_in _ _ _ _ _ _ _ _ zGX hy (by have:=HA.out;omega),HV.out,EV.out,←HA.out]
     by_cases e:j=a
     ·rw[e,tF,zN rfl]
     ·rw[tS _ _ _ _ e,zL e]
    case measure=>simp[intOf];omega
   ·have hii2:¬(a:Int)<(h:Int):=zGX
    cases clip
    ·obtain⟨r,hr⟩:∃r,r=a-h:=⟨_,rfl⟩
     have HR:=zW hr
     have HRR:=zW (show r=y+i-h by have:=HA.out;omega)
     have er:(a:Int)-(h:Int)=(r:Int):=zGX
     have er7:r<h:=by have:=HA.out;omega
     clear hr
     have r6:r<64:=by have:=HA.out;omega
     have r7:(r:Int)<(h:Int):=zGX
     go_wp2_with fail
     refine(SP.out _).mono ?_
     rintro e w' ⟨rfl,hb⟩
     have Q2:=zW (zM (Q.out.1.step hb) (zM (Q.out.2.1.step hb) (Q.out.2.2.trans (hb.mono Q.out.2.2.size))))
     clear hb hcell
     have c1:=Q2.out.2.1.left r r6
     have c2:=Q2.out.2.1.right r r6
     have c3:=Q2.out.2.1.frozen (r*2)
     have c4:=Q2.out.2.1.frozen (r*2+1)
     generalize Num.hi (spr (nth L) i c x y m h false r)=u3 at*
     generalize Num.lo (spr (nth L) i c x y m h false r)=u4 at*
     go_wp2
     go_roundw
     case rel=>
      refine⟨i+1,by omega,by go_num,(Q2.out.1.other zGX _ _).other zGX _ _,(Q2.out.2.1.row r r6 v1 v2).congr fun j _=>?_,(Q2.out.2.2.setCell (p:=⟨w.heap.size+1,r*2,none⟩) zGN _).setCell (p:=⟨w.heap.size+1,r*2+1,none⟩) zGN _⟩
      rw[zYY _ _ _ _ _ _ _ zGX hy (by have:=HA.out;omega),HV.out,EV.out,←HRR.out]
      by_cases e:j=r
      ·rw[e,tF,zN rfl]
      ·rw[tS _ _ _ _ e,zL e]
     case measure=>simp[intOf];omega
    ·go_wp2
     go_roundw
     case rel=>
      exact⟨i+1,by omega,by go_num,Q.out.1,Q.out.2.1.congr fun j _=>(zJY _ _ _ _ _ _ _ (by have:=HA.out;omega) j).symm,Q.out.2.2⟩
     case measure=>simp[intOf];omega
  ·have ke:=zW (show i=n by omega)
   have ki:¬(i:Int)<(n:Int):=zGX
   have q1:=zW Q.out.1
   have q2:=zW (Q.out.2.1.congr (Q:=spr (nth L) n c x y m h clip) fun j _=>by rw[ke.out])
   have hb:=zW Q.out.2.2
   clear Q
   go_upto_region 12 with fail
   refine zH ?_
   refine kL rfl 41 (.tmp 15) rfl (w.heap.size+1) zGB _ _ _ _ q2.out Tryz.underlying41 rfl zGP ?_
   refine wpList_store_row rfl 41 (.tmp 12) (.tmp 61) rfl w.heap.size (lY (spr (nth L) n c x y m h clip)) zGK zGK _ _ q1.out zGP (by rw[lH,lH]) (vI _) ?_
   have q4:=zW (q1.out.store (spr (nth L) n c x y m h clip))
   have hb2:=zW (cF hb.out (zG _) (lY (spr (nth L) n c x y m h clip)))
   generalize wr.setRow w.heap.size (lY (spr (nth L) n c x y m h clip))=w4 at*
   iterate 4 go_step
   exact zP (zE rfl _ _ w.heap.size _ _ _ _ rfl q4.out Tryz.underlying41 rfl zGP) rfl ⟨rfl,hb2.out⟩
section
variable {P:Program} {ops:Array Oper} {C:World→Prop}
end
section
variable {ops:Array Oper} {W:World}
theorem BU{Q:Exit→Act→World→Prop}{o:Oper}{rest:List Oper}{a:Act}(hgd:o.guard=none)(ho:o.op=.build 41 #[])(h:wpList Tryz.prog ops Q rest (a.put o.dst (.agg (lY fun _=>0#128))) W):wpList Tryz.prog ops Q (o::rest) a W:=by
 refine qZ hgd fun K hK=>?_;unfold Oper.wp;rw[ZB 41 ho _ (ZE W)];exact hK _ _ h
end
theorem spW{A:Option Addr}{L:List Nat}{n cap c x y:Nat}{ci xi yi:Int}{clip b:Bool}{m h:Nat}(hr:Res b m h){w:World}(H:hE w A L)(hL:∀x∈L,x≤65535)(hn:L.length=n)(n1:n≤16)(c8:c=8∨c=16)(hx:x<m)(hy:y<h)(e1:ci=(c:Int))(e2:xi=(x:Int))(e3:yi=(y:Int)){Z:Pl}(hZ:spr (nth L) n c x y m h clip=Z):
  Calls Tryz.prog 177 #[.slice A n cap,.int .i64 ci,.int .i64 xi,.int .i64 yi,.bool b,.bool clip] w fun e w'=>e=.returned (.agg (lY Z))∧Below w.heap.size w w':=by
 subst e1 e2 e3 hZ;exact VN A L n cap c x y clip b m h hr w H hL hn n1 c8 hx hy
theorem drW{A B Z:Pl}{v:Bool}(e1:rR A B=Z)(e2:gA A B=v)(w:World):Calls Tryz.prog 176 #[.agg (lY A),.agg (lY B)] w fun e w'=>e=.returned (.tuple #[.agg (lY Z),.bool v])∧Below w.heap.size w w':=by
 subst e1 e2;exact zVW A B w
theorem scW{A Z:Pl}{dx dy:Int}{b:Bool}{m h:Nat}(hr:Res b m h)(e:m3 A dx dy m h=Z)(d0: -1000≤dx)(d1:dx≤1000)(e0: -1000≤dy)(e1:dy≤1000)(w:World):Calls Tryz.prog 179 #[.agg (lY A),.int .i64 dx,.int .i64 dy,.bool b] w fun e w'=>e=.returned (.agg (lY Z))∧Below w.heap.size w w':=by
 subst e;exact GV A dx dy b m h hr w d0 d1 e0 e1
theorem hE.step{w w':World}{A:Option Addr}{L:List Nat}(h:hE w A L)(hb:Below w.heap.size w w'):hE w' A L:=h.below hb
theorem AM{A B:Pl}(h:∀y,y<64→A y=B y):wC A B=true:=(eU A B).2 h
theorem zL7(bits:Nat→Nat)(len c x y m h:Nat)(clip:Bool):fwd (zYR bits len c x y m h clip)=spr bits len c x y m h clip:=funext fun j=>EZ bits len c x y m h clip j
structure Sc where
 P:Nat→Pl
 hi:Bool
 M:Int
def yC(S:Sc)(j:Nat):Value:=if j<512 then .int .u64 (xW (S.P (j/128)) (j%128))else if j=512 then .bool S.hi else .int .i64 S.M
def lK(S:Sc):Array Value:=((List.range 514).map (yC S)).toArray
def cY(P:Nat→Pl):Array Value:=((List.range 512).map fun j=>Value.int .u64 (xW (P (j/128)) (j%128))).toArray
theorem lN(S:Sc):(lK S).size=514:=by simp[lK]
theorem tZ(P:Nat→Pl):(cY P).size=512:=by simp[cY]
theorem mA(S:Sc)(j:Nat)(hj:j<514):(lK S)[j]?=some (yC S j):=by simp[lK,hj]
theorem GU(P:Nat→Pl)(j:Nat)(hj:j<512):(cY P)[j]?=some (.int .u64 (xW (P (j/128)) (j%128))):=by simp[cY,hj]
theorem nR(S:Sc):n8 (lK S):=by
 unfold n8;rw[qC];intro v hv;simp only[lK,kV,jG,jD]at hv;obtain⟨j,_,rfl⟩:=hv;unfold yC;split
 ·rfl
 ·split<;>rfl
theorem LP{A B:Pl}(h:∀y,y<64→A y=B y){j:Nat}(hj:j<128):xW A j=xW B j:=by
 unfold xW;rw[h (j/2) zGX]
theorem gJ{S T:Sc}(h:∀i,i<4→∀y,y<64→S.P i y=T.P i y)(hh:S.hi=T.hi)(hM:S.M=T.M):lK S=lK T:=by
 unfold lK;refine congrArg List.toArray (List.map_congr_left fun j hj=>?_);have hj:=jD.1 hj;unfold yC;by_cases h5:j<512
 ·rw[zN h5,zN h5,LP (h (j/128) zGX) zGX]
 ·rw[zL h5,zL h5,hh,hM]
theorem zJF(S:Sc)(i:Nat)(hi:i<4):(lK S).extract (i*128) (i*128+128)=lY (S.P i):=by
 apply qH
 intro j
 rw[jS,lN];by_cases hj:j<128
 ·rw[zN zGX,mA _ _ zGX,xG _ _ hj];unfold yC;rw[zN zGX,show(i*128+j)/128=i by omega,show(i*128+j)%128=j by omega]
 ·rw[zL zGX,zF zBX]
theorem AR(P:Nat→Pl)(i:Nat)(hi:i<4):(cY P).extract (i*128) (i*128+128)=lY (P i):=by
 apply qH
 intro j
 rw[jS,tZ];by_cases hj:j<128
 ·rw[zN zGX,GU _ _ zGX,xG _ _ hj,show(i*128+j)/128=i by omega,show(i*128+j)%128=j by omega]
 ·rw[zL zGX,zF zBX]
def Sc.put(S:Sc)(i:Nat)(Q:Pl):Sc:=⟨fun k=>if k=i then Q else S.P k,S.hi,S.M⟩
def Sc.mask(S:Sc)(m:Int):Sc:=⟨S.P,S.hi,m⟩
theorem sc_put(S:Sc)(i:Nat)(hi:i<4)(Q:Pl):lP (lK S) (i*128) (lY Q)=lK (S.put i Q):=by
 unfold lP;apply qH
 intro j
 have hsz:(lK S).toList.length=514:=by rw[Array.length_toList,lN]
 have hpz:(lY Q).toList.length=128:=by rw[Array.length_toList,lH]
 rw[zX,List.getElem?_append,List.getElem?_append,jK,qX,hsz,hpz]
 rw[show min (i*128) 514=i*128 by omega]
 by_cases h1:j<i*128
 ·rw[zN zGX,zN h1,List.getElem?_take,zN h1,qO,mA _ _ zGX,mA _ _ zGX];unfold yC Sc.put;rw[zN zGX,zN zGX];simp only;rw[zL zGX]
 ·by_cases h2:j<i*128+128
  ·rw[zN h2,zL h1,qO,xG _ _ zGX,mA _ _ zGX];unfold yC Sc.put;rw[zN zGX];simp only;rw[zN zGX,show j%128=j-i*128 by omega]
  ·rw[zL h2,j5,lH,show i*128+128+(j-(i*128+128))=j by omega,qO];by_cases h3:j<514
   ·rw[mA _ _ h3,mA _ _ h3];unfold yC Sc.put;by_cases h5:j<512
    ·rw[zN h5,zN h5];simp only;rw[zL zGX]
    ·rw[zL h5,zL h5]
   ·rw[zF zG1,zF zG1]
theorem MT(S:Sc)(m:Int):(lK S).setIfInBounds 513 (.int .i64 m)=lK (S.mask m):=by
 apply qH
 intro j
 rw[qB,lN];by_cases h1:513=j
 ·subst h1;rw[zN rfl,zN zGX,mA _ _ zGX];rfl
 ·rw[zL h1];by_cases h3:j<514
  ·rw[mA _ _ h3,mA _ _ h3];unfold yC Sc.mask;by_cases h5:j<512
   ·rw[zN h5,zN h5]
   ·rw[zL h5,zL h5,zN zGX,zN zGX]
  ·rw[zF zG1,zF zG1]
def mQ(hi:Bool)(M:Int):Sc:=⟨fun _ _=>0#128,hi,M⟩
theorem XH(hires:Bool)(M:Int):lK (mQ hires M)=((Array.replicate 512 (.int .u64 0)).push (.bool hires)).push (.int .i64 M):=by
 apply qH
 intro j
 by_cases h3:j<514
 ·rw[mA _ _ h3,Array.getElem?_push,Array.getElem?_push];unfold yC mQ;by_cases h5:j<512
  ·rw[zN h5,zL zGH,zL zGH];unfold xW;simp[Array.getElem?_replicate,h5,hi,lo]
  ·rw[zL h5];by_cases h6:j=512
   ·rw[zN h6,zL zGH,zN zGH]
   ·rw[zL h6,zN zGH]
 ·rw[zF zG1,zF zGH]
theorem cL:vZ Tryz.prog 80 514:=⟨⟨_,Tryz.underlying80,rfl⟩,by kernel_rfl⟩
theorem wP:vZ Tryz.prog 41 128:=⟨⟨_,Tryz.underlying41,rfl⟩,by kernel_rfl⟩
theorem XA:vZ Tryz.prog 42 512:=⟨⟨_,Tryz.underlying42,rfl⟩,by kernel_rfl⟩
theorem WV:(Tryz.prog.info? 80).map (fun i=>(i.zero,i.size))=some (some (.agg (lK (mQ false 0))),514):=by
 rw[XH];kernel_rfl
theorem LM:nH Tryz.prog 80 (lK (mQ false 0)):=by
 unfold nH;rw[lN];exact WV
theorem yB(w:World):(zeroValue 80).run Tryz.prog w=.ok (.agg (lK (mQ false 0))) w:=uO LM
def SB(b:Nat)(S:Sc)(w:World):Prop:=Blk b 80 (lK S) w
section
variable {b:Nat} {S T:Sc} {w w':World}
theorem SB.lt(H:SB b S w):b<w.heap.size:=Blk.lt H
theorem SB.below(H:SB b S w){n:Nat}(hb:Below n w w')(hn:b<n):SB b S w':=Blk.below H hb hn
theorem SB.step(H:SB b S w)(hb:Below w.heap.size w w'):SB b S w':=Blk.step H hb
theorem SB.new(w:World)(S:Sc):SB w.heap.size S (w.alloc (.cells (lK S) 80)):=Blk.new _ _ _
theorem SB.alloc(H:SB b S w)(o:Obj):SB b S (w.alloc o):=Blk.alloc H o
theorem SB.drew(H:SB b S w):SB b S w.drew:=H
theorem SB.other(H:SB b S w){g:Nat}(hg:b≠g)(o:Nat)(v:Value):SB b S (w.setCell ⟨g,o,none⟩ v):=Blk.other H hg o v
theorem SB.otherRow(H:SB b S w){g:Nat}(hg:b≠g)(ds:Array Value):SB b S (w.setRow g ds):=Blk.otherRow H hg ds
theorem SB.hires(H:SB b S w):w.cell? ⟨b,512,none⟩=some (.bool S.hi):=by rw[Blk.cell H,mA _ _ zGX];rfl
theorem SB.maskc(H:SB b S w):w.cell? ⟨b,513,none⟩=some (.int .i64 S.M):=by rw[Blk.cell H,mA _ _ zGX];rfl
theorem SB.fz(H:SB b S w)(j:Nat):w.frozen? ⟨b,j,none⟩=false:=Blk.frozen H j
theorem SB.store(H:SB b S w)(T:Sc):SB b T (w.setRow b (lK T)):=Blk.store H _
theorem SB.setMask(H:SB b S w)(m:Int):SB b (S.mask m) (w.setCell ⟨b,513,none⟩ (.int .i64 m)):=(Blk.put H 513 _).eq (MT S m)
theorem SB.congr(H:SB b S w)(e:lK S=lK T):SB b T w:=Blk.eq H e
end
theorem zNB(x y:Bool)(d:Nat)(w:World):(Op.equalIn (d+1) 4 (.bool x) (.bool y)).run Tryz.prog w=.ok (x==y) w:=by
 simp[Op.equalIn,jV Tryz.underlying4,go_sem]
section
variable {ops:Array Oper} {C:World→Prop}
end
end
section
open Go.RowKit Go.Shelf Num
attribute [local go_sem] Oper.semAt_some
def nC(M k:Nat):List (Fin 4):=(List.finRange 4).filter fun i=>decide (i.val<k)&&onB M i.val
theorem uI(M:Nat):nC M 0=[]:=by simp[nC]
theorem cU(M k:Nat)(hk:k<4):nC M (k+1)=nC M k++if onB M k then[⟨k,hk⟩]else[]:=by
 unfold nC;generalize h0:onB M 0=b0;generalize h1:onB M 1=b1;generalize h2:onB M 2=b2;generalize h3:onB M 3=b3;have e:∀k,(List.finRange 4).filter (fun i=>decide (i.val<k)&&onB M i.val)=(List.finRange 4).filter (fun i=>decide (i.val<k)&&(if i.val=0 then b0 else if i.val=1 then b1 else if i.val=2 then b2 else b3)):=fun k=>by
  refine List.filter_congr fun i _=>?_;rcases i with⟨i,hi⟩;rcases(show i=0∨i=1∨i=2∨i=3 by omega)with rfl|rfl|rfl|rfl<;>simp[h0,h1,h2,h3]
 rw[e,e];clear e;rcases(show k=0∨k=1∨k=2∨k=3 by omega)with rfl|rfl|rfl|rfl
 ·rw[h0];clear h0 h1 h2 h3 M;revert b0 b1 b2 b3 hk;decide
 ·rw[h1];clear h0 h1 h2 h3 M;revert b0 b1 b2 b3 hk;decide
 ·rw[h2];clear h0 h1 h2 h3 M;revert b0 b1 b2 b3 hk;decide
 ·rw[h3];clear h0 h1 h2 h3 M;revert b0 b1 b2 b3 hk;decide
theorem JY(M k:Nat):(nC M k).length≤k:=by
 by_cases h:k≤4
 ·induction k with
  |zero=>rw[uI];simp
  |succ k ih=>
   have:=ih zGX
   rw[cU M k zGX]
   split<;>simp<;>omega
 ·exact zR (List.length_filter_le _ _) zGH
theorem GX(M:Nat){j k:Nat}(h:j≤k)(hk:k≤4):(nC M j).length≤(nC M k).length:=by
 induction k with
 |zero=>
  obtain rfl:j=0:=by omega
  exact zG _
 |succ k ih=>
  rcases(show j=k+1∨j≤k by omega)with rfl|h1
  ·exact zG _
  ·refine zR (ih h1 zGX) ?_
   rw[cU M k zGX,jK]
   omega
theorem zJT(M:Nat){k:Nat}(hk:k<4)(h:onB M k=true):(nC M k).length<(nC M 4).length:=by
 have h1:=GX M (show k+1≤4 by omega) (zG 4);rw[cU M k hk,zN h,jK,List.length_singleton]at h1;omega
def pI(b:Nat)(W W':World):Prop:=W'.heap[b]?=W.heap[b]?
theorem zN4(a:Nat)(ha:a<9223372036854775808):bits .and .i64 (a:Int) 1=((a%2:Nat):Int):=by
 unfold bits;have e:(BitVec.ofInt IntKind.i64.bits (a:Int)&&&BitVec.ofInt IntKind.i64.bits 1).toNat=a%2:=by
  show(BitVec.ofInt 64 (a:Int)&&&BitVec.ofInt 64 1).toNat=a%2;rw[BitVec.ofInt_natCast,BitVec.toNat_and,BitVec.toNat_ofNat,kR zGX,show(BitVec.ofInt 64 1).toNat=1 by decide,Nat.and_one_is_mod]
 simp only[e];rcases(show a%2=0∨a%2=1 by omega)with h|h<;>rw[h]<;>decide
theorem shr_on(M k:Nat)(hM:M≤10000):∃z:Nat,(M:Int)/2^k=(z:Int)∧bits .and .i64 (z:Int) 1=(if onB M k then 1 else 0):=by
 refine⟨M/2^k,by simp,?_⟩;have:=Nat.div_le_self M (2^k);rw[zN4 _ zGX];unfold onB;by_cases h:M/2^k%2=1
 ·rw[h];simp
 ·rw[show M/2^k%2=0 by omega];simp
theorem MN(m:Nat)(hm:1≤m)(l Bm M:Nat)(hM:M≤10000)(J Jx:List (Fin 4)→World→Prop)
  (hY:∀pre x W,J pre W→pre.length<(nC M 4).length→YieldAt Fence.wide (m-1) Tryz.prog l #[.int .i64 ((x:Fin 4).val:Int)] W fun e W'=>
   (e=.returned (.bool true)∧J (pre++[x]) W'∧pI Bm W W')∨(e=.returned (.bool false)∧Jx (pre++[x]) W'))
  (W:World) (hB:Boxed W Bm 3 (.int .i64 (M:Int))) (h0:J [] W):
  CallsIn Fence.wide m Tryz.prog 198 #[.func (.yield l) #[] #[],.pointer (some ⟨Bm,0,none⟩)] W fun e W'=>(∃v,e=.returned v)∧
   ((∃ys,ys=nC M 4∧J ys W')∨(∃pre,True∧Jx pre W')):=by
 refine callsIn_of_wp Tryz.func198 rfl trivial ?_ rfl;simp only[Tryz.ntmps198,jN,List.length_cons,List.length_nil,Nat.reduceAdd,Nat.reduceSub,jY,Array.replicate_zero,jR,jL,List.nil_append,List.cons_append];gi_wp2
 gi_loopw [4] (fun i wr=>∃k:Nat,k≤4∧i=.int .i64 k∧Boxed wr Bm 3 (.int .i64 (M:Int))∧J (nC M k) wr) (fun i _=>4-(intOf i).toNat)
 case atStart=>exact⟨0,by omega,rfl,hB,by rw[uI];exact h0⟩
 case round=>
  obtain⟨k,hk,rfl,hB,hJ⟩:=hrel
  by_cases hlt:k<4
  ·have cm:=hB.cell
   have ki:(k:Int)<4:=zGX
   obtain⟨z,z1,z2⟩:=shr_on M k hM
   have SU:=zW (cU M k hlt)
   cases hon:onB M k
   ·rw[hon,zL zGL]at z2
    have SV:=zW hon
    clear hon
    gi_wp2
    refine⟨fun _ h=>(by cases h),?_⟩
    gi_wp2
    go_roundw
    case rel=>exact⟨k+1,by omega,by go_num,hB,by rw[SU.out,SV.out,zL zGL,kK];exact hJ⟩
    case measure=>simp[intOf];omega
   ·rw[hon,zN rfl]at z2
    have SV:=zW hon
    clear hon
    obtain⟨fn,tmps,assign,body,hy,hR⟩:=hY (nC M k) ⟨k,hlt⟩ wr hJ (zJT M hlt SV.out)
    dsimp only at hy
    gi_wp2
    refine hR.mono ?_
    rintro e W3 (⟨rfl,hJ3,hk3⟩|⟨rfl,hJx3⟩)
    ·gi_wp2
     go_roundw
     case rel=>exact⟨k+1,by omega,by go_num,hk3.trans hB,by rw[SU.out,SV.out,zN rfl];exact hJ3⟩
     case measure=>simp[intOf];omega
    ·gi_wp2
     refine zP (results_none rfl _ _ _) rfl ?_
     exact⟨⟨_,rfl⟩,.inr ⟨_,trivial,hJx3⟩⟩
  ·have hkn:k=4:=zGX
   subst hkn
   gi_wp2
   go_end0
   exact⟨⟨_,rfl⟩,.inl ⟨_,rfl,hJ⟩⟩
theorem aK(m:Nat)(M:Int)(w:World):CallsIn Fence.wide m Tryz.prog 172 #[.int .i64 M] w fun e w'=>
   e=.returned (.func (.func 198) #[] #[.pointer (some ⟨w.heap.size,0,none⟩)])∧w'=w.alloc (.cells #[.int .i64 M] 3):=by
 refine callsIn_of_wp Tryz.func172 rfl trivial ?_ rfl;simp only[Tryz.ntmps172,jN,List.length_cons,List.length_nil,Nat.reduceAdd,Nat.reduceSub,jY,Array.replicate_zero,jR,jL,List.nil_append,List.cons_append];gi_wp2
 exact zRX
theorem bK(m:Nat)(hm:1≤m)(Bm M:Nat)(hM:M≤10000)(w:World)(hB:Boxed w Bm 3 (.int .i64 (M:Int))):
  SeqStopsK Fence.wide m Tryz.prog 198 #[.pointer (some ⟨Bm,0,none⟩)] (fun x:Fin 4=> #[Value.int .i64 (x.val:Int)]) (pI Bm) (fun ys=>ys=nC M 4) (fun _=>True) (nC M 4).length w:=fun l J Jx W hW _ _ hY h0=>
 MN m hm l Bm M hM J Jx hY W ((hW.block Bm hB.lt).trans hB) h0
theorem pI.trans{b:Nat}{u v w:World}(h:pI b u v)(h':pI b v w):pI b u w:=Eq.trans h' h
theorem JI{b:Nat}{W:World}{l:Nat}{o':Obj}(h1:b≠l):pI b W (W.putObj l o'):=jM h1
theorem JW(n:Nat)(big:Bool)(w:World):Calls Tryz.prog 171 #[.int .i64 (n:Int),.bool big] w fun e w'=>e=.returned (.tuple #[.int .i64 ((if big then 16 else n:Nat):Int),.int .i64 ((if big then 2 else 1:Nat):Int)])∧w=w':=by
 cases big
 all_goals
  go_enter Tryz.func171,Tryz.ntmps171
  go_wp2
  go_ret2
  exact⟨rfl,rfl⟩
attribute [local go_sem] Oper.semAt_some
theorem ZJ(M n:Nat)(big:Bool)(k:Nat)(hk:k≤4):uZ M n big k=(nC M k).length*per n big:=by
 induction k with
 |zero=>rw[uI];simp[uZ]
 |succ k ih=>
  rw[uZ,ih zGX,cU M k zGX]
  split
  ·simp[Nat.add_mul]
  ·simp
theorem fY(n:Nat)(big:Bool):(if big then 16 else n)*(if big then 2 else 1)=per n big:=by
 unfold per;cases big<;>simp
theorem JF(S:Sc)(M n:Nat)(big:Bool)(hM:S.M=(M:Int))(M1:M≤10000)(n1:n≤32)(w:World):
  Calls Tryz.prog 140 #[.agg (lK S),.int .i64 (n:Int),.bool big] w fun e w'=>e=.returned (.int .i64 (uZ M n big 4:Nat))∧Below w.heap.size w w':=by
 refine(callsIn_wide (n:=6)).1 ?_;have S0:=zW (SB.new w S);have B0:=zW (vL w (.cells (lK S) 80));have Z0:(w.alloc (.cells (lK S) 80)).heap.size=w.heap.size+1:=zGN;obtain⟨r,hr⟩:∃r:Nat,(if big then 16 else n)=r:=⟨_,rfl⟩;obtain⟨z,hz⟩:∃z:Nat,(if big then 2 else 1)=z:=⟨_,rfl⟩;have r1:(r:Int)≤32:=by rw[←hr];split<;>omega
 have z1:(z:Int)≤2:=by rw[←hz];split<;>omega
 have PZ:=zW (show r*z=per n big by rw[←hr,←hz,fY]);have SH:=zW fun w=>JW n big w;rw[hr,hz]at SH;have HM:=zW hM;clear hr hz hM;refine callsIn_of_wp_marks Tryz.func140 rfl trivial ?_ rfl;simp only[Tryz.ntmps140,jN,List.length_cons,List.length_nil,Nat.reduceAdd,Nat.reduceSub,jY,Array.replicate_zero,jR,jL,List.nil_append,List.cons_append];gi_wp2_with fail
 generalize w.alloc (.cells (lK S) 80)=w1 at*;refine⟨trivial,?_⟩;gi_at_call 171
 refine(callsIn_wide.2 (SH.out _)).mono ?_;rintro e w' ⟨rfl,rfl⟩;have c513:=S0.out.maskc;have l0:=S0.out.lt;rw[HM.out]at c513;gi_wp2_with fail
 clear c513 l0;have B7:=zW (((jC w1 3 (.int .i64 (r:Int))).alloc (.cells #[.int .i64 (z:Int)] 3)).alloc (.cells #[.int .i64 0] 3));have B8:=zW ((jC (w1.alloc (.cells #[.int .i64 (r:Int)] 3)) 3 (.int .i64 (z:Int))).alloc (.cells #[.int .i64 0] 3));have B9:=zW (jC ((w1.alloc (.cells #[.int .i64 (r:Int)] 3)).alloc (.cells #[.int .i64 (z:Int)] 3)) 3 (.int .i64 0));have BB:=zW (((B0.out.alloc B0.out.size (.cells #[.int .i64 (r:Int)] 3)).alloc (by simp[Z0];omega) (.cells #[.int .i64 (z:Int)] 3)).alloc (by simp[Z0];omega) (.cells #[.int .i64 0] 3));rw[zT,Z0]at B8;rw[zT,zT,Z0]at B9;rw[Z0]at B7;have Z3:(((w1.alloc (.cells #[.int .i64 (r:Int)] 3)).alloc (.cells #[.int .i64 (z:Int)] 3)).alloc (.cells #[.int .i64 0] 3)).heap.size=w.heap.size+4:=by simp[Z0]
 generalize ((w1.alloc (.cells #[.int .i64 (r:Int)] 3)).alloc (.cells #[.int .i64 (z:Int)] 3)).alloc (.cells #[.int .i64 0] 3)=w2 at*;clear Z0 S0 B0 w1;refine⟨trivial,?_⟩;refine(aK _ _ _).mono ?_;rintro e w' ⟨rfl,rfl⟩;simp only[];gi_wp2_with fail
 have BM:=jC w2 3 (.int .i64 (M:Int));have B7:=zW (B7.out.alloc (.cells #[.int .i64 (M:Int)] 3));have B8:=zW (B8.out.alloc (.cells #[.int .i64 (M:Int)] 3));have B9:=zW (B9.out.alloc (.cells #[.int .i64 (M:Int)] 3));have BB:=zW (BB.out.alloc (by rw[Z3];omega) (.cells #[.int .i64 (M:Int)] 3));have Z4:(w2.alloc (.cells #[.int .i64 (M:Int)] 3)).heap.size=w.heap.size+5:=by simp[Z3]
 rw[Z3]at BM⊢;generalize w2.alloc (.cells #[.int .i64 (M:Int)] 3)=w3 at*;clear Z3;obtain⟨pz,hpz⟩:∃pz:Nat,r*z=pz:=⟨_,rfl⟩;have pz1:pz≤64:=by rw[←hpz];exact Nat.mul_le_mul (by omega:r≤32) (by omega:z≤2)
 have hpI:(r:Int)*(z:Int)=(pz:Int):=by rw[←hpz];simp
 have PQ:=zW (show pz=per n big by rw[←hpz,PZ.out]);clear hpz PZ;refine wpIn_rangeFunc_ownG rfl zGX (gf:=198) (lb:=#[.pointer (some ⟨w.heap.size+4,0,none⟩)]) rfl trivial (enters_of Tryz.func198 zGV rfl)
  (bK _ zGX (w.heap.size+4) M M1 w3 BM) pI.trans (fun W l o o' hl _ _ _=>JI zGX) (zB _ _) (fun _=>rfl)
  (fun pre W=>Boxed W (w.heap.size+1) 3 (.int .i64 (r:Int))∧Boxed W (w.heap.size+1+1) 3 (.int .i64 (z:Int))∧Boxed W (w.heap.size+1+1+1) 3 (.int .i64 ((pre.length*pz:Nat):Int))∧Below w.heap.size w W)
  (fun _ _ _=>False)
  (OwnFrom.and (Own.from (boxed_own _ _ _) _) (OwnFrom.and (Own.from (boxed_own _ _ _) _) (OwnFrom.and (Own.from (boxed_own _ _ _) _) (ownFrom_below (zG _) zGX))))
  (fun _ _ _ _ _ hs _ _=>hs)
  ⟨B7.out,B8.out,by simpa using B9.out,BB.out⟩
  (fun x=>{tmps:=#[.agg (lK S),.int .i64 (n:Int),.bool big,.pointer (some ⟨w.heap.size,0,none⟩),undef,undef,.int .i64 0,.pointer (some ⟨w.heap.size+1,0,none⟩),.pointer (some ⟨w.heap.size+1+1,0,none⟩),.pointer (some ⟨w.heap.size+1+1+1,0,none⟩),.tuple #[.int .i64 (r:Int),.int .i64 (z:Int)],.int .i64 (n:Int),.bool big,.tuple #[.int .i64 (r:Int),.int .i64 (z:Int)],.int .i64 (r:Int),.int .i64 (z:Int),.pointer (some ⟨w.heap.size,513,none⟩),.int .i64 (M:Int),.func (.func 198) #[] #[.pointer (some ⟨w.heap.size+4,0,none⟩)],.int .i64 (x.val:Int),undef,undef,undef,undef,undef,undef],defers:=[]}) ?assign ?body ?done ?stop
 case assign=>
  intro l x W K hK
  gi_wp2
  go_simp
  exact hK
 case body=>
  rintro l pre x W ⟨h7,h8,h9,hB⟩ hlt
  have c7:=h7.cell
  have c8:=h8.cell
  have c9:=h9.cell
  have f9:=h9.frozen
  have HH:=zW (zM h7 (zM h8 (zM h9 hB)))
  obtain⟨t,ht⟩:∃t:Nat,pre.length*pz=t:=⟨_,rfl⟩
  have t1:t≤256:=by rw[←ht];exact Nat.mul_le_mul (by have:=JY M 4;omega:pre.length≤4) pz1
  have HT:=zW (show(pre++[x]).length*pz=t+pz by rw[jK,Nat.add_mul,ht];simp)
  rw[ht]at c9 HH
  clear h7 h8 h9 hB ht hlt
  gi_wp2
  refine⟨(KeepsOthers.setCell _ _ _).from _,?_,HH.out.1.other zGX _,HH.out.2.1.other zGX _,?_,HH.out.2.2.2.setCell (p:=⟨w.heap.size+1+1+1,0,none⟩) (by show w.heap.size≤w.heap.size+1+1+1;omega) _⟩
  ·exact qD W ⟨w.heap.size+1+1+1,0,none⟩ _ _ (by show w.heap.size+4≠w.heap.size+1+1+1;omega)
  ·rw[HT.out]
   exact HH.out.2.2.1.set _
 case done=>
  rintro D ys W hD rfl ⟨h7,h8,h9,hB⟩ hK
  have c9:=h9.cell
  rw[show((nC M 4).length*pz:Nat)=uZ M n big 4 by rw[ZJ M n big 4 zGX,PQ.out]]at c9
  gi_wp2
  refine⟨by simp,.inl ⟨_,_,rfl,run_takeDeferred hK,?_⟩⟩
  refine⟨_,results_tmp rfl _ _ _,rfl,?_⟩
  exact hB.trans (belowK_b (w:=w) (zG _) W D _ _ zGX hK rfl rfl)
 case stop=>
  rintro D c pre W _ _ h _
  exact h.elim
attribute [local go_sem] Oper.semAt_some
structure But(T:Nat→Prop)(w w':World):Prop where
 os:w'.os=w.os
 tape:w'.tape=w.tape
 output:w'.output=w.output
 size:w.heap.size≤w'.heap.size
 block:∀k,k<w.heap.size→¬T k→w'.heap[k]?=w.heap[k]?
section
variable {T:Nat→Prop} {u w w':World}
theorem But.refl(T:Nat→Prop)(w:World):But T w w:=⟨rfl,rfl,rfl,zG _,fun _ _ _=>rfl⟩
theorem But.trans(h:But T u w)(k:But T w w'):But T u w':=⟨k.os.trans h.os,k.tape.trans h.tape,k.output.trans h.output,zR h.size k.size,fun j hj ht=>(k.block j (zD hj h.size) ht).trans (h.block j hj ht)⟩
theorem But.of_below(h:Below w.heap.size w w'):But T w w':=⟨h.os,h.tape,h.output,h.size,fun k hk _=>h.block k hk⟩
theorem But.all(h:But (fun _=>False) w w'):Below w.heap.size w w':=⟨h.os,h.tape,h.output,h.size,fun k hk=>h.block k hk id⟩
theorem But.below(h:But T w w'){B:Nat}(hB:B≤w.heap.size)(hT:∀k,T k→B≤k):Below B w w':=⟨h.os,h.tape,h.output,h.size,fun k hk=>h.block k zGX fun ht=>by have:=hT k ht;omega⟩
theorem But.mono{T':Nat→Prop}(h:But T w w')(hT:∀k,T k→T' k):But T' w w':=⟨h.os,h.tape,h.output,h.size,fun k hk ht=>h.block k hk fun h=>ht (hT k h)⟩
theorem But.row{b:Nat}(cs:Array Value)(h:T b):But T w (w.setRow b cs):=⟨rfl,rfl,rfl,by simp[World.setRow],fun k hk ht=>qQ w b k cs (fun e=>ht (e▸h))⟩
theorem But.cell{b:Nat}(o:Nat)(v:Value)(h:T b):But T w (w.setCell ⟨b,o,none⟩ v):=⟨rfl,rfl,rfl,by simp,fun k hk ht=>qD w _ v k (fun e=>ht (e▸h))⟩
theorem But.drew:But T w w.drew:=⟨rfl,rfl,rfl,zG _,fun _ _ _=>rfl⟩
theorem Blk.but{b:Nat}{t:TypeId}{cs:Array Value}(H:Blk b t cs w)(h:But T w w')(hb:¬T b):Blk b t cs w':=(h.block b H.lt hb).trans H
end
def gO(step:Nat→Pl→Pl)(n:Nat)(S:Sc):List (Fin 4)→Sc
 |[]=>S
 |x::xs=>gO step (n+1) (S.put x.val (step n (S.P x.val))) xs
theorem fK(step:Nat→Pl→Pl):∀(pre:List (Fin 4)) (n:Nat) (S:Sc) (x:Fin 4),gO step n S (pre++[x])=(gO step n S pre).put x.val (step (n+pre.length) ((gO step n S pre).P x.val))
 |[],n,S,x=>rfl
 |y::ys,n,S,x=>by
  rw[List.cons_append,gO,fK step ys,gO,List.length_cons,show n+1+ys.length=n+(ys.length+1) by omega]
def uM(step:Nat→Pl→Pl)(n:Nat)(S:Sc):List (Fin 4)→List Pl
 |[]=>[]
 |x::xs=>S.P x.val::uM step (n+1) (S.put x.val (step n (S.P x.val))) xs
theorem bB(step:Nat→Pl→Pl):∀(pre:List (Fin 4)) (n:Nat) (S:Sc) (x:Fin 4),uM step n S (pre++[x])=uM step n S pre++[(gO step n S pre).P x.val]
 |[],n,S,x=>rfl
 |y::ys,n,S,x=>by
  rw[List.cons_append,uM,bB step ys,uM,gO];rfl
theorem oA(step:Nat→Pl→Pl):∀(pre:List (Fin 4)) (n:Nat) (S:Sc),(uM step n S pre).length=pre.length
 |[],n,S=>rfl
 |y::ys,n,S=>by rw[uM,List.length_cons,oA step ys,List.length_cons]
structure ChW(b:Nat)(S:Sc)(fv:Value) where
 w:World
 s:SB b S w
 f:Blk (b+1) 272 #[fv] w
structure ChI(step:Nat→Pl→Pl)(T:Nat→Prop)(G:List Pl→World→Prop)(S:Sc)(fv:Value)(w:World)(ps:List Pl)(Z:Sc)(W:World):Prop where
 s:SB w.heap.size Z W
 f:Blk (w.heap.size+1) 272 #[fv] W
 r:SB (w.heap.size+1+1) (mQ false 0) W
 g:G ps W
 b:But T w W
 sz:w.heap.size+4≤W.heap.size
theorem But.turn{T:Nat→Prop}{u W W':World}{row:Option Nat}(h:But T u W)(hg:W.grownBy W' row)(hr:∀r,row=some r→u.heap.size≤r):But T u W':=
 ⟨hg.os.trans h.os,hg.tape.trans h.tape,hg.output.trans h.output,zR h.size hg.size,fun k hk ht=>(hg.block k (zD hk h.size) (fun e=>by have:=hr k e.symm;omega)).trans (h.block k hk ht)⟩
theorem Blk.turn{b:Nat}{t:TypeId}{cs:Array Value}{W W':World}{row:Option Nat}(H:Blk b t cs W)(hg:W.grownBy W' row)(hr:∀r,row=some r→∃o:Obj,W.heap[r]?=some o∧o.isCells=false):Blk b t cs W':=
 (hg.block b H.lt fun e=>by obtain⟨o,ho,hc⟩:=hr b e.symm;rw[show W.heap[b]?=_ from H]at ho;cases ho;cases hc).trans H
theorem sJ(M:Nat){g:Nat}{caps:Array Value}(eg:∀args w,(callFunc g args).run Tryz.prog w=.ok (.enter g args) w)(step:Nat→Pl→Pl)(T:Nat→Prop)(G:List Pl→World→Prop)(w:World)(hT:∀k,T k→k<w.heap.size)
  (hG:∀ps W W',G ps W→Below w.heap.size W W'→G ps W')
  (hf:∀ps p W,ps.length<(nC M 4).length→G ps W→But T w W→Calls Tryz.prog g (#[.agg (lY p)]++caps) W fun e W'=>e=.returned (.agg (lY (step ps.length p)))∧G (ps++[p]) W'∧But T W W')
  (S:Sc) (hM:S.M=(M:Int)) (M1:M≤10000) (h0:G [] w):
  Calls Tryz.prog 169 #[.agg (lK S),.func (.func g) #[] caps] w fun e w'=>e=.returned (.agg (lK (gO step 0 S (nC M 4))))∧G (uM step 0 S (nC M 4)) w'∧But T w w':=by
 refine(callsIn_wide (n:=6)).1 ?_;have hz:=yB;have S0:=zW (((SB.new w S).alloc (.cells #[.func (.func g) #[] caps] 272)).alloc (.cells (lK (mQ false 0)) 80));have F0:=zW ((Blk.new (w.alloc (.cells (lK S) 80)) 272 #[.func (.func g) #[] caps]).alloc (.cells (lK (mQ false 0)) 80));have R0:=zW (SB.new ((w.alloc (.cells (lK S) 80)).alloc (.cells #[.func (.func g) #[] caps] 272)) (mQ false 0));have B0:=zW ((((zB _ w).alloc (zG _) (.cells (lK S) 80)).alloc zGN (.cells #[.func (.func g) #[] caps] 272)).alloc zGH (.cells (lK (mQ false 0)) 80));rw[zT]at F0;rw[zT,zT]at R0;have Z0:(((w.alloc (.cells (lK S) 80)).alloc (.cells #[.func (.func g) #[] caps] 272)).alloc (.cells (lK (mQ false 0)) 80)).heap.size=w.heap.size+3:=zGN;have c513:(lK S)[513]?=some (.int .i64 (M:Int)):=by rw[mA _ _ zGX,←hM];rfl
 have HM:=zW hM;have HF:=zW hf;have GG:=zW (zM hT (zM hG h0));clear hM hf hT hG h0;refine callsIn_of_wp_marks Tryz.func169 rfl trivial ?_ rfl;simp only[Tryz.ntmps169,jN,List.length_cons,List.length_nil,Nat.reduceAdd,Nat.reduceSub,jY,Array.replicate_zero,jR,jL,List.nil_append,List.cons_append];gi_wp2_with fail
 generalize ((w.alloc (.cells (lK S) 80)).alloc (.cells #[.func (.func g) #[] caps] 272)).alloc (.cells (lK (mQ false 0)) 80)=w2 at*;clear c513 hz;refine⟨trivial,?_⟩;refine(aK _ _ _).mono ?_;rintro e w' ⟨rfl,rfl⟩;simp only[];gi_wp2_with fail
 have BM:=jC w2 3 (.int .i64 (M:Int));have S1:=zW (S0.out.alloc (.cells #[.int .i64 (M:Int)] 3));have F1:=zW (F0.out.alloc (.cells #[.int .i64 (M:Int)] 3));have R1:=zW (R0.out.alloc (.cells #[.int .i64 (M:Int)] 3));have B1:=zW (B0.out.alloc B0.out.size (.cells #[.int .i64 (M:Int)] 3));have Z1:(w2.alloc (.cells #[.int .i64 (M:Int)] 3)).heap.size=w.heap.size+4:=by simp[Z0]
 rw[Z0]at BM⊢;generalize w2.alloc (.cells #[.int .i64 (M:Int)] 3)=w3 at*;clear Z0 S0 F0 R0 B0;refine wpIn_rangeFunc_ownG rfl zGX (gf:=198) (lb:=#[.pointer (some ⟨w.heap.size+3,0,none⟩)]) rfl trivial (enters_of Tryz.func198 zGV rfl)
  (bK _ zGX (w.heap.size+3) M M1 w3 BM) pI.trans (fun W l o o' hl _ _ _=>JI zGX) (zB _ _) (fun _=>rfl)
  (fun pre W=>ChI step T G S (.func (.func g) #[] caps) w (uM step 0 S pre) (gO step 0 S pre) W)
  (fun _ _ _=>False)
  (fun pre W W' row hs hg hr=>⟨Blk.turn hs.s hg (fun r e=>(hr r e).2),Blk.turn hs.f hg (fun r e=>(hr r e).2),Blk.turn hs.r hg (fun r e=>(hr r e).2),GG.out.2.1 _ _ _ hs.g ⟨hg.os,hg.tape,hg.output,hg.size,fun k hk=>hg.block k (zD hk hs.b.size) (fun e=>by have:=(hr k e.symm).1;omega)⟩,hs.b.turn hg (fun r e=>by have:=(hr r e).1;omega),zR hs.sz hg.size⟩)
  (fun _ _ _ _ _ hs _ _=>hs)
  ⟨S1.out,F1.out,R1.out,GG.out.2.1 _ _ _ GG.out.2.2 B1.out,But.of_below B1.out,by omega⟩
  (fun x=>{tmps:=#[.agg (lK S),.func (.func g) #[] caps,.pointer (some ⟨w.heap.size,0,none⟩),.pointer (some ⟨w.heap.size+1,0,none⟩),.pointer (some ⟨w.heap.size+1+1,0,none⟩),.int .i64 (x.val:Int),.pointer (some ⟨w.heap.size,513,none⟩),.int .i64 (M:Int),.func (.func 198) #[] #[.pointer (some ⟨w.heap.size+3,0,none⟩)],.int .i64 (x.val:Int),undef,undef,undef,undef,undef,undef,undef,undef,undef,undef],defers:=[]}) ?assign ?body ?done ?stop
 case assign=>
  intro l x W K hK
  gi_wp2
  exact hK
 case body=>
  rintro l pre x W H hlt
  obtain⟨k,hk⟩:=x
  obtain⟨Z,hZ⟩:∃Z,gO step 0 S pre=Z:=⟨_,rfl⟩
  obtain⟨ps,hps⟩:∃ps,uM step 0 S pre=ps:=⟨_,rfl⟩
  have hpl:ps.length=pre.length:=by rw[←hps,oA]
  have HP:=zW (show uM step 0 S (pre++[⟨k,hk⟩])=ps++[Z.P k] by rw[bB,hps,hZ])
  rw[hps]at H
  clear hps
  have HZ:=zW (show gO step 0 S (pre++[⟨k,hk⟩])=Z.put k (step ps.length (Z.P k)) by rw[fK,hZ,qL,hpl])
  rw[hZ]at H
  have HH:=zW H
  have HL:=zW (zM hlt hk)
  clear H hlt hZ
  gi_step
  apply wpIn_block
  refine p9 (C:=fun w'=>∃x:ChW w.heap.size Z (.func (.func g) #[] caps),w'=x.w) 9 [([0,1,2,3,4,5,7],6,false)] [8] [] zGV zGV ?_ ?_ ?_ ⟨⟨W.drew,HH.out.s.drew,HH.out.f.drew⟩,rfl⟩ ?_
  ·exact fun _ _ d _ _ h=>by cases d<;>exact h
  ·exact fun _ _ h=>h
  ·rintro _ w' ⟨x,rfl⟩ h
   exact⟨⟨w',x.s.step h,x.f.step h⟩,rfl⟩
  intro wd hwd
  have D:=zW (show ChI step T G S (.func (.func g) #[] caps) w ps Z wd from by rw[hwd];exact⟨HH.out.s.drew,HH.out.f.drew,HH.out.r.drew,GG.out.2.1 _ _ _ HH.out.g ⟨rfl,rfl,rfl,zG _,fun _ _=>rfl⟩,HH.out.b.trans But.drew,HH.out.sz⟩)
  have KW:=zW (show But T W wd from by rw[hwd];exact But.drew)
  have kI:(k:Int)<4:=zGX
  have cf:∀x:ChW w.heap.size Z (.func (.func g) #[] caps),x.w.cell? ⟨w.heap.size+1,0,none⟩=some (.func (.func g) #[] caps):=fun x=>by rw[x.f.cell];rfl
  have CF:=zW (fun(w':World) (h:∃x:ChW w.heap.size Z (.func (.func g) #[] caps),w'=x.w)=>show w'.cell? ⟨w.heap.size+1,0,none⟩=some (.func (.func g) #[] caps) by obtain⟨x,rfl⟩:=h;exact cf x)
  have HS:=zW (fun(w':World) (h:∃x:ChW w.heap.size Z (.func (.func g) #[] caps),w'=x.w)=>show SB w.heap.size Z w' by obtain⟨x,rfl⟩:=h;exact x.s)
  clear hwd
  dsimp only
  refine cD zGW zGY ?_
  go_big_quiet_step (rfl)
  refine oF ⟨_,Tryz.underlying272,rfl⟩ CF.out rfl (.tmp 3) rfl zGB ?_
  simp only[Act.put,zQ,zZ,zJ]
  go_big_quiet_step (rfl)
  go_big_quiet_step (rfl)
  go_big_quiet_step (rfl)
  refine lR (o:=k*128) (n:=128) wP HS.out zG1 rfl (.tmp 14) rfl zGB ?_
  rw[zJF _ _ hk]
  simp only[Act.put,zQ,zZ,zJ]
  go_big_quiet_step (rfl)
  refine zY ?_
  refine cR rfl ?_
  intro w1 g1 C1 K hK
  have D1:=zW (show ChI step T G S (.func (.func g) #[] caps) w ps Z w1 from⟨D.out.s.step g1,D.out.f.step g1,D.out.r.step g1,GG.out.2.1 _ _ _ D.out.g (g1.mono D.out.b.size),D.out.b.trans (But.of_below g1),zR D.out.sz g1.size⟩)
  have K1:=zW (KW.out.trans (But.of_below g1))
  refine mK (g:=g) (caps:=caps) (args:=#[.agg (lY (Z.P k))]++caps) (.tmp 11) #[.tmp 15] #[41] rfl eg zGK zGK ?_
  refine(HF.out ps (Z.P k) w1 (by rw[hpl];exact HL.out.1) D1.out.g D1.out.b).mono ?_
  rintro e w2' ⟨rfl,hg2,b2⟩
  have nT:∀j,w.heap.size≤j→¬T j:=fun j hj ht=>by have:=GG.out.1 j ht;omega
  have D2:=zW (show ChI step T G S (.func (.func g) #[] caps) w (ps++[Z.P k]) Z w2' from⟨Blk.but D1.out.s b2 (nT _ zGX),Blk.but D1.out.f b2 (nT _ zGX),Blk.but D1.out.r b2 (nT _ zGX),hg2,D1.out.b.trans b2,zR D1.out.sz b2.size⟩)
  have K2:=zW (K1.out.trans b2)
  clear D D1 K1 KW b2 hg2 g1 C1
  refine⟨_,rfl,?_⟩
  refine hK _ _ ⟨⟨w2',D2.out.s,D2.out.f⟩,rfl⟩ ?_
  clear hK K
  simp only[Act.put,zQ,zZ,zJ]
  refine mZ zGW zGY ?_
  go_big_quiet_step (rfl)
  refine zY ?_
  refine mJ rfl ?_
  intro w3' g3 C3 K hK
  obtain⟨st,hst⟩:∃st,step ps.length (Z.P k)=st:=⟨_,rfl⟩
  rw[hst]at HZ⊢
  refine mS (o:=k*128) (ds:=lY st) wP (D2.out.s.step g3) (lH _) zG1 (vI _) (.tmp 18) (.tmp 16) rfl zGK zGK ?_
  rw[sc_put _ _ hk]
  refine hK _ _ ?_
  clear hK K
  refine zY ?_
  intro w4 g4
  have D3:=zW (show ChI step T G S (.func (.func g) #[] caps) w (ps++[Z.P k]) Z w3' from⟨D2.out.s.step g3,D2.out.f.step g3,D2.out.r.step g3,GG.out.2.1 _ _ _ D2.out.g (g3.mono D2.out.b.size),D2.out.b.trans (But.of_below g3),zR D2.out.sz g3.size⟩)
  have K3:=zW (K2.out.trans (But.of_below g3))
  have q1:=Z1
  have hsz:=K3.out.size
  have B4:=zW (show But (fun j=>j=w.heap.size) w3' w4 from(But.row (T:=fun j=>j=w.heap.size) _ rfl).trans (But.of_below g4))
  have hgr:Below w.heap.size w3' w4:=B4.out.below (D3.out.b.size) (fun j hj=>by omega)
  have hWs:=HH.out.sz
  have hkeep:∀j,w.heap.size+1≤j→j<W.heap.size→w4.heap[j]?=W.heap[j]?:=fun j hj hl=>by
   have h1:=K3.out.block j hl (fun ht=>by have:=GG.out.1 j ht;omega);have h2:=B4.out.block j (zD hl K3.out.size) (by show¬j=w.heap.size;omega);exact h2.trans h1
  refine⟨⟨zR K3.out.size B4.out.size,fun j o hB ho hc=>?_⟩,?_,?_⟩
  ·rw[hkeep j zGX (qM.1 ho).1,ho]
  ·exact hkeep _ zGX zGX
  ·show ChI step T G S (.func (.func g) #[] caps) w (uM step 0 S (pre++[(⟨k,hk⟩:Fin 4)])) (gO step 0 S (pre++[(⟨k,hk⟩:Fin 4)])) w4
   rw[HP.out,HZ.out]
   refine⟨?_,?_,?_,?_,?_,zR D3.out.sz B4.out.size⟩
   ·exact Blk.but (Blk.store D3.out.s _) (But.of_below (T:=fun _=>False) g4) id
   ·exact Blk.but D3.out.f B4.out (by show¬w.heap.size+1=w.heap.size;omega)
   ·exact Blk.but D3.out.r B4.out (by show¬w.heap.size+1+1=w.heap.size;omega)
   ·exact GG.out.2.1 _ _ _ D3.out.g hgr
   ·exact⟨hgr.os.trans D3.out.b.os,hgr.tape.trans D3.out.b.tape,hgr.output.trans D3.out.b.output,zR D3.out.b.size hgr.size,fun j hj ht=>(hgr.block j hj).trans (D3.out.b.block j hj ht)⟩
 case done=>
  rintro D ys W hD rfl H hK
  obtain⟨Z,hZ⟩:∃Z,gO step 0 S (nC M 4)=Z:=⟨_,rfl⟩
  rw[hZ]at H
  have HH:=zW H
  have HZ:=zW hZ
  clear H hZ
  simp only[Exit.inBlock,Exit.then]
  gi_step
  refine wpIn_wide.2 ?_
  go_step
  refine zH ?_
  refine lL cL HH.out.s (lN _) rfl (.tmp 2) rfl zGB ?_
  refine lM (ds:=lK Z) cL HH.out.r (lN _) (lN _) (nR _) rfl (.tmp 4) (.tmp 19) rfl zGK zGK ?_
  simp only[Act.put,zQ,zZ,zJ]
  have hDs:w.heap.size+4≤D:=zGX
  have R5:SB (w.heap.size+1+1) Z ((W.setRow (w.heap.size+1+1) (lK Z)).putObj D (.deferred none)):=(jM zGX).trans (Blk.store HH.out.r (lK Z))
  have B5:Below w.heap.size W ((W.setRow (w.heap.size+1+1) (lK Z)).putObj D (.deferred none)):=
   ⟨rfl,rfl,rfl,by simp[World.setRow,World.putObj],fun j hj=>(jM zGX).trans (qQ W _ j _ zGX)⟩
  have hK5:(W.setRow (w.heap.size+1+1) (lK Z)).heap[D]?=some (.deferred (some [])):=(qQ W _ D _ zGX).trans hK
  have RR:=zW (zM R5 (zM B5 hK5))
  clear R5 B5 hK5
  generalize W.setRow (w.heap.size+1+1) (lK Z)=W5 at*
  iterate 4 go_step
  refine⟨by simp,.inl ⟨_,_,rfl,run_takeDeferred RR.out.2.2,?_⟩⟩
  refine⟨_,zE rfl _ _ (w.heap.size+1+1) _ _ _ _ rfl RR.out.1 Tryz.underlying80 rfl zBZ,?_,?_,?_⟩
  ·rw[HZ.out]
  ·exact GG.out.2.1 _ _ _ HH.out.g RR.out.2.1
  ·have h1:=RR.out.2.1
   exact⟨h1.os.trans HH.out.b.os,h1.tape.trans HH.out.b.tape,h1.output.trans HH.out.b.output,zR HH.out.b.size h1.size,fun j hj ht=>(h1.block j hj).trans (HH.out.b.block j hj ht)⟩
 case stop=>
  rintro D c pre W _ _ h _
  exact h.elim
end
end Go.Proofs.YtbpniahcjbagmaaGreatDoor
