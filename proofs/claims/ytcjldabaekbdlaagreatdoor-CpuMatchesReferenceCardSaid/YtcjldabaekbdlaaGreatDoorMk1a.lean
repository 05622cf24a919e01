/- PixRef, PlaneRef, PlaneWords, PlaneRefDr, PixRefSp, PlaneRefSc, Pix2, PlaneBits, PlaneRefSpr, ScrSt, ScrNew, ScrRes, ScrSel, AluSk, AluSpec, AluSpL. -/
import Derived.Test.YtcjldabaekbdlaaGreatDoorMPix
import Derived.Test.YtcjldabaekbdlaaGreatDoorMAluDo
import Derived.Test.YtcjldabaekbdlaaGreatDoorMk0d
set_option maxRecDepth 400000
set_option maxHeartbeats 64000000
set_option linter.unusedVariables false
set_option linter.unusedSimpArgs false
namespace Go.Proofs.YtcjldabaekbdlaaGreatDoor
section
open Go.RowKit Num
structure Pix(g:Nat)(f:Nat→Bool)(w:World):Prop where
 lt:g<w.heap.size
 at_:∀j,j<128→w.cell? ⟨g,j,none⟩=some (.bool (f j))
 fz:∀j,j<128→w.frozen? ⟨g,j,none⟩=false
section
variable {g:Nat} {f f':Nat→Bool} {w w':World}
theorem Pix.below(H:Pix g f w){n:Nat}(hb:Below n w w')(hn:g<n):Pix g f w':=
 ⟨zS H.lt hb.size,fun j hj=>(hb.cell (p:=⟨g,j,none⟩) hn).trans (H.at_ j hj),fun j hj=>(hb.frozen (p:=⟨g,j,none⟩) hn).trans (H.fz j hj)⟩
theorem Pix.step(H:Pix g f w)(hb:Below w.heap.size w w'):Pix g f w':=H.below hb H.lt
theorem Pix.congr(H:Pix g f w)(h:∀j,j<128→f j=f' j):Pix g f' w:=⟨H.lt,fun j hj=>by rw[←h j hj];exact H.at_ j hj,H.fz⟩
theorem Pix.set(H:Pix g f w){k:Nat}(hk:k<128)(v:Bool):Pix g (fun j=>if j=k then v else f j) (w.setCell ⟨g,k,none⟩ (.bool v)):=by
 exact zDM
theorem Pix.other(H:Pix g f w){b:Nat}(hb:b≠g)(o:Nat)(v:Value):Pix g f (w.setCell ⟨b,o,none⟩ v):=
 ⟨by simpa using H.lt,fun j hj=>by rw[qI _ _ _ _ (by simp[hb])];exact H.at_ j hj,fun j hj=>by rw[World.frozen?_setCell];exact H.fz j hj⟩
def Drawn(f:Nat→Bool)(w:World)(e:Ending)(w':World):Prop:=
 ∃g,e=.returned (.slice (some ⟨g,0,none⟩) 128 128)∧w.heap.size≤g∧Pix g f w'∧Below w.heap.size w w'
end
def PY:Array Value:=madeCells #[.bool false] 128
theorem Pix.new(w:World)(t:TypeId):Pix w.heap.size (fun _=>false) (w.alloc (.cells PY t)):=
 ⟨by simp,fun j hj=>by rw[World.cell?_alloc_at _ _ _ _ rfl];simp[PY,madeCells,hj,Nat.mod_one],fun j hj=>World.frozen?_alloc_at _ _ _ _ rfl⟩
theorem BX:(Tryz.prog.info? 4).map (fun i=>(i.zero,i.bytes,i.size))=some (some (.bool false),1,1):=by kernel_rfl
theorem IU(w:World):(Instr.makeSlice 174 (.int .i64 128) (.int .i64 128)).run Tryz.prog w=.ok (.slice (some ⟨w.heap.size,0,none⟩) 128 128) (w.alloc (.cells PY 4)):=by
 have hi:=BX;cases hq:Tryz.prog.info? 4 with
 |none=>rw[hq]at hi;cases hi
 |some i=>
  rw[hq]at hi
  simp only[Option.map_some,kR,jC]at hi
  obtain⟨hz,hb,hs⟩:=hi
  have h:=run_make (P:=Tryz.prog) w 174 4 i (.bool false) Tryz.underlying174 hq hz .i64 .i64 128 128 zBH zBH (by rw[hb];decide) zBH
  rw[h,hs]
  rfl
theorem oX(H k:Nat):H/2^k/2=H/2^(k+1):=by rw[Nat.div_div_eq_div_mul,←Nat.pow_succ]
theorem bit_of(H k X:Nat)(h:X=H/2^k):H.testBit k=decide (X%2=1):=by
 rw[h,Nat.testBit_eq_decide_div_mod_eq]
structure Pxs(g:Nat)(f:Nat→Bool)(w:World):Prop where
 lt:g<w.heap.size
 at_:∀j,j<8192→w.cell? ⟨g,j,none⟩=some (.bool (f j))
 fz:∀j,j<8192→w.frozen? ⟨g,j,none⟩=false
section
variable {g:Nat} {f f':Nat→Bool} {w w':World}
theorem Pxs.below(H:Pxs g f w){n:Nat}(hb:Below n w w')(hn:g<n):Pxs g f w':=
 ⟨zS H.lt hb.size,fun j hj=>(hb.cell (p:=⟨g,j,none⟩) hn).trans (H.at_ j hj),fun j hj=>(hb.frozen (p:=⟨g,j,none⟩) hn).trans (H.fz j hj)⟩
theorem Pxs.step(H:Pxs g f w)(hb:Below w.heap.size w w'):Pxs g f w':=H.below hb H.lt
theorem Pxs.drew(H:Pxs g f w):Pxs g f w.drew:=H.step (zB _ _).drew
theorem Pxs.congr(H:Pxs g f w)(h:∀j,j<8192→f j=f' j):Pxs g f' w:=⟨H.lt,fun j hj=>by rw[←h j hj];exact H.at_ j hj,H.fz⟩
theorem Pxs.set(H:Pxs g f w){k:Nat}(hk:k<8192)(v:Bool):Pxs g (fun j=>if j=k then v else f j) (w.setCell ⟨g,k,none⟩ (.bool v)):=by
 exact zDM
def fV(f:Nat→Bool)(w:World)(e:Ending)(w':World):Prop:=
 ∃g,e=.returned (.slice (some ⟨g,0,none⟩) 8192 8192)∧w.heap.size≤g∧Pxs g f w'∧Below w.heap.size w w'
theorem fV.congr{e:Ending}(H:fV f w e w')(h:∀j,j<8192→f j=f' j):fV f' w e w':=by
 obtain⟨g,h1,h2,h3,h4⟩:=H;exact⟨g,h1,h2,h3.congr h,h4⟩
end
theorem zV7(n j:Nat)(h:j<n):(madeCells #[.bool false] n)[j]?=some (.bool false):=by simp[madeCells,h,Nat.mod_one]
def zYL:Array Value:=madeCells #[.bool false] 8192
theorem Pxs.new(w:World)(t:TypeId):Pxs w.heap.size (fun _=>false) (w.alloc (.cells zYL t)):=
 ⟨by simp,fun j hj=>by rw[World.cell?_alloc_at _ _ _ _ rfl];exact zV7 8192 j hj,fun j hj=>World.frozen?_alloc_at _ _ _ _ rfl⟩
theorem GN(w:World):(Instr.makeSlice 174 (.int .i64 8192) (.int .i64 8192)).run Tryz.prog w=.ok (.slice (some ⟨w.heap.size,0,none⟩) 8192 8192) (w.alloc (.cells zYL 4)):=by
 have hi:=BX;cases hq:Tryz.prog.info? 4 with
 |none=>rw[hq]at hi;cases hi
 |some i=>
  rw[hq]at hi
  simp only[Option.map_some,kR,jC]at hi
  obtain⟨hz,hb,hs⟩:=hi
  have h:=run_make (P:=Tryz.prog) w 174 4 i (.bool false) Tryz.underlying174 hq hz .i64 .i64 8192 8192 zBH zBH (by rw[hb];decide) zBH
  rw[h,hs]
  rfl
theorem zXV(w:World):Calls Tryz.prog 184 #[] w (fV (fun _=>false) w):=by
 have mk:=GN;go_enter Tryz.func184,Tryz.ntmps184;go_wp2;go_ret;exact⟨_,rfl,zH _,Pxs.new w _,cH w _⟩
theorem pM(b:Bool)(w:World):Calls Tryz.prog 211 #[.bool b] w fun e w'=>e=.returned (.int .i64 (if b then 64 else 32))∧w=w':=by
 cases b
 all_goals
  go_enter Tryz.func211,Tryz.ntmps211
  go_wp2
  go_ret
  exact⟨rfl,rfl⟩
theorem KN(g:Nat)(f:Nat→Bool)(w:World)(H:Pxs g f w){x y k:Nat}{xi yi:Int}(hx:xi=(x:Int))(hy:yi=(y:Int))(hk:k=128*y+x)(x1:x<128)(y1:y<64):
  Calls Tryz.prog 161 #[.slice (some ⟨g,0,none⟩) 8192 8192,.int .i64 xi,.int .i64 yi] w fun e w'=>e=.returned (.bool (f k))∧w=w':=by
 subst hx hy;have h1:=H.at_ k zBY;have ek:128*(y:Int)+(x:Int)=(k:Int):=zBY;have k1:k<8192:=zBY;clear H;obtain⟨v,hv⟩:∃v,v=f k:=⟨_,rfl⟩;rw[←hv]at h1⊢;clear hv hk;go_enter Tryz.func161,Tryz.ntmps161;exact zDP
theorem YG(g:Nat→Bool)(k:Nat)(hk:k<64):(acc g k:Int)≤9223372036854775807:=by
 have h:=zY4 g k;have h2:2^k≤2^63:=Nat.pow_le_pow_right zBH zBY;omega
def N8(f:Nat→Bool)(y:Nat):BitVec 64:=wd (fun i=>f (128*y+i))
def N7(f:Nat→Bool)(y:Nat):BitVec 64:=wd (fun i=>f (128*y+(64+i)))
theorem zQ8(g:Nat)(f:Nat→Bool)(w:World)(H:Pxs g f w){y:Nat}{yi:Int}(hy:yi=(y:Int))(y1:y<64):
  Calls Tryz.prog 80 #[.slice (some ⟨g,0,none⟩) 8192 8192,.int .i64 yi] w fun e w'=>e=.returned (.tuple #[.int .u64 ((N8 f y).toNat:Int),.int .u64 ((N7 f y).toNat:Int)])∧w=w':=by
 subst hy;have HH:=zW H;have EH:Hid ((N8 f y).toNat=acc (fun i=>f (128*y+i)) 64):=zW (FO _);have EL:Hid ((N7 f y).toNat=acc (fun i=>f (128*y+(64+i))) 64):=zW (FO _);generalize (N8 f y).toNat=U at*;generalize (N7 f y).toNat=V at*;clear H;go_enter Tryz.func80,Tryz.ntmps80;go_wp2;go_loop [6,7,8] (fun a b i=>∃k X Y:Nat,k≤64∧a=.int .u64 (X:Int)∧b=.int .u64 (Y:Int)∧i=.int .i64 (k:Int)∧X=acc (fun i=>f (128*y+i)) k∧Y=acc (fun i=>f (128*y+(64+i))) k) (fun _ _ i=>64-(intOf i).toNat)
 case atStart=>exact⟨0,0,0,by omega,rfl,rfl,rfl,rfl,rfl⟩
 case round=>
  obtain⟨k,X,Y,hk,rfl,rfl,rfl,hX,hY⟩:=hrel
  by_cases hlt:k<64
  ·have hi:(k:Int)<64:=zBY
   have X1:(X:Int)≤9223372036854775807:=by rw[hX];exact YG _ _ hlt
   have Y1:(Y:Int)≤9223372036854775807:=by rw[hY];exact YG _ _ hlt
   have C1:=zW (KN g f w HH.out (x:=k) (y:=y) rfl rfl rfl zBY y1)
   have C2:=zW (KN g f w HH.out (x:=64+k) (y:=y) (xi:=64+(k:Int)) zBY rfl rfl zBY y1)
   have XX:=zW hX
   have YY:=zW hY
   clear hX hY
   cases e1:f (128*y+k)
   all_goals
    have E1:=zW e1
    rw[e1]at C1
    clear e1
    cases e2:f (128*y+(64+k))
    all_goals
     have E2:=zW e2
     rw[e2]at C2
     clear e2
     go_wp2_with fail
     refine C1.out.mono ?_
     rintro e w' ⟨rfl,rfl⟩
     go_wp2_with fail
     refine C2.out.mono ?_
     rintro e w' ⟨rfl,rfl⟩
     go_wp2
     go_round
     case rel=>
      refine⟨k+1,_,_,by omega,by go_num,by go_num,by go_num,?_,?_⟩
      ·first|(rw[zQ2 (fun i=>f (128*y+i)) k E1.out,XX.out])|(rw[YH (fun i=>f (128*y+i)) k E1.out,XX.out])
      ·first|(rw[zQ2 (fun i=>f (128*y+(64+i))) k E2.out,YY.out])|(rw[YH (fun i=>f (128*y+(64+i))) k E2.out,YY.out])
     case measure=>simp[intOf];omega
  ·have K64:=zW (show k=64 by omega)
   have hi:¬(k:Int)<64:=zBY
   have XX:=zW hX
   have YY:=zW hY
   clear hX hY
   go_wp2
   go_ret2
   have e1:X=U:=by rw[XX.out,EH.out,K64.out]
   have e2:Y=V:=by rw[YY.out,EL.out,K64.out]
   rw[←e1,←e2]
   exact⟨rfl,rfl⟩
theorem zeroPw:mQ (fun _=>0#128)=Array.replicate 128 (.int .u64 0):=by
 apply qH
 intro j
 by_cases hj:j<128
 ·rw[uH _ _ hj];unfold wG;simp[hj,hi,lo]
 ·rw[zE (by simp[mY];omega),zE zBS]
theorem ZB:(Tryz.prog.info? 69).map (fun i=>(i.zero,i.size))=some (some (.agg (mQ fun _=>0#128)),128):=by
 rw[zeroPw];kernel_rfl
theorem rQ(w:World):(zeroValue 69).run Tryz.prog w=.ok (.agg (mQ fun _=>0#128)) w:=(zero_of_info ZB).1 w
theorem cJ:(Tryz.prog.info? 69).map (·.size)=some 128:=by kernel_rfl
def zLZ(f:Nat→Bool)(b:Bool)(w:World)(e:Ending)(w':World):Prop:=
 ∃g,e=.returned (.tuple #[.slice (some ⟨g,0,none⟩) 8192 8192,.bool b])∧w.heap.size≤g∧Pxs g f w'∧Below w.heap.size w w'
def gX(f:Nat→Bool)(k:Nat):Bool:=decide (0<pcn f k)
theorem zWR(f:Nat→Bool)(k:Nat):gX f (k+1)=(gX f k||f k):=by
 unfold gX;rw[pcn];cases h:f k
 ·simp
 ·simp
theorem zWB(f:Nat→Bool):gX f 0=false:=rfl
theorem MY{N:Nat}(hN:N=8192)(w:World):Calls Tryz.prog 184 #[] w fun e w'=>∃g,e=.returned (.slice (some ⟨g,0,none⟩) N N)∧w.heap.size≤g∧Pxs g (fun _=>false) w'∧Below w.heap.size w w':=by
 subst hN;exact zXV w
theorem zZF(g1 g2:Nat)(f1 f2:Nat→Bool)(w:World)(H1:Pxs g1 f1 w)(H2:Pxs g2 f2 w):
  Calls Tryz.prog 214 #[.slice (some ⟨g1,0,none⟩) 8192 8192,.slice (some ⟨g2,0,none⟩) 8192 8192] w (zLZ (fun i=>f1 i^^f2 i) (gX (fun i=>f1 i&&f2 i) 8192) w):=by
 have HH1:=zW H1;have HH2:=zW H2;obtain⟨N,hN⟩:∃N,N=8192:=⟨_,rfl⟩;have BB:=zW (MY hN w);unfold zLZ;rw[←hN];obtain⟨R,hR⟩:∃R,R=gX (fun i=>f1 i&&f2 i) N:=⟨_,rfl⟩;rw[←hR];have RR:=zW hR;have NN:=zW hN;clear hR;clear H1 H2 hN;go_enter Tryz.func214,Tryz.ntmps214;go_wp2_with fail;refine BB.out.mono ?_;rintro e w1 ⟨G,rfl,hG,hP0,hb0⟩;have G0:=zW hG;have P0:=zW hP0;have b0:=zW hb0;clear hG hP0 hb0;go_wp2;go_loopw [7,8] (fun t i wr=>∃(k:Nat) (b:Bool),k≤N∧t=.bool b∧i=.int .i64 (k:Int)∧b=gX (fun i=>f1 i&&f2 i) k∧Pxs G (fun j=>if j<k then f1 j^^f2 j else false) wr∧Below w.heap.size w wr) (fun _ i _=>N-(intOf i).toNat)
 case atStart=>exact⟨0,false,by omega,rfl,rfl,(zWB _).symm,P0.out.congr fun j hj=>by simp,b0.out⟩
 case round=>
  clear P0 b0
  obtain⟨k,b,hk,rfl,rfl,hb,P,B⟩:=hrel
  have PB:=zW (zY P (zY B hb))
  clear P B hb
  by_cases hlt:k<8192
  ·have K1:=zW hlt
   have hi:(k:Int)<8192:=zBY
   have hiN:(k:Int)<(N:Int):=by have:=NN.out;omega
   have hkN:k<N:=by have:=NN.out;omega
   have kb:(k:Int)≤1000000:=zBY
   go_wp2
   refine bO 12 zBM zBM ?_
   intro wd hwd
   have PD0:(Pxs G (fun j=>if j<k then f1 j^^f2 j else false) wd∧Below w.heap.size w wd∧b=gX (fun i=>f1 i&&f2 i) k):=by rw[hwd];exact⟨PB.out.1.drew,PB.out.2.1.drew,PB.out.2.2⟩
   clear hwd PB hlt hi
   have c1:=(HH1.out.below PD0.2.1 HH1.out.lt).at_ k K1.out
   have c2:=(HH2.out.below PD0.2.1 HH2.out.lt).at_ k K1.out
   have c3:=PD0.1.at_ k K1.out
   have c4:=PD0.1.fz k K1.out
   have PD:=zW PD0
   clear PD0
   have NX:=zW (zWR (fun i=>f1 i&&f2 i) k)
   have VX:=zW (show(fun i=>f1 i^^f2 i) k=(f1 k^^f2 k)from rfl)
   have hGne1:G≠g1:=by have:=HH1.out.lt;have:=G0.out;omega
   have hGne2:G≠g2:=by have:=HH2.out.lt;have:=G0.out;omega
   obtain⟨v1,e1⟩:∃v,v=f1 k:=⟨_,rfl⟩
   obtain⟨v2,e2⟩:∃v,v=f2 k:=⟨_,rfl⟩
   rw[←e1]at c1
   rw[←e2]at c2
   have E:=zW (zY e1 e2)
   clear e1 e2
   simp only[List.take_succ_cons,lZ,List.drop_succ_cons,List.drop_zero]
   cases v1
   all_goals
    cases v2
    all_goals
     repeat still_step
     refine wpStill_nil ?_
     cases b
     all_goals
      go_wp2
      go_roundw
      case rel=>
       have e1:=E.out.1
       have e2:=E.out.2
       refine⟨k+1,_,by omega,rfl,by go_num,?_,(PD.out.1.set K1.out _).congr fun j hj=>?_,PD.out.2.1.setCell (p:=⟨G,k,none⟩) G0.out _⟩
       ·rw[NX.out,←PD.out.2.2,←e1,←e2];rfl
       ·by_cases e:j=k
        ·subst e;rw[zG rfl,zG zBY,←e1,←e2];rfl
        ·rw[zL e]
         by_cases e3:j<k
         ·rw[zG e3,zG zBY]
         ·rw[zL e3,zL zBY]
      case measure=>have:=NN.out;simp[intOf];omega
  ·have K1:=zW (show k=N by have:=NN.out;omega)
   have hi:¬(k:Int)<8192:=zBY
   go_wp2
   go_ret2
   have h:=PB.out
   rw[K1.out]at h
   rw[h.2.2,←RR.out]
   exact⟨G,rfl,G0.out,h.1.congr fun j hj=>by rw[zG (by rw[NN.out];exact hj)],h.2.1⟩
theorem aU(b:Bool)(w:World):Calls Tryz.prog 210 #[.bool b] w fun e w'=>e=.returned (.int .i64 (if b then 128 else 64))∧w=w':=by
 cases b
 all_goals
  go_enter Tryz.func210,Tryz.ntmps210
  go_wp2
  go_ret
  exact⟨rfl,rfl⟩
theorem TS(b c x m:Nat)(clip:Bool)(w:World)(b1:b≤65535)(c0:0<c)(c1:c≤16)(hm:c≤m)(hx:x<m)(m1:m≤128):
  Calls Tryz.prog 241 #[.int .u16 (b:Int),.int .i64 (c:Int),.int .i64 (x:Int),.int .i64 (m:Int),.bool clip] w (Drawn (spF b c x m clip c) w):=by
 have mk:=IU;go_enter Tryz.func241,Tryz.ntmps241;go_wp2;have N:=zW (Pix.new w 4);have B:=zW (cH w (.cells PY 4));generalize w.alloc (.cells PY 4)=w1 at*;clear mk;go_loopw [12,13] (fun a i wr=>∃k X:Nat,∃q:Int,k≤c∧a=.int .i64 (X:Int)∧i=.int .i64 q∧q=(c:Int)-1-(k:Int)∧X=b/2^k∧Pix w.heap.size (spF b c x m clip k) wr∧Below w.heap.size w wr) (fun _ i _=>(intOf i+1).toNat)
 case atStart=>exact⟨0,b,_,by omega,rfl,rfl,by omega,by simp,N.out.congr fun j hj=>(zKL b c x m clip j c0).symm,B.out⟩
 case round=>
  clear N B
  obtain⟨k,X,q,hk,rfl,rfl,hq,hX,hP,hB⟩:=hrel
  have X1:(X:Int)≤65535:=by
   have:=Nat.div_le_self b (2^k);rw[←hX]at this;omega
  have XX:=zW hX
  have PP:=zW hP
  have BB:=zW hB
  have hbit:=bit_of b k X hX
  clear hX hP hB
  by_cases hlt:k<c
  ·obtain⟨d,hd⟩:∃d:Nat,q=(d:Int):=⟨q.toNat,by omega⟩
   have hdk:d=c-1-k:=zBY
   subst hd
   have d0:d<16:=zBY
   have DK:=zW hdk
   by_cases hodd:X%2=1
   ·have TT:=zW (show b.testBit k=true by rw[hbit,zO hodd])
    have ho:((X:Int)%2==1)=true:=by simp;omega
    obtain⟨y,hy⟩:∃y:Nat,y=x+d:=⟨_,rfl⟩
    have eix:(x:Int)+(d:Int)=(y:Int):=zBY
    have HY:=zW hy
    by_cases hin:y<m
    ·have a1:=PP.out.at_ y zBY
     have a2:=PP.out.fz y zBY
     have hin2:(y:Int)<(m:Int):=zBY
     have hy1:y<128:=zBY
     clear hbit hq hdk hy
     go_wp2
     go_roundw
     case rel=>
      refine⟨k+1,X/2,(d:Int)-1,by omega,by go_num,by go_num,by have:=DK.out;omega,by rw[XX.out,oX],(PP.out.set (k:=y) hy1 true).congr fun j hj=>?_,BB.out.setCell (p:=⟨w.heap.size,y,none⟩) (zH _) _⟩
      rw[zKM b c x m clip k j hlt hm hx zTG,TT.out,show x+(c-1-k)=y by have:=DK.out;have:=HY.out;omega]
     case measure=>simp[intOf]
    ·have hin2:¬(y:Int)<(m:Int):=zBY
     have hin3:(m:Int)≤(y:Int):=zBY
     cases clip
     ·obtain⟨z,hz⟩:∃z:Nat,z=y-m:=⟨_,rfl⟩
      have eiz:(y:Int)-(m:Int)=(z:Int):=zBY
      have a1:=PP.out.at_ z zBY
      have a2:=PP.out.fz z zBY
      have hz1:z<128:=zBY
      have HZ:=zW hz
      clear hbit hq hdk hy hz hin
      go_wp2
      go_roundw
      case rel=>
       refine⟨k+1,X/2,(d:Int)-1,by omega,by go_num,by go_num,by have:=DK.out;omega,by rw[XX.out,oX],(PP.out.set (k:=z) hz1 true).congr fun j hj=>?_,BB.out.setCell (p:=⟨w.heap.size,z,none⟩) (zH _) _⟩
       rw[O5 b c x m k j hlt hm hx zTG,TT.out,show x+(c-1-k)-m=z by have:=DK.out;have:=HY.out;have:=HZ.out;omega]
      case measure=>simp[intOf]
     ·clear hbit hq hdk hy hin
      go_wp2
      go_roundw
      case rel=>
       refine⟨k+1,X/2,(d:Int)-1,by omega,by go_num,by go_num,by have:=DK.out;omega,by rw[XX.out,oX],PP.out.congr fun j hj=>?_,BB.out⟩
       rw[TX b c x m k j hlt hm hx zTG]
      case measure=>simp[intOf]
   ·have TT:=zW (show b.testBit k=false by rw[hbit,zC hodd])
    have ho:((X:Int)%2==1)=false:=by simp;omega
    clear hbit hq hdk
    go_wp2
    go_roundw
    case rel=>
     refine⟨k+1,X/2,(d:Int)-1,by omega,by go_num,by go_num,by have:=DK.out;omega,by rw[XX.out,oX],PP.out.congr fun j hj=>?_,BB.out⟩
     rw[zLA b c x m clip k j hlt hm hx TT.out]
    case measure=>simp[intOf]
  ·have hkc:k=c:=zBY
   subst hkc
   have hneg:q<0:=zBY
   clear hlt hbit hq
   go_wp2
   go_ret
   exact⟨_,rfl,zH _,PP.out,BB.out⟩
def Res(b:Bool)(m h:Nat):Prop:=(b=true∧m=128∧h=64)∨(b=false∧m=64∧h=32)
theorem Res.bounds{b:Bool}{m h:Nat}(r:Res b m h):16≤m∧m≤128∧16≤h∧h≤64:=by
 rcases r with⟨_,rfl,rfl⟩|⟨_,rfl,rfl⟩<;>decide
theorem zQZ{b:Bool}{m h:Nat}(r:Res b m h)(w:World):Calls Tryz.prog 210 #[.bool b] w fun e w'=>e=.returned (.int .i64 (m:Int))∧w=w':=by
 rcases r with⟨rfl,rfl,_⟩|⟨rfl,rfl,_⟩
 ·exact aU true w
 ·exact aU false w
theorem TI{b:Bool}{m h:Nat}(r:Res b m h)(w:World):Calls Tryz.prog 211 #[.bool b] w fun e w'=>e=.returned (.int .i64 (h:Int))∧w=w':=by
 rcases r with⟨rfl,_,rfl⟩|⟨rfl,_,rfl⟩
 ·exact pM true w
 ·exact pM false w
theorem rgetN{N:Nat}(hN:N=8192)(g:Nat)(f:Nat→Bool)(w:World)(H:Pxs g f w){x y k:Nat}{v:Bool}{xi yi:Int}(hx:xi=(x:Int))(hy:yi=(y:Int))(hk:k=128*y+x)(x1:x<128)(y1:y<64)(hv:f k=v):
  Calls Tryz.prog 161 #[.slice (some ⟨g,0,none⟩) N N,.int .i64 xi,.int .i64 yi] w fun e w'=>e=.returned (.bool v)∧w=w':=by
 subst hN;rw[←hv];exact KN g f w H hx hy hk x1 y1
def oU(F:Nat→Bool)(n j:Nat):Bool:=if j<n then F j else false
theorem zZQ(F:Nat→Bool)(j:Nat):oU F 0 j=false:=by simp[oU]
theorem zX5(F:Nat→Bool)(n j:Nat)(h:j<n):oU F n j=F j:=by rw[oU,zG h]
theorem zX4(F:Nat→Bool)(n k:Nat)(v:Bool)(hk:k=n)(hv:F k=v)(j:Nat):(if j=k then v else oU F n j)=oU F (n+1) j:=by
 subst hk;unfold oU;by_cases e:j=k
 ·subst e;rw[zG rfl,zG zBY,hv]
 ·rw[zL e];by_cases e3:j<k
  ·rw[zG e3,zG zBY]
  ·rw[zL e3,zL zBY]
theorem dS(F:Nat→Bool)(n n':Nat)(hn:n≤n')(hv:∀j,n≤j→j<n'→F j=false)(j:Nat):oU F n j=oU F n' j:=by
 unfold oU;by_cases e:j<n
 ·rw[zG e,zG zBY]
 ·rw[zL e];by_cases e3:j<n'
  ·rw[zG e3,hv j zBY e3]
  ·rw[zL e3]
theorem rsc_in(f:Nat→Bool)(dx dy:Int)(m h x y X Y k:Nat)(hm:m≤128)(hx:x<m)(hy:y<h)(ex:(x:Int)-dx=X)(ey:(y:Int)-dy=Y)(hX:X<m)(hY:Y<h)(hk:k=128*y+x):rW f dx dy m h k=f (128*Y+X):=by
 subst hk;unfold rW;rw[show(128*y+x)/128=y by omega,show(128*y+x)%128=x by omega,ex,ey,zO zBY,Bool.true_and,show(128*(Y:Int)+(X:Int)).toNat=128*Y+X by omega]
theorem JW(f:Nat→Bool)(dx dy:Int)(m h x y k:Nat)(hm:x<128)(hk:k=128*y+x)(hn:¬(0≤(x:Int)-dx∧(x:Int)-dx<m∧0≤(y:Int)-dy∧(y:Int)-dy<h)):rW f dx dy m h k=false:=by
 subst hk;unfold rW;rw[show(128*y+x)/128=y by omega,show(128*y+x)%128=x by omega,zC zBY,Bool.false_and]
theorem zQJ(f:Nat→Bool)(dx dy:Int)(m h k:Nat)(hn:m≤k%128∨h≤k/128):rW f dx dy m h k=false:=by
 unfold rW;rw[zC zBY,Bool.false_and]
theorem TP(g:Nat)(f:Nat→Bool)(dx dy:Int)(b:Bool)(m h:Nat)(hr:Res b m h)(w:World)(H:Pxs g f w)(d0: -1000≤dx)(d1:dx≤1000)(e0: -1000≤dy)(e1:dy≤1000):
  Calls Tryz.prog 217 #[.slice (some ⟨g,0,none⟩) 8192 8192,.int .i64 dx,.int .i64 dy,.bool b] w (fV (rW f dx dy m h) w):=by
 have HH:=zW H;obtain⟨N,hN⟩:∃N,N=8192:=⟨_,rfl⟩;have BB:=zW (MY hN w);obtain⟨m0,m1,h0,h1⟩:=hr.bounds;have RR:=zW hr;unfold fV;rw[←hN];have NN:=zW hN;clear H hN hr;go_enter Tryz.func217,Tryz.ntmps217;go_wp2_with fail;refine BB.out.mono ?_;rintro e w1 ⟨G,rfl,hG,hP0,hb0⟩;have G0:=zW hG;have P0:=zW hP0;have b0:=zW hb0;clear hG hP0 hb0;go_wp2_with fail;refine(zQZ RR.out w1).mono ?_;rintro e w' ⟨rfl,rfl⟩;go_wp2_with fail;refine(TI RR.out w1).mono ?_;rintro e w' ⟨rfl,rfl⟩;go_wp2;go_loopw [12] (fun i wr=>∃y:Nat,y≤h∧i=.int .i64 (y:Int)∧Pxs G (oU (rW f dx dy m h) (128*y)) wr∧Below w.heap.size w wr) (fun i _=>h-(intOf i).toNat)
 case atStart=>exact⟨0,by omega,rfl,P0.out.congr fun j hj=>(zZQ _ j).symm,b0.out⟩
 case round=>
  clear P0 b0
  obtain⟨y,hy,rfl,hP,hB⟩:=hrel
  have PB:=zW (zY hP hB)
  clear hP hB
  by_cases hlt:y<h
  ·have hyi:(y:Int)<(h:Int):=zBY
   go_wp2
   go_loopw [13] (fun i wr=>∃x:Nat,x≤m∧i=.int .i64 (x:Int)∧Pxs G (oU (rW f dx dy m h) (128*y+x)) wr∧Below w.heap.size w wr) (fun i _=>m-(intOf i).toNat)
   case atStart=>exact⟨0,by omega,rfl,PB.out.1,PB.out.2⟩
   case round=>
    clear PB
    obtain⟨x,hx,rfl,hP,hB⟩:=hrel
    have PB:=zW (zY hP hB)
    clear hP hB
    by_cases hxt:x<m
    ·have hxi:(x:Int)<(m:Int):=zBY
     have x1:(x:Int)<128:=zBY
     have y1:(y:Int)<64:=zBY
     obtain⟨k,hk⟩:∃k,k=128*y+x:=⟨_,rfl⟩
     have HK:=zW hk
     have k8:=zW (show k<8192 by omega)
     rcases(show(0≤(x:Int)-dx∧(x:Int)-dx<m∧0≤(y:Int)-dy∧(y:Int)-dy<h)∨¬0≤(x:Int)-dx∨(0≤(x:Int)-dx∧¬(x:Int)-dx<m)∨(0≤(x:Int)-dx∧(x:Int)-dx<m∧¬0≤(y:Int)-dy)∨(0≤(x:Int)-dx∧(x:Int)-dx<m∧0≤(y:Int)-dy∧¬(y:Int)-dy<h) by omega)with⟨i1,i2,i3,i4⟩|i1|⟨i1,i2⟩|⟨i1,i2,i3⟩|⟨i1,i2,i3,i4⟩
     ·obtain⟨X,hX⟩:∃X:Nat,(x:Int)-dx=X:=⟨((x:Int)-dx).toNat,by omega⟩
      obtain⟨Y,hY⟩:∃Y:Nat,(y:Int)-dy=Y:=⟨((y:Int)-dy).toNat,by omega⟩
      have CG:=zW (rgetN NN.out g f wr (HH.out.below PB.out.2 HH.out.lt) (x:=X) (y:=Y) hX hY rfl zBY zBY (rsc_in f dx dy m h x y X Y k m1 hxt hlt hX hY zBY zBY hk).symm)
      have ST:=zW (fun v hv=>zX4 (rW f dx dy m h) (128*y+x) k v hk hv)
      obtain⟨v,hv⟩:∃v,rW f dx dy m h k=v:=⟨_,rfl⟩
      rw[hv]at CG
      have ST2:=zW (ST.out v hv)
      have c3:=PB.out.1.at_ k k8.out
      have c4:=PB.out.1.fz k k8.out
      have ek:128*(y:Int)+(x:Int)=(k:Int):=zBY
      have kN:(k:Int)<(N:Int):=by have:=NN.out;have:=k8.out;omega
      have kn:k<N:=zBY
      clear hk hX hY hv ST
      go_wp2_with fail
      refine CG.out.mono ?_
      rintro e w' ⟨rfl,rfl⟩
      go_wp2
      go_roundw
      case rel=>
       refine⟨x+1,by omega,by go_num,(PB.out.1.set k8.out v).congr fun j _=>?_,PB.out.2.setCell (p:=⟨G,k,none⟩) G0.out _⟩
       rw[show 128*y+(x+1)=128*y+x+1 by omega]
       exact ST2.out j
      case measure=>simp[intOf];omega
     ·have HF:=zW (JW f dx dy m h x y k zBY hk zBY)
      clear hk
      go_wp2
      go_roundw
      case rel=>
       refine⟨x+1,by omega,by go_num,PB.out.1.congr fun j _=>dS _ _ _ zBY (fun j j0 j1=>by rw[show j=k by have:=HK.out;omega];exact HF.out) j,PB.out.2⟩
      case measure=>simp[intOf];omega
     ·have HF:=zW (JW f dx dy m h x y k zBY hk zBY)
      clear hk
      go_wp2
      go_roundw
      case rel=>
       refine⟨x+1,by omega,by go_num,PB.out.1.congr fun j _=>dS _ _ _ zBY (fun j j0 j1=>by rw[show j=k by have:=HK.out;omega];exact HF.out) j,PB.out.2⟩
      case measure=>simp[intOf];omega
     ·have HF:=zW (JW f dx dy m h x y k zBY hk zBY)
      clear hk
      go_wp2
      go_roundw
      case rel=>
       refine⟨x+1,by omega,by go_num,PB.out.1.congr fun j _=>dS _ _ _ zBY (fun j j0 j1=>by rw[show j=k by have:=HK.out;omega];exact HF.out) j,PB.out.2⟩
      case measure=>simp[intOf];omega
     ·have HF:=zW (JW f dx dy m h x y k zBY hk zBY)
      clear hk
      go_wp2
      go_roundw
      case rel=>
       refine⟨x+1,by omega,by go_num,PB.out.1.congr fun j _=>dS _ _ _ zBY (fun j j0 j1=>by rw[show j=k by have:=HK.out;omega];exact HF.out) j,PB.out.2⟩
      case measure=>simp[intOf];omega
    ·have xm:=zW (show x=m by omega)
     have hxi:¬(x:Int)<(m:Int):=zBY
     go_wp2
     go_roundw
     case rel=>
      refine⟨y+1,by omega,by go_num,PB.out.1.congr fun j _=>dS _ _ _ zBY (fun j j0 j1=>zQJ _ _ _ _ _ _ (by have:=xm.out;omega)) j,PB.out.2⟩
     case measure=>simp[intOf];omega
  ·have yh:=zW (show y=h by omega)
   have hyi:¬(y:Int)<(h:Int):=zBY
   go_wp2
   go_ret
   exact⟨G,rfl,G0.out,PB.out.1.congr fun j hj=>by
    by_cases e:j<128*y
    ·exact zX5 _ _ _ e
    ·rw[oU,zL e,zQJ _ _ _ _ _ _ (by have:=yh.out;omega)],PB.out.2⟩
def Q7(B:Nat)(W:World):Type:={w':World//Below B W w'}
def Q7.w{B:Nat}{W:World}(x:Q7 B W):World:=x.1
theorem Q7.below{B:Nat}{W:World}(x:Q7 B W):Below B W x.w:=x.2
instance(B:Nat)(W:World):Nonempty (Q7 B W):=⟨⟨W,zB _ _⟩⟩
theorem pF{h l h' l':BitVec 64}{n:Int}(e:mv (h++l) n=h'++l')(n0: -9223372036854775808≤n)(n1:n≤9223372036854775807)(w:World):
  Calls Tryz.prog 279 #[.agg #[.int .u64 (h.toNat:Int),.int .u64 (l.toNat:Int)],.int .i64 n,.slice none 0 0] w fun e w'=>e=.returned (.agg #[.int .u64 (h'.toNat:Int),.int .u64 (l'.toNat:Int)])∧Below w.heap.size w w':=by
 rw[←nL,←nL,←e];exact zZ8 _ n w n0 n1
theorem UK(n:Int)(w:World)(n0:0≤n)(n1:n≤128):Calls Tryz.prog 280 #[.int .i64 n] w fun e w'=>e=.returned (rv (tH n))∧Below w.heap.size w w':=by
 obtain⟨h,l,e⟩:=wW (tH n);rw[e,nL];have e':mv ((18446744073709551615#64)++(18446744073709551615#64)) (n-128)=h++l:=e;have O:=zW (pF e' zBY zBY);clear e e';go_enter Tryz.func280,Tryz.ntmps280;go_wp2_with fail;refine(O.out _).mono ?_;rintro e w1 ⟨rfl,b1⟩;have Y:=(Box.new w 0 0 66).step b1;have B:=zW ((cH w (.cells #[.int .u64 0,.int .u64 0] 66)).trans (b1.mono zBT));have Z:=zW (Y.set h l);have B2:=zW ((B.out.setCell (p:=⟨w.heap.size,0,none⟩) (zH _) (.int .u64 (h.toNat:Int))).setCell (p:=⟨w.heap.size,1,none⟩) (zH _) (.int .u64 (l.toNat:Int)));clear B b1;obtain⟨x1,x2,x3,x4,x5⟩:=Y;go_wp2;generalize (w1.setCell ⟨w.heap.size,0,none⟩ (.int .u64 (h.toNat:Int))).setCell ⟨w.heap.size,1,none⟩ (.int .u64 (l.toNat:Int))=w2 at*;clear x1 x2 x3 x4 x5;obtain⟨x1,x2,x3,x4,x5⟩:=Z.out;exact zT (v:=.agg #[.int .u64 (h.toNat:Int),.int .u64 (l.toNat:Int)]) (by simp[results,Tryz.results280,go_sem,x2,x3]) rfl ⟨rfl,B2.out⟩
theorem tE(h l:BitVec 64)(n width:Int)(h1 l1:BitVec 64)(e:rO (h++l) n width=h1++l1)(w:World)(b:Nat)(h' l':BitVec 64)(em:tH width=h'++l')(X:Box b h' l' w)(n0: -9223372036854775808≤n)(n1:n≤9223372036854775807):
  Calls Tryz.prog 279 #[.agg #[.int .u64 (h.toNat:Int),.int .u64 (l.toNat:Int)],.int .i64 n,.slice (some ⟨b,0,none⟩) 1 1] w fun e w'=>e=.returned (.agg #[.int .u64 (h1.toNat:Int),.int .u64 (l1.toNat:Int)])∧Below w.heap.size w w':=by
 rw[←nL,←nL,←e,rO,em];exact zZ5 _ _ n b w n0 n1 X.lt (by rw[tM];exact X.c0) (by rw[tL];exact X.c1)
theorem rP{n:Int}{h l:BitVec 64}(e:tH n=h++l)(n0:0≤n)(n1:n≤128)(w:World):Calls Tryz.prog 280 #[.int .i64 n] w fun e w'=>e=.returned (.agg #[.int .u64 (h.toNat:Int),.int .u64 (l.toNat:Int)])∧Below w.heap.size w w':=by
 rw[←nL,←e];exact UK n w n0 n1
theorem zZK(r:BitVec 128)(n width:Int)(w:World)(n0: -9223372036854775808≤n)(n1:n≤9223372036854775807)(w0:0≤width)(w1:width≤128):
  Calls Tryz.prog 271 #[rv r,.int .i64 n,.int .i64 width] w fun e w'=>e=.returned (rv (rO r n width))∧Below w.heap.size w w':=by
 obtain⟨h,l,rfl⟩:=wW r;obtain⟨h',l',em⟩:=wW (tH width);obtain⟨v1,v2,e⟩:=wW (rO (h++l) n width);rw[e,nL,nL];have O1:=zW (rP em w0 w1);have O2:=zW fun w b X=>tE h l n width v1 v2 e w b h' l' em X n0 n1;clear e em;go_enter Tryz.func271,Tryz.ntmps271;go_wp2_with fail;have X:=(Box.new w h l 66).alloc (.cells #[.int .u64 0,.int .u64 0] 66);have Y:Box (w.heap.size+1) 0 0 ((w.alloc (.cells #[.int .u64 (h.toNat:Int),.int .u64 (l.toNat:Int)] 66)).alloc (.cells #[.int .u64 0,.int .u64 0] 66)):=by
  have:=Box.new (w.alloc (.cells #[.int .u64 (h.toNat:Int),.int .u64 (l.toNat:Int)] 66)) 0 0 66;rw[zR]at this;exact this
 have hs:w.heap.size+1<((w.alloc (.cells #[.int .u64 (h.toNat:Int),.int .u64 (l.toNat:Int)] 66)).alloc (.cells #[.int .u64 0,.int .u64 0] 66)).heap.size:=Y.lt;have YY:=zW Y;clear Y;have B1:=zW ((((zB _ w).alloc (zH _) (.cells #[.int .u64 (h.toNat:Int),.int .u64 (l.toNat:Int)] 66)).alloc zBT (.cells #[.int .u64 0,.int .u64 0] 66)));generalize (w.alloc (.cells #[.int .u64 (h.toNat:Int),.int .u64 (l.toNat:Int)] 66)).alloc (.cells #[.int .u64 0,.int .u64 0] 66)=w1 at*;have X0:∀x:Q7 (w.heap.size+1) w1,x.w.cell? ⟨w.heap.size,0,none⟩=some (.int .u64 (h.toNat:Int)):=fun x=>X.c0▸x.below.cell (p:=⟨w.heap.size,0,none⟩) (Nat.lt_succ_self _);have X1:∀x:Q7 (w.heap.size+1) w1,x.w.cell? ⟨w.heap.size,1,none⟩=some (.int .u64 (l.toNat:Int)):=fun x=>X.c1▸x.below.cell (p:=⟨w.heap.size,1,none⟩) (Nat.lt_succ_self _);clear X;refine nR (C:=fun w'=>∃x:Q7 (w.heap.size+1) w1,w'=x.w) [([0,1,2],3),([],4),([],5),([],6)] [] zBM zBM (fun _ _ d _ _ h=>by cases d<;>exact h) ⟨⟨w1.drew,(zB _ _).drew⟩,rfl⟩ ?_;intro wd hwd;have D:=zW (show Below w1.heap.size w1 wd by rw[hwd];exact(zB _ _).drew);clear hwd;refine nD zBN zBB ?_;repeat(go_big_quiet_step (fail))
 refine zM ?_;refine nK zBB ?_;intro K hK;go_wp2_with fail;refine(O1.out _).mono ?_;rintro e w2 ⟨rfl,b2⟩;have D2:=zW (D.out.trans (b2.mono D.out.size));clear D b2;simp only[];refine hK _ _ ⟨⟨w2,D2.out.mono (jX hs)⟩,rfl⟩ ?_;clear hK K;refine nD zBN zBB ?_;refine zM ?_;refine nK zBB ?_;intro K hK;go_wp2_with fail;have Z:=zW (Box.new w2 h' l' 66);have D3:=zW (D2.out.alloc D2.out.size (.cells #[.int .u64 (h'.toNat:Int),.int .u64 (l'.toNat:Int)] 66));clear D2;refine hK _ _ ⟨⟨_,D3.out.mono (jX hs)⟩,rfl⟩ ?_;clear hK K;refine nD zBN zBB ?_;refine zM ?_;refine nK zBB ?_;intro K hK;go_wp2_with fail;refine(O2.out _ _ Z.out).mono ?_;rintro e w3 ⟨rfl,b3⟩;have D4:=zW (D3.out.trans (b3.mono D3.out.size));have Y4:=zW (YY.out.step D4.out);clear D3 b3 Z X0 X1;simp only[];refine hK _ _ ⟨⟨w3,D4.out.mono (jX hs)⟩,rfl⟩ ?_;clear hK K;refine nD zBN zBB ?_;refine zM ?_;refine nK zBB ?_;intro K hK;have S:=zW (Y4.out.set v1 v2);have BS:=zW (((B1.out.trans (D4.out.mono B1.out.size)).setCell (p:=⟨w.heap.size+1,0,none⟩) zBT (.int .u64 (v1.toNat:Int))).setCell (p:=⟨w.heap.size+1,1,none⟩) zBT (.int .u64 (v2.toNat:Int)));obtain⟨y1,y2,y3,y4,y5⟩:=Y4.out;clear YY Y4;have DS:Below (w.heap.size+1) w1 ((w3.setCell ⟨w.heap.size+1,0,none⟩ (.int .u64 (v1.toNat:Int))).setCell ⟨w.heap.size+1,1,none⟩ (.int .u64 (v2.toNat:Int))):=((D4.out.mono (jX hs)).setCell (p:=⟨w.heap.size+1,0,none⟩) (zH _) _).setCell (p:=⟨w.heap.size+1,1,none⟩) (zH _) _;have DS:=zW DS;clear D4;go_wp2_with fail;generalize (w3.setCell ⟨w.heap.size+1,0,none⟩ (.int .u64 (v1.toNat:Int))).setCell ⟨w.heap.size+1,1,none⟩ (.int .u64 (v2.toNat:Int))=w4 at*;refine hK _ _ ⟨⟨w4,DS.out⟩,rfl⟩ ?_;clear hK K y1 y2 y3 y4 y5;refine cT zBN ?_;refine zM ?_;obtain⟨x1,x2,x3,x4,x5⟩:=S.out;go_wp2;exact zT (v:=.agg #[.int .u64 (v1.toNat:Int),.int .u64 (v2.toNat:Int)]) (by simp[results,Tryz.results271,go_sem,x2,x3]) rfl ⟨rfl,BS.out⟩
theorem M9{h l h' l' v1 v2:BitVec 64}(e1:h^^^h'=v1)(e2:l^^^l'=v2)(w:World):Calls Tryz.prog 268 #[.agg #[.int .u64 (h.toNat:Int),.int .u64 (l.toNat:Int)],.agg #[.int .u64 (h'.toNat:Int),.int .u64 (l'.toNat:Int)]] w fun e w'=>
  e=.returned (.agg #[.int .u64 (v1.toNat:Int),.int .u64 (v2.toNat:Int)])∧Below w.heap.size w w':=by
 rw[←e1,←e2,←nL,←nL,←nL,←WG];exact OE _ _ w
def pV(R:Nat→Bool)(a k:Nat)(F:Nat→Bool)(j:Nat):Bool:=if j/128=a∧j%128<k then R (j%128)else F j
theorem KM(R:Nat→Bool)(a:Nat)(F:Nat→Bool)(j:Nat):pV R a 0 F j=F j:=by
 rw[pV,zL zBY]
theorem N6(R:Nat→Bool)(a k:Nat)(F:Nat→Bool)(q:Nat)(hk:k<128)(hq:q=128*a+k)(v:Bool)(hv:R k=v)(j:Nat):(if j=q then v else pV R a k F j)=pV R a (k+1) F j:=by
 subst hq hv;unfold pV;by_cases e:j=128*a+k
 ·subst e;rw[zG rfl,zG zBY,show(128*a+k)%128=k by omega]
 ·rw[zL e];by_cases e2:j/128=a∧j%128<k
  ·rw[zG e2,zG zBY]
  ·rw[zL e2,zL zBY]
theorem zKO(bits:Nat→Nat)(c x y m h:Nat)(clip:Bool)(hy:y<h)(j:Nat):gZ bits 0 c x y m h clip j=false:=by
 rw[gZ,RU _ _ _ _ _ _ _ hy,tT]
theorem rsp_in(bits:Nat→Nat)(i c x y m h:Nat)(clip:Bool)(c1:c≤16)(hm:16≤m)(m1:m≤128)(hx:x<m)(hi:i<h)(hy:y<h)(hin:y+i<h)(a:Nat)(ha:a=y+i)(j:Nat):
  pV (spF (bits i) c x m clip c) a 128 (gZ bits i c x y m h clip) j=gZ bits (i+1) c x y m h clip j:=by
 subst ha;unfold pV gZ;rw[zKW bits i c x y m h clip hi hy hin];by_cases e:j/128=y+i
 ·rw[zG zBY,zG e,ZK _ _ _ _ _ c1 hm m1 hx _ zBY]
 ·rw[zL zBY,zL e]
theorem zL1(bits:Nat→Nat)(i c x y m h:Nat)(c1:c≤16)(hm:16≤m)(m1:m≤128)(hx:x<m)(hi:i<h)(hy:y<h)(hin:h≤y+i)(a:Nat)(ha:a=y+i-h)(j:Nat):
  pV (spF (bits i) c x m false c) a 128 (gZ bits i c x y m h false) j=gZ bits (i+1) c x y m h false j:=by
 subst ha;unfold pV gZ;rw[OI bits i c x y m h hi hy hin];by_cases e:j/128=y+i-h
 ·rw[zG zBY,zG e,ZK _ _ _ _ _ c1 hm m1 hx _ zBY]
 ·rw[zL zBY,zL e]
theorem zK0(bits:Nat→Nat)(i c x y m h:Nat)(hin:h≤y+i)(j:Nat):gZ bits (i+1) c x y m h true j=gZ bits i c x y m h true j:=by
 unfold gZ;rw[TQ bits i c x y m h hin]
theorem zLF{f:FuncId}{args:Array Value}{v:Value}{w:World}(h:Calls Tryz.prog f args w fun e w'=>e=.returned v∧w=w'):Calls Tryz.prog f args w fun e w'=>e=.returned v∧w'=w:=
 h.mono fun _ _ h=>⟨h.1,h.2.symm⟩
theorem VZ(A:Option Addr)(L:List Nat)(n cap c x y:Nat)(clip b:Bool)(m h:Nat)(hr:Res b m h)(w:World)(H:gK w A L)(hL:∀x∈L,x≤65535)(hn:L.length=n)(n1:n≤16)(c0:0<c)(c1:c≤16)(hx:x<m)(hy:y<h):
  Calls Tryz.prog 215 #[.slice A n cap,.int .i64 (c:Int),.int .i64 (x:Int),.int .i64 (y:Int),.bool b,.bool clip] w (fV (gZ (nth L) n c x y m h clip) w):=by
 have HH:=zW (zY H (zY hL hn));obtain⟨N,hN⟩:∃N,N=8192:=⟨_,rfl⟩;have BB:=zW (MY hN w);obtain⟨m0,m1,h0,h1⟩:=hr.bounds;have RR:=zW hr;unfold fV;rw[←hN];have NN:=zW hN;clear H hL hN hr hn;go_enter Tryz.func215,Tryz.ntmps215;go_wp2_with fail;refine BB.out.mono ?_;rintro e w1 ⟨G,rfl,hG,hP0,hb0⟩;have G0:=zW hG;have P0:=zW hP0;have b0:=zW hb0;clear hG hP0 hb0;go_wp2_with fail;refine(TI RR.out w1).mono ?_;rintro e w' ⟨rfl,rfl⟩;go_wp2;go_loopw [15] (fun t wr=>∃i:Nat,i≤n∧t=.int .i64 (i:Int)∧Pxs G (gZ (nth L) i c x y m h clip) wr∧Below w.heap.size w wr) (fun t _=>n-(intOf t).toNat)
 case atStart=>exact⟨0,by omega,rfl,P0.out.congr fun j hj=>(zKO _ _ _ _ _ _ _ hy j).symm,b0.out⟩
 case round=>
  clear P0 b0
  obtain⟨i,hi,rfl,hP,hB⟩:=hrel
  have PB:=zW (zY hP hB)
  clear hP hB
  by_cases hlt:i<n
  ·have hii:(i:Int)<(n:Int):=zBY
   obtain⟨ad,hA,had,hcell⟩:=(HH.out.1.below PB.out.2).at_ (k:=i) (by rw[HH.out.2.2];exact hlt)
   have bl:=zV1 HH.out.2.1 i
   change wr.cell? (ad.add i)=some (.int .u16 (nth L i:Int))at hcell
   have SP:=zW fun w=>TS (nth L i) c x m clip w bl c0 c1 zBY hx m1
   obtain⟨v,hv⟩:∃v,nth L i=v:=⟨_,rfl⟩
   rw[hv]at hcell SP bl
   have HV:=zW hv
   have had:=zW had
   obtain rfl:=hA
   clear hv
   go_wp2_with fail
   refine bO 9 zBM zBM ?_
   intro wd hwd
   have PD0:(Pxs G (gZ (nth L) i c x y m h clip) wd∧Below w.heap.size w wd)∧wd.cell? (ad.add i)=some (.int .u16 (v:Int)):=by rw[hwd];exact⟨⟨PB.out.1.drew,PB.out.2.drew⟩,hcell⟩
   have hcd:=PD0.2
   have PD:=zW PD0.1
   clear hwd PB PD0 hcell
   simp only[List.take_succ_cons,lZ,List.drop_succ_cons,List.drop_zero]
   repeat still_step
   still_call (zLF (zQZ RR.out _))
   repeat still_step
   refine wpStill_nil ?_
   go_wp2_with fail
   refine(SP.out wd).mono ?_
   rintro e w2 ⟨g2,rfl,hg2,hpix,hb2⟩
   have g20:=zW (show G<g2 from zS PD.out.1.lt hg2)
   have PX:=zW hpix
   have PE:=zW (zY (PD.out.1.step hb2) (PD.out.2.trans (hb2.mono PD.out.2.size)))
   have ea:(y:Int)+(i:Int)=((y+i:Nat):Int):=zBY
   obtain⟨a,ha⟩:∃a,a=y+i:=⟨_,rfl⟩
   rw[←ha]at ea
   have HA:=zW ha
   clear hcd hg2 hpix hb2 ha
   rcases kH a h with hin|hin
   ·have hii2:(a:Int)<(h:Int):=zBY
    go_wp2_with fail
    go_loopw [18] (fun t wr=>∃k:Nat,k≤128∧t=.int .i64 (k:Int)∧Pxs G (pV (spF v c x m clip c) a k (gZ (nth L) i c x y m h clip)) wr∧Pix g2 (spF v c x m clip c) wr∧Below w.heap.size w wr) (fun t _=>128-(intOf t).toNat)
    case atStart=>exact⟨0,by omega,rfl,PE.out.1.congr fun j hj=>(KM _ _ _ j).symm,PX.out,PE.out.2⟩
    case round=>
     clear PE PX
     obtain⟨k,hk,rfl,hP,hX,hB⟩:=hrel
     by_cases hkt:k<128
     ·have k1:(k:Int)<128:=zBY
      obtain⟨q,hq⟩:∃q,q=128*a+k:=⟨_,rfl⟩
      have r6:(a:Int)<64:=by have:=HA.out;omega
      have eq2:128*(a:Int)+(k:Int)=(q:Int):=zBY
      have q8:q<8192:=zBY
      have kN:(q:Int)<(N:Int):=by have:=NN.out;omega
      have kn:q<N:=zBY
      have c1':=hX.at_ k hkt
      have c3:=hP.at_ q q8
      have c4:=hP.fz q q8
      have ST0:=N6 (spF v c x m clip c) a k (gZ (nth L) i c x y m h clip) q hkt hq
      obtain⟨u,hu⟩:∃u,spF v c x m clip c k=u:=⟨_,rfl⟩
      rw[hu]at c1'
      have ST:=zW (ST0 u hu)
      have PQ:=zW (zY hP (zY hX (zY hB q8)))
      have hne:G≠g2:=by have:=g20.out;omega
      have HN:=zW hne
      clear ST0 hu hP hX hB q8 hq
      go_wp2
      go_roundw
      case rel=>
       exact⟨k+1,by omega,by go_num,(PQ.out.1.set PQ.out.2.2.2 u).congr fun j _=>ST.out j,PQ.out.2.1.other HN.out _ _,PQ.out.2.2.1.setCell (p:=⟨G,q,none⟩) G0.out _⟩
      case measure=>simp[intOf];omega
     ·have PQ:=zW (zY hP (zY hB (show k=128 by omega)))
      have k1:¬(k:Int)<128:=zBY
      clear hP hX hB
      go_wp2
      go_roundw
      case rel=>
       refine⟨i+1,by omega,by go_num,PQ.out.1.congr fun j _=>?_,PQ.out.2.1⟩
       rw[PQ.out.2.2,←HV.out]
       exact rsp_in _ _ _ _ _ _ _ _ c1 m0 m1 hx zBY hy zR5 _ HA.out j
      case measure=>simp[intOf];omega
   ·have hii2:¬(a:Int)<(h:Int):=zBY
    cases clip
    ·obtain⟨r,hr⟩:∃r,r=a-h:=⟨_,rfl⟩
     have HR:=zW hr
     have er:(a:Int)-(h:Int)=(r:Int):=zBY
     clear hr
     go_wp2_with fail
     go_loopw [18] (fun t wr=>∃k:Nat,k≤128∧t=.int .i64 (k:Int)∧Pxs G (pV (spF v c x m false c) r k (gZ (nth L) i c x y m h false)) wr∧Pix g2 (spF v c x m false c) wr∧Below w.heap.size w wr) (fun t _=>128-(intOf t).toNat)
     case atStart=>exact⟨0,by omega,rfl,PE.out.1.congr fun j hj=>(KM _ _ _ j).symm,PX.out,PE.out.2⟩
     case round=>
      clear PE PX
      obtain⟨k,hk,rfl,hP,hX,hB⟩:=hrel
      by_cases hkt:k<128
      ·have k1:(k:Int)<128:=zBY
       obtain⟨q,hq⟩:∃q,q=128*r+k:=⟨_,rfl⟩
       have r6:(r:Int)<64:=by have:=HA.out;omega
       have eq2:128*(r:Int)+(k:Int)=(q:Int):=zBY
       have q8:q<8192:=zBY
       have kN:(q:Int)<(N:Int):=by have:=NN.out;omega
       have kn:q<N:=zBY
       have c1':=hX.at_ k hkt
       have c3:=hP.at_ q q8
       have c4:=hP.fz q q8
       have ST0:=N6 (spF v c x m false c) r k (gZ (nth L) i c x y m h false) q hkt hq
       obtain⟨u,hu⟩:∃u,spF v c x m false c k=u:=⟨_,rfl⟩
       rw[hu]at c1'
       have ST:=zW (ST0 u hu)
       have PQ:=zW (zY hP (zY hX (zY hB q8)))
       have hne:G≠g2:=by have:=g20.out;omega
       have HN:=zW hne
       clear ST0 hu hP hX hB q8 hq
       go_wp2
       go_roundw
       case rel=>
        exact⟨k+1,by omega,by go_num,(PQ.out.1.set PQ.out.2.2.2 u).congr fun j _=>ST.out j,PQ.out.2.1.other HN.out _ _,PQ.out.2.2.1.setCell (p:=⟨G,q,none⟩) G0.out _⟩
       case measure=>simp[intOf];omega
      ·have PQ:=zW (zY hP (zY hB (show k=128 by omega)))
       have k1:¬(k:Int)<128:=zBY
       clear hP hX hB
       go_wp2
       go_roundw
       case rel=>
        refine⟨i+1,by omega,by go_num,PQ.out.1.congr fun j _=>?_,PQ.out.2.1⟩
        rw[PQ.out.2.2,←HV.out]
        exact zL1 _ _ _ _ _ _ _ c1 m0 m1 hx zBY hy zR5 _ (by have:=HA.out;have:=HR.out;omega) j
       case measure=>simp[intOf];omega
    ·go_wp2
     go_roundw
     case rel=>
      exact⟨i+1,by omega,by go_num,PE.out.1.congr fun j _=>(zK0 _ _ _ _ _ _ _ zR5 j).symm,PE.out.2⟩
     case measure=>simp[intOf];omega
  ·have en:=zW (show i=n by omega)
   have hii:¬(i:Int)<(n:Int):=zBY
   go_wp2
   go_ret
   exact⟨G,rfl,G0.out,by rw[←en.out];exact PB.out.1,PB.out.2⟩
theorem vS.put3{q:Nat}{v v':Value}{hi hi':Bool}{M M':Int}{w:World}(H:vS q v hi M w):vS q v' hi' M' (((w.setCell ⟨q,0,none⟩ v').setCell ⟨q,1,none⟩ (.bool hi')).setCell ⟨q,2,none⟩ (.int .i64 M')):=by
 have h1:=heap_setCell_same w q 0 _ _ v' H;have h2:=heap_setCell_same _ q 1 _ _ (.bool hi') h1;exact heap_setCell_same _ q 2 _ _ (.int .i64 M') h2
structure tB(N q:Nat)(A:Option Addr)(gs:List Nat)(F:Nat→Nat→Bool)(w:World):Prop where
 len:gs.length=4
 row:Row (aG N) w A gs
 px:∀i,i<4→Pxs (gs.getD i 0) (F i) w
 ra:∀ad,A=some ad→ad.block≠q
 pa:∀i,i<4→gs.getD i 0≠q
section
variable {N q:Nat} {A A':Option Addr} {gs:List Nat} {F F':Nat→Nat→Bool} {w w':World}
theorem tB.step(H:tB N q A gs F w)(hb:Below w.heap.size w w'):tB N q A gs F w':=⟨H.len,H.row.below hb,fun i hi=>(H.px i hi).step hb,H.ra,H.pa⟩
theorem tB.congr(H:tB N q A gs F w)(h:∀i,i<4→F i=F' i):tB N q A gs F' w:=⟨H.len,H.row,fun i hi=>by rw[←h i hi];exact H.px i hi,H.ra,H.pa⟩
theorem Pxs.other{g:Nat}{f:Nat→Bool}{w:World}(H:Pxs g f w){b:Nat}(hb:b≠g)(o:Nat)(v:Value):Pxs g f (w.setCell ⟨b,o,none⟩ v):=
 ⟨by simpa using H.lt,fun j hj=>by rw[qI _ _ _ _ (by simp[hb])];exact H.at_ j hj,fun j hj=>by rw[World.frozen?_setCell];exact H.fz j hj⟩
theorem tB.put(H:tB N q A gs F w)(o:Nat)(v:Value):tB N q A gs F (w.setCell ⟨q,o,none⟩ v):=
 ⟨H.len,fun hne=>by
  obtain⟨b,oo,hA,hlt,hc⟩:=H.row hne;have hbq:b≠q:=H.ra _ hA;exact⟨b,oo,hA,by simpa using hlt,fun j hj=>by rw[qI _ _ _ _ (by simp[Ne.symm hbq])];exact hc j hj⟩,
 fun i hi=>(H.px i hi).other (Ne.symm (H.pa i hi)) _ _,H.ra,H.pa⟩
theorem tB.set(H:tB N q A gs F w){i x:Nat}{f:Nat→Bool}(hi:i<4)(hrow:Row (aG N) w A' (gs.set i x))(hx:Pxs x f w)(hra:∀ad,A'=some ad→ad.block≠q)(hxq:x≠q):tB N q A' (gs.set i x) (fun j=>if j=i then f else F j) w:=by
 have hg:∀j,j<4→(gs.set i x).getD j 0=if j=i then x else gs.getD j 0:=fun j hj=>by
  have:=H.len;rw[qJ,qJ,List.getElem?_set];by_cases e:i=j
  ·subst e;simp[show i<gs.length by omega]
  ·rw[zL e,zL (fun h=>e h.symm)]
 refine⟨by rw[List.length_set];exact H.len,hrow,fun j hj=>?_,hra,fun j hj=>?_⟩
 ·rw[hg j hj];by_cases e:j=i
  ·rw[zG e,zG e];exact hx
  ·rw[zL e,zL e];exact H.px j hj
 ·rw[hg j hj];by_cases e:j=i
  ·rw[zG e];exact hxq
  ·rw[zL e];exact H.pa j hj
theorem vS.no{q:Nat}{v:Value}{hi:Bool}{M:Int}{w:World}(H:vS q v hi M w)(j:Nat)(hj:3≤j):w.cell? ⟨q,j,none⟩=none:=by
 rw[j4 w q j _ _ _ H];exact zE hj
theorem tB.far{p:Nat}{v:Value}{hi:Bool}{M:Int}(H:tB N q A gs F w)(S:vS p v hi M w):tB N p A gs F w:=by
 refine⟨H.len,H.row,H.px,fun ad h e=>?_,fun i hi e=>?_⟩
 ·obtain⟨b,oo,hA,hlt,hc⟩:=H.row (by intro h0;have:=H.len;rw[h0]at this;simp at this);rw[h]at hA;cases hA
  have h3:=hc 3 (by rw[H.len];decide)
  simp only at e;rw[e,S.no (oo+3) zBY]at h3;cases h3
 ·have h3:=(H.px i hi).at_ 3 zBH;rw[e,S.no 3 zBY]at h3;cases h3
end
def FA(A0 A:Option Addr)(n:Nat):Prop:=A=A0∨∀ad,A=some ad→n≤ad.block
theorem FA.trans{A0 A1 A2:Option Addr}{n m:Nat}(h:FA A0 A1 n)(k:FA A1 A2 m)(hm:n≤m):FA A0 A2 n:=k.elim (fun e=>e▸h) (fun f=> .inr fun ad e=>zD hm (f ad e))
theorem FA.low{A0 A:Option Addr}{n m:Nat}(h:FA A0 A n)(hm:m≤n):FA A0 A m:=h.elim .inl fun f=> .inr fun ad e=>zD hm (f ad e)
theorem FA.fresh{A:Option Addr}{n m:Nat}(h:FA none A n)(hm:m≤n):∀ad,A=some ad→m≤ad.block:=fun ad e=>h.elim (fun e2=>by rw[e2]at e;cases e) fun f=>zD hm (f ad e)
theorem FA.new{A:Option Addr}{n:Nat}(h:FA none A n)(A0:Option Addr):FA A0 A n:=.inr (h.elim (fun e ad ea=>by rw[e]at ea;cases ea) id)
def zQ4(N:Nat)(A0:Option Addr)(hi:Bool)(M:Int)(F:Nat→Nat→Bool)(w:World)(e:Ending)(w':World):Prop:=
 ∃A cap gs,e=.returned (.agg #[.slice A 4 cap,.bool hi,.int .i64 M])∧gs.length=4∧Row (aG N) w' A gs∧(∀i,i<4→Pxs (gs.getD i 0) (F i) w')∧Below w.heap.size w w'∧FA A0 A w.heap.size
theorem IN(N:Nat)(hN:N=8192)(A0:Option Addr)(cap:Nat)(gs:List Nat)(F:Nat→Nat→Bool)(hi:Bool)(M:Nat)(w:World)(hM:M≤10000)(H:tB N w.heap.size A0 gs F w):
  Calls Tryz.prog 157 #[.agg #[.slice A0 4 cap,.bool hi,.int .i64 (M:Int)]] w (zQ4 N A0 hi M (fun i=>if onB M i then fun _=>false else F i) w):=by
 have NN:=zW hN;have HH:=zW H;clear hN H;go_enter Tryz.func157,Tryz.ntmps157;go_wp2;have S0:=zW ((vS.new w (.slice A0 4 cap) hi M).alloc (.cells #[.slice none 0 0,.bool false,.int .i64 0] 41));have B0:=zW (((zB _ w).alloc (zH _) (.cells #[.slice A0 4 cap,.bool hi,.int .i64 (M:Int)] 41)).alloc zBT (.cells #[.slice none 0 0,.bool false,.int .i64 0] 41));have S1:=zW (vS.new (w.alloc (.cells #[.slice A0 4 cap,.bool hi,.int .i64 (M:Int)] 41)) (.slice none 0 0) false 0);rw[show(w.alloc (.cells #[.slice A0 4 cap,.bool hi,.int .i64 (M:Int)] 41)).heap.size=w.heap.size+1 by simp]at S1;have R0:=zW (HH.out.step B0.out);generalize (w.alloc (.cells #[.slice A0 4 cap,.bool hi,.int .i64 (M:Int)] 41)).alloc (.cells #[.slice none 0 0,.bool false,.int .i64 0] 41)=w2 at*;go_loopw [3] (fun t wr=>∃(k:Nat) (A:Option Addr) (cap:Nat) (gs:List Nat),(k≤4∧FA A0 A w.heap.size)∧t=.int .i64 (k:Int)∧vS w.heap.size (.slice A 4 cap) hi M wr∧vS (w.heap.size+1) (.slice none 0 0) false 0 wr∧tB N w.heap.size A gs (fun i=>if i<k∧onB M i=true then fun _=>false else F i) wr∧Below w.heap.size w wr) (fun t _=>4-(intOf t).toNat)
 case atStart=>exact⟨0,A0,cap,gs,⟨by omega,.inl rfl⟩,rfl,S0.out,S1.out,R0.out.congr fun i _=>by rw[zL zBY],B0.out⟩
 case round=>
  clear S0 S1 B0 R0 HH
  obtain⟨k,A,cap,gs,⟨hk,hFA⟩,rfl,h0,h1,hR,hb⟩:=hrel
  have FH:=zW hFA
  clear hFA
  have Q:=zW (zY h0 (zY h1 (zY hR hb)))
  clear h0 h1 hR hb
  by_cases hlt:k<4
  ·have kI:(k:Int)<4:=zBY
   obtain⟨v,hv⟩:∃v,onB M k=v:=⟨_,rfl⟩
   have ON:=zW fun w=>hv▸VE M k w hM zBY
   have HV:=zW hv
   have KL:=zW hlt
   have c2:=Q.out.1.c2
   clear hv
   cases v
   ·go_wp2_with fail
    refine(ON.out _).mono ?_
    rintro e w' ⟨rfl,rfl⟩
    go_wp2
    go_roundw
    case rel=>
     exact⟨k+1,A,cap,gs,⟨by omega,FH.out⟩,by go_num,Q.out.1,Q.out.2.1,Q.out.2.2.1.congr fun j hj=>by
      by_cases e:j=k
      ·subst e;rw[zL zBY,zL (by rw[HV.out];simp)]
      ·by_cases e2:j<k∧onB M j=true
       ·rw[zG e2,zG ⟨by omega,e2.2⟩]
       ·rw[zL e2,zL (fun h=>e2 ⟨by omega,h.2⟩)],Q.out.2.2.2⟩
    case measure=>simp[intOf];omega
   ·go_wp2_with fail
    refine(ON.out _).mono ?_
    rintro e w' ⟨rfl,rfl⟩
    go_wp2_with fail
    have c0:=Q.out.1.c0
    have c1:=Q.out.1.c1
    have QD:=zW (show vS w.heap.size (.slice A 4 cap) hi M wr.drew∧vS (w.heap.size+1) (.slice none 0 0) false 0 wr.drew∧tB N w.heap.size A gs (fun i=>if i<k∧onB M i=true then fun _=>false else F i) wr.drew∧Below w.heap.size w wr.drew from⟨Q.out.1,Q.out.2.1,Q.out.2.2.1.step (zB _ _).drew,Q.out.2.2.2.drew⟩)
    clear Q
    go_region_with ((first
     |(go_at_call 184;refine(MY NN.out _).mono ?_;rintro e wb ⟨g,rfl,hg,hP,b1⟩;have Q1:=zW (zY (QD.out.1.step b1) (zY (QD.out.2.1.step b1) (zY (QD.out.2.2.1.step b1) (zY (QD.out.2.2.2.trans (b1.mono QD.out.2.2.2.size)) (zY hP (show g≠w.heap.size by have:=QD.out.1.lt;omega))))));clear b1 hg hP c0 c1 c2;have c0:=Q1.out.1.c0;have c1:=Q1.out.1.c1;have c2:=Q1.out.1.c2)
     |(go_at_call 216;refine(iB N A cap gs hi M k g _ Q1.out.2.2.1.len KL.out Q1.out.2.2.1.row).mono ?_;rintro e wc ⟨A3,cap3,rfl,hrow,b1,hA3⟩;have Q2:=zW (zY (Q1.out.1.step b1) (zY (Q1.out.2.1.step b1) (zY ((Q1.out.2.2.1.step b1).set KL.out hrow (Q1.out.2.2.2.2.1.step b1) (fun ad h=>by have h1:=hA3 ad h;have:=Q1.out.1.lt;omega) Q1.out.2.2.2.2.2) (Q1.out.2.2.2.1.trans (b1.mono Q1.out.2.2.2.1.size)))));have FA3:=zW (show∀ad,A3=some ad→w.heap.size≤ad.block from fun ad h=>by have h1:=hA3 ad h;have:=Q1.out.1.lt;omega);clear b1 hrow hA3 c0 c1 c2;have c0:=Q2.out.1.c0;have c1:=Q2.out.1.c1;have c2:=Q2.out.1.c2;have f0:=Q2.out.1.fz 0;have f1:=Q2.out.1.fz 1;have f2:=Q2.out.1.fz 2)))
    all_goals
     go_wp2
     go_roundw
     case rel=>
      refine⟨k+1,A3,cap3,gs.set k g,⟨by omega,.inr FA3.out⟩,by go_num,Q2.out.1.put3,((Q2.out.2.1.other zBY _ _).other zBY _ _).other zBY _ _,(((Q2.out.2.2.1.put _ _).put _ _).put _ _).congr fun j hj=>?_,((Q2.out.2.2.2.setCell (p:=⟨w.heap.size,0,none⟩) (zH _) _).setCell (p:=⟨w.heap.size,1,none⟩) (zH _) _).setCell (p:=⟨w.heap.size,2,none⟩) (zH _) _⟩
      by_cases e:j=k
      ·subst e;rw[zG rfl,zG ⟨by omega,HV.out⟩]
      ·rw[zL e]
       by_cases e2:j<k∧onB M j=true
       ·rw[zG e2,zG ⟨by omega,e2.2⟩]
       ·rw[zL e2,zL (fun h=>e2 ⟨by omega,h.2⟩)]
     case measure=>simp[intOf];omega
  ·obtain rfl:k=4:=by omega
   have c0:=Q.out.1.c0
   have c1:=Q.out.1.c1
   have c2:=Q.out.1.c2
   have d0:=Q.out.2.1.c0
   have d1:=Q.out.2.1.c1
   have d2:=Q.out.2.1.c2
   have f0:=Q.out.2.1.fz 0
   have f1:=Q.out.2.1.fz 1
   have f2:=Q.out.2.1.fz 2
   have RQ:=zW (Q.out.2.2.1.far Q.out.2.1)
   go_wp2_with fail
   have q3:=Q.out.2.1.put3 (v':=.slice A 4 cap) (hi':=hi) (M':=(M:Int))
   refine zT (zF rfl _ _ (w.heap.size+1) _ _ _ _ rfl q3 Tryz.underlying41 rfl zTQ) rfl ?_
   have R3:=(((RQ.out.put 0 (.slice A 4 cap)).put 1 (.bool hi)).put 2 (.int .i64 (M:Int))).congr (F':=fun i=>if onB M i then fun _=>false else F i) fun i hi=>by
    by_cases e:onB M i=true
    ·rw[zG ⟨hi,e⟩,zG e]
    ·rw[zL (fun h=>e h.2),zL e]
   refine⟨A,cap,gs,rfl,R3.len,R3.row,R3.px,?_,FH.out⟩
   exact((Q.out.2.2.2.setCell (p:=⟨w.heap.size+1,0,none⟩) (qC _) _).setCell (p:=⟨w.heap.size+1,1,none⟩) (qC _) _).setCell (p:=⟨w.heap.size+1,2,none⟩) (qC _) _
section
variable {N g:Nat} {f:Nat→Bool} {w w':World}
theorem Pxs.grown{row:Option Nat}(H:Pxs g f w)(hg:w.grownBy w' row)(hne:some g≠row):Pxs g f w':=by
 have hb:=hg.block g H.lt hne;exact⟨zS H.lt hg.size,fun j hj=>(qM (a:=⟨g,j,none⟩) hb).trans (H.at_ j hj),fun j hj=>(World.frozen?_of_block (a:=⟨g,j,none⟩) hb).trans (H.fz j hj)⟩
theorem Pxs.notRow(H:Pxs g f w){base k:Nat}{e:TypeId}{v:Value}{gs:List Nat}(hr:w.ownsRow base e 1 v k (gs.map (aG N)))(hne:gs≠[]):some g≠v.ownBlock:=by
 intro h;obtain⟨y,t,rfl⟩:=List.exists_cons_of_ne_nil hne;have h1:=hr.cells h.symm 0 (aG N y) rfl;have h2:=H.at_ 0 zBH;rw[show((⟨g,0,none⟩:Addr).add 0)=⟨g,0,none⟩from rfl,h2]at h1;simp[aG]at h1
theorem nE{base size n:Nat}{e:TypeId}{v:Value}{xs:List Value}(h:w.ownsRow base e size v n xs)(hb:Below w.heap.size w w'):w'.ownsRow base e size v n xs:=by
 refine⟨h.1,h.2.imp id ?_⟩;rintro⟨b,cap,cur,rfl,hbb,hh,r⟩;exact⟨b,cap,cur,rfl,hbb,(hb.block b (jZ.1 hh).1).trans hh,r⟩
end
theorem N9(N:Nat)(hN:N=8192)(w:World):Calls Tryz.prog 114 #[] w (zQ4 N none false 1 (fun _ _=>false) w):=by
 obtain⟨i0,hinfo,hz⟩:=kV.1 BJ;simp only[jC]at hz;obtain⟨hz0,hz1,hz2⟩:=hz;have NN:=zW hN;have HI:=zW (zY hinfo (zY hz0 (zY hz1 hz2)));clear hN hinfo hz0 hz1 hz2;go_enter Tryz.func114,Tryz.ntmps114;go_wp2;have S0:=zW ((vS.new w (.slice none 0 0) false 0).alloc (.cells #[.slice none 0 0,.bool false,.int .i64 1] 41));have B0:=zW (((zB _ w).alloc (zH _) (.cells #[.slice none 0 0,.bool false,.int .i64 0] 41)).alloc zBT (.cells #[.slice none 0 0,.bool false,.int .i64 1] 41));have S1:=zW (vS.new (w.alloc (.cells #[.slice none 0 0,.bool false,.int .i64 0] 41)) (.slice none 0 0) false 1);rw[show(w.alloc (.cells #[.slice none 0 0,.bool false,.int .i64 0] 41)).heap.size=w.heap.size+1 by simp]at S1;generalize (w.alloc (.cells #[.slice none 0 0,.bool false,.int .i64 0] 41)).alloc (.cells #[.slice none 0 0,.bool false,.int .i64 1] 41)=w2 at*;go_loopw [2] (fun t wr=>∃(k:Nat) (v:Value) (gs:List Nat),k≤4∧t=.int .i64 (k:Int)∧vS w.heap.size (.slice none 0 0) false 0 wr∧vS (w.heap.size+1) v false 1 wr∧wr.ownsRow w.heap.size 174 1 v k (gs.map (aG N))∧(∀i,i<k→Pxs (gs.getD i 0) (fun _=>false) wr)∧Below w.heap.size w wr) (fun t _=>4-(intOf t).toNat)
 case atStart=>exact⟨0,_,[],by omega,rfl,S0.out,S1.out,qO _ _ _ _,fun i hi=>absurd hi zBY,B0.out⟩
 case round=>
  clear S0 S1 B0
  obtain⟨k,v,gs,hk,rfl,h0,h1,hown,hpx,hb⟩:=hrel
  have hgl:gs.length=k:=by have:=hown.1;simpa using this
  have Q:=zW (zY h0 (zY h1 (zY hown (zY hpx (zY hb hgl)))))
  clear h0 h1 hown hpx hb hgl
  by_cases hlt:k<4
  ·have kI:(k:Int)<4:=zBY
   have c0:=Q.out.2.1.c0
   have QD:=zW (show vS w.heap.size (.slice none 0 0) false 0 wr.drew∧vS (w.heap.size+1) v false 1 wr.drew∧wr.drew.ownsRow w.heap.size 174 1 v k (gs.map (aG N))∧(∀i,i<k→Pxs (gs.getD i 0) (fun _=>false) wr.drew)∧Below w.heap.size w wr.drew∧gs.length=k from⟨Q.out.1,Q.out.2.1,Q.out.2.2.1.drew,fun i hi=>(Q.out.2.2.2.1 i hi).drew,Q.out.2.2.2.2.1.drew,Q.out.2.2.2.2.2⟩)
   have KL:=zW hlt
   clear Q
   go_wp2
   go_region_law ((first
    |(go_simp;go_at_call 184;refine(MY NN.out _).mono ?_;rintro e wb ⟨g,rfl,hg,hP,b1⟩;have Q1:=zW (zY (QD.out.1.step b1) (zY (QD.out.2.1.step b1) (zY (nE QD.out.2.2.1 b1) (zY (fun i hi=>(QD.out.2.2.2.1 i hi).step b1) (zY (QD.out.2.2.2.2.1.trans (b1.mono QD.out.2.2.2.2.1.size)) (zY hP (show some g≠v.ownBlock from fun h=>by have:=(QD.out.2.2.1.lt g h.symm).2;omega)))))));clear b1 hg hP c0;have c0:=Q1.out.2.1.c0;have l1:=Q1.out.2.1.lt)
    |(refine step_append_lies _ zBB _ _ _ zBB w.heap.size 174 i0 _ 1 24 Tryz.underlying39 HI.out.1 HI.out.2.1 HI.out.2.2.1 HI.out.2.2.2 rfl zBY _ _ _ zBB (Q1.out.2.2.1.alloc _) ⟨wb.heap.size,0,none⟩ 1 1 [.slice (some ⟨g,0,none⟩) N N] zBB zBB (World.news_of_block (cs:=#[.slice (some ⟨g,0,none⟩) N N]) (t:=174) (fr:=(0,0)) (jN wb _)) zRK zBY zB6 zBY (by have:=Q1.out.2.2.2.2.1.size;simp;omega) _ rfl ?_;intro gg cap2 w1 hown1 hgrow hat hlt2;have R0:=(Q1.out.1.alloc _).grown hgrow (Q1.out.1.row Q1.out.2.2.1);have R1:=(Q1.out.2.1.alloc _).grown hgrow (Q1.out.2.1.row Q1.out.2.2.1);have d0:=R1.c0;have g0:=R1.fz 0;have Q3:=zW (zY R0 (zY R1 (zY hown1 (zY hgrow True.intro))));clear R0 R1 hown1 hgrow c0)))
   all_goals
    go_wp2
    go_roundw
    case rel=>
     have hq:=Q3.out.2.1.row Q3.out.2.2.1
     refine⟨k+1,_,gs++[g],by omega,by go_num,Q3.out.1.other zBY _ _,Q3.out.2.1.put _,?_,fun i hi=>?_,((Q1.out.2.2.2.2.1.alloc Q1.out.2.2.2.2.1.size _).grown Q3.out.2.2.2.1 (by have:=Q1.out.2.2.2.2.1.size;simp;omega) fun j ej=>(Q1.out.2.2.1.lt j ej).1).setCell (p:=⟨w.heap.size+1,0,none⟩) (qC _) _⟩
     ·refine gO ?_ hq 0 _
      rw[jD]
      exact Q3.out.2.2.1
     ·have hall:∃p,(gs++[g]).getD i 0=p∧Pxs p (fun _=>false) wb∧some p≠v.ownBlock:=by
       by_cases hik:i<k
       ·refine⟨_,rfl,?_⟩;have e:(gs++[g]).getD i 0=gs.getD i 0:=by
         rw[qJ,qJ,qA (by have:=QD.out.2.2.2.2.2;omega)]
        rw[e];exact⟨Q1.out.2.2.2.1 i hik,(Q1.out.2.2.2.1 i hik).notRow Q1.out.2.2.1 (by intro h;have:=QD.out.2.2.2.2.2;rw[h]at this;simp at this;omega)⟩
       ·have e:(gs++[g]).getD i 0=g:=by
         obtain rfl:i=gs.length:=by have:=QD.out.2.2.2.2.2;omega
         simp
        exact⟨g,e,Q1.out.2.2.2.2.2.1,Q1.out.2.2.2.2.2.2⟩
      obtain⟨p,hp,hP,hn⟩:=hall
      rw[hp]
      have hP1:=(hP.step ((zB _ wb).alloc (zH _) _)).grown Q3.out.2.2.2.1 hn
      refine hP1.other (fun e=>?_) _ _
      have h3:=hP1.at_ 3 zBH
      rw[←e,Q3.out.2.1.no 3 zBY]at h3
      cases h3
    case measure=>simp[intOf];omega
  ·obtain rfl:k=4:=by omega
   obtain⟨A,cap,rfl⟩:=vQ Q.out.2.2.1
   have c0:=Q.out.2.1.c0
   have c1:=Q.out.2.1.c1
   have c2:=Q.out.2.1.c2
   have d0:=Q.out.1.c0
   have d1:=Q.out.1.c1
   have d2:=Q.out.1.c2
   have f0:=Q.out.1.fz 0
   have f1:=Q.out.1.fz 1
   have f2:=Q.out.1.fz 2
   go_wp2_with fail
   have q3:=Q.out.1.put3 (v':=.slice A 4 cap) (hi':=false) (M':=1)
   refine zT (zF rfl _ _ w.heap.size _ _ _ _ rfl q3 Tryz.underlying41 rfl zTQ) rfl ?_
   have hq:=Q.out.1.row Q.out.2.2.1
   have ho:=gO (gO (gO Q.out.2.2.1 hq 0 (.slice A 4 cap)) hq 1 (.bool false)) hq 2 (.int .i64 1)
   have hrow:=Row.of_own ho
   refine⟨A,cap,gs,rfl,Q.out.2.2.2.2.2,hrow,fun i hi=>?_,((Q.out.2.2.2.2.1.setCell (p:=⟨w.heap.size,0,none⟩) (zH _) _).setCell (p:=⟨w.heap.size,1,none⟩) (zH _) _).setCell (p:=⟨w.heap.size,2,none⟩) (zH _) _,.inr fun ad e=>(by subst e;exact(Q.out.2.2.1.lt _ rfl).1)⟩
   have hP:=Q.out.2.2.2.1 i hi
   have hne:w.heap.size≠gs.getD i 0:=fun e=>by
    have h3:=hP.at_ 3 zBH;rw[←e,Q.out.1.no 3 zBY]at h3;cases h3
   exact((hP.other hne _ _).other hne _ _).other hne _ _
theorem tB.of{N p:Nat}{A:Option Addr}{gs:List Nat}{F:Nat→Nat→Bool}{w:World}{v:Value}{hi:Bool}{M:Int}(S:vS p v hi M w)(len:gs.length=4)(row:Row (aG N) w A gs)(px:∀i,i<4→Pxs (gs.getD i 0) (F i) w):tB N p A gs F w:=by
 refine⟨len,row,px,fun ad h e=>?_,fun i hi e=>?_⟩
 ·obtain⟨b,oo,hA,hlt,hc⟩:=row (by intro h0;rw[h0]at len;simp at len);rw[h]at hA;cases hA
  have h3:=hc 3 (by rw[len];decide)
  simp only at e;rw[e,S.no (oo+3) zBY]at h3;cases h3
 ·have h3:=(px i hi).at_ 3 zBH;rw[e,S.no 3 zBY]at h3;cases h3
theorem ZX(N:Nat)(hN:N=8192)(A:Option Addr)(cap:Nat)(hi v:Bool)(M:Int)(w:World):
  Calls Tryz.prog 56 #[.agg #[.slice A 4 cap,.bool hi,.int .i64 M],.bool v] w (zQ4 N A v M (fun _ _=>false) w):=by
 have NN:=zW hN;clear hN;go_enter Tryz.func56,Tryz.ntmps56;go_upto_region 1 with fail;refine zN ?_;have S0:=zW ((vS.new w (.slice A 4 cap) hi M).alloc (.cells #[.slice none 0 0,.bool false,.int .i64 0] 41));have B0:=zW (((zB _ w).alloc (zH _) (.cells #[.slice A 4 cap,.bool hi,.int .i64 M] 41)).alloc zBT (.cells #[.slice none 0 0,.bool false,.int .i64 0] 41));have S1:=zW (vS.new (w.alloc (.cells #[.slice A 4 cap,.bool hi,.int .i64 M] 41)) (.slice none 0 0) false 0);rw[show(w.alloc (.cells #[.slice A 4 cap,.bool hi,.int .i64 M] 41)).heap.size=w.heap.size+1 by simp]at S1;generalize (w.alloc (.cells #[.slice A 4 cap,.bool hi,.int .i64 M] 41)).alloc (.cells #[.slice none 0 0,.bool false,.int .i64 0] 41)=w2 at*;go_wp2_with fail;refine(N9 N NN.out _).mono ?_;rintro e wb ⟨A',cap',gs,rfl,hl,hrow,hpx,b1,fA⟩;have FN:=zW (show FA A A' w.heap.size from(fA.new A).elim .inl fun f=> .inr fun ad e=>zD B0.out.size (f ad e));clear fA;have Q:=zW (zY (S0.out.step b1) (zY (S1.out.step b1) (zY (B0.out.trans (b1.mono B0.out.size)) (tB.of (S1.out.step b1) hl hrow hpx))));clear S0 S1 B0 hl hrow hpx b1;have c2:=Q.out.1.c2;have l0:=Q.out.1.lt;have d0:=Q.out.2.1.c0;have d1:=Q.out.2.1.c1;have d2:=Q.out.2.1.c2;have f0:=Q.out.2.1.fz 0;have f1:=Q.out.2.1.fz 1;have f2:=Q.out.2.1.fz 2;have l1:=Q.out.2.1.lt;go_wp2_with fail;have q3:=(Q.out.2.1.put3 (v':=.slice A' 4 cap') (hi':=v) (M':=M)).alloc (.cells #[.slice A' 4 cap',.bool false,.int .i64 1] 41);refine zT (zF rfl _ _ (w.heap.size+1) _ _ _ _ rfl q3 Tryz.underlying41 rfl zTQ) rfl ?_;have R2:=((Q.out.2.2.2.put 0 (.slice A' 4 cap')).put 1 (.bool v)).put 2 (.int .i64 M);have R3:=R2.step ((zB _ _).alloc (zH _) (.cells #[.slice A' 4 cap',.bool false,.int .i64 1] 41));have B3:=((Q.out.2.2.1.setCell (p:=⟨w.heap.size+1,0,none⟩) (qC _) (.slice A' 4 cap')).setCell (p:=⟨w.heap.size+1,1,none⟩) (qC _) (.bool v)).setCell (p:=⟨w.heap.size+1,2,none⟩) (qC _) (.int .i64 M);exact⟨A',cap',gs,rfl,R3.len,R3.row,R3.px,B3.alloc B3.size _,FN.out⟩
theorem QK(A:Option Addr)(cap:Nat)(hi:Bool)(M m:Int)(w:World):
  Calls Tryz.prog 55 #[.agg #[.slice A 4 cap,.bool hi,.int .i64 M],.int .i64 m] w fun e w'=>e=.returned (.agg #[.slice A 4 cap,.bool hi,.int .i64 m])∧Below w.heap.size w w':=by
 go_enter Tryz.func55,Tryz.ntmps55;go_upto_region 1 with fail;refine zN ?_;have S0:=zW ((vS.new w (.slice A 4 cap) hi M).alloc (.cells #[.slice none 0 0,.bool false,.int .i64 0] 41));have B0:=zW (((zB _ w).alloc (zH _) (.cells #[.slice A 4 cap,.bool hi,.int .i64 M] 41)).alloc zBT (.cells #[.slice none 0 0,.bool false,.int .i64 0] 41));have S1:=zW (vS.new (w.alloc (.cells #[.slice A 4 cap,.bool hi,.int .i64 M] 41)) (.slice none 0 0) false 0);rw[show(w.alloc (.cells #[.slice A 4 cap,.bool hi,.int .i64 M] 41)).heap.size=w.heap.size+1 by simp]at S1;generalize (w.alloc (.cells #[.slice A 4 cap,.bool hi,.int .i64 M] 41)).alloc (.cells #[.slice none 0 0,.bool false,.int .i64 0] 41)=w2 at*;have c0:=S0.out.c0;have c1:=S0.out.c1;have d0:=S1.out.c0;have d1:=S1.out.c1;have d2:=S1.out.c2;have f0:=S1.out.fz 0;have f1:=S1.out.fz 1;have f2:=S1.out.fz 2;go_wp2_with fail;have q3:=S1.out.put3 (v':=.slice A 4 cap) (hi':=hi) (M':=m);refine zT (zF rfl _ _ (w.heap.size+1) _ _ _ _ rfl q3 Tryz.underlying41 rfl zTQ) rfl ?_;exact⟨rfl,((B0.out.setCell (p:=⟨w.heap.size+1,0,none⟩) (qC _) _).setCell (p:=⟨w.heap.size+1,1,none⟩) (qC _) _).setCell (p:=⟨w.heap.size+1,2,none⟩) (qC _) _⟩
end
section
open Go.RowKit Num Dec Cpu
theorem CM(v:Nat→Nat)(op:Int)(x y nn:Nat)(n addr len:Int)(w:World)(hv:OkV v)(hx:x<16)(hy:y<16)(hn:nn<256):
  Calls Tryz.prog 65 #[.agg (rg v),.agg (lI ⟨op,x,y,n,nn,addr,len⟩)] w fun e w'=>e=.returned (.tuple #[.bool (skB v ⟨op,x,y,n,nn,addr,len⟩),.bool (uL op)])∧Below w.heap.size w w':=by
 have vx:=hv x hx;have vy:=hv y hy;have B0:=zW (show Below w.heap.size w ((w.alloc (.cells (rg v) 23)).alloc (.cells (lI ⟨op,x,y,n,nn,addr,len⟩) 47))from(mJ w _).alloc zBT _);have R0:=zW ((Blk.new w 23 (rg v)).alloc (.cells (lI ⟨op,x,y,n,nn,addr,len⟩) 47));have I0:=zW (show Blk (w.heap.size+1) 47 (lI ⟨op,x,y,n,nn,addr,len⟩) ((w.alloc (.cells (rg v) 23)).alloc (.cells (lI ⟨op,x,y,n,nn,addr,len⟩) 47))from by
  have h:=Blk.new (w.alloc (.cells (rg v) 23)) 47 (lI ⟨op,x,y,n,nn,addr,len⟩);rw[zR]at h;exact h)
 have SK:∀s b,skB v ⟨op,x,y,n,nn,addr,len⟩=b→uL op=s→skB v ⟨op,x,y,n,nn,addr,len⟩=b∧uL op=s:=fun _ _ a c=>⟨a,c⟩;have S5:=zW (fun(h:op=5)=>(show skB v ⟨op,x,y,n,nn,addr,len⟩=decide (v x=nn)∧uL op=true from by subst h;unfold skB uL;simp;omega));have S6:=zW (fun(h:op=6)=>(show skB v ⟨op,x,y,n,nn,addr,len⟩=!decide (v x=nn)∧uL op=true from by subst h;unfold skB uL;simp;omega));have S7:=zW (fun(h:op=7)=>(show skB v ⟨op,x,y,n,nn,addr,len⟩=decide (v x=v y)∧uL op=true from by subst h;unfold skB uL;first|(simp;done)|(simp;omega)));have S19:=zW (fun(h:op=19)=>(show skB v ⟨op,x,y,n,nn,addr,len⟩=!decide (v x=v y)∧uL op=true from by subst h;unfold skB uL;first|(simp;done)|(simp;omega)));have SO:=zW (fun(h:¬op=5∧¬op=6∧¬op=7∧¬op=19)=>(show skB v ⟨op,x,y,n,nn,addr,len⟩=false∧uL op=false from by obtain⟨a,b,c,d⟩:=h;unfold skB uL;simp[a,b,c,d]));clear SK;go_enter Tryz.func65,Tryz.ntmps65;go_upto_region 0 with fail;refine zN ?_;refine mZ rfl _ (.tmp 0) rfl (rg v) rfl ?_;simp only[Act.put,zQ,zZ,zJ];refine mZ rfl _ (.tmp 1) rfl (lI ⟨op,x,y,n,nn,addr,len⟩) rfl ?_;simp only[Act.put,zQ,zZ,zJ,zR];obtain⟨g,hg⟩:∃g,w.heap.size=g:=⟨_,rfl⟩;have GL:=zW hg;rw[hg]at R0 I0⊢;generalize World.alloc (World.alloc _ _) _=w1 at R0 I0 B0⊢;clear hg;have cx:w1.cell? ⟨g,x,none⟩=some (.int .u8 (v x:Int)):=by rw[R0.out.cell,gJ v hx]
 have cy:w1.cell? ⟨g,y,none⟩=some (.int .u8 (v y:Int)):=by rw[R0.out.cell,gJ v hy]
 have i0:w1.cell? ⟨g+1,0,none⟩=some (.int .i64 op):=(I0.out.cell 0).trans rfl;have i1:w1.cell? ⟨g+1,1,none⟩=some (.int .i64 (x:Int)):=(I0.out.cell 1).trans rfl;have i2:w1.cell? ⟨g+1,2,none⟩=some (.int .i64 (y:Int)):=(I0.out.cell 2).trans rfl;have i4:w1.cell? ⟨g+1,4,none⟩=some (.int .i64 (nn:Int)):=(I0.out.cell 4).trans rfl;have kx:=mH.cell cx R0.out.lt;have ky:=mH.cell cy R0.out.lt;have k1:=mH.cell i1 I0.out.lt;have k2:=mH.cell i2 I0.out.lt;have k4:=mH.cell i4 I0.out.lt;have xi:(x:Int)<16:=zBY;have yi:(y:Int)<16:=zBY;have wx:=xM (show v x<65536 by omega);clear hx hy hn cx cy i1 i2 i4;by_cases h5:op=5
 ·have SX:=zW (S5.out h5);clear S5 S6 S7 S19 SO;subst h5;go_upto_region 3 with fail;exact zSW
 by_cases h6:op=6
 ·have SX:=zW (S6.out h6);clear S5 S6 S7 S19 SO;subst h6;go_upto_region 5 with fail;exact zSW
 by_cases h7:op=7
 ·have SX:=zW (S7.out h7);clear S5 S6 S7 S19 SO;subst h7;go_upto_region 7 with fail;exact zSV
 by_cases h19:op=19
 ·have SX:=zW (S19.out h19);clear S5 S6 S7 S19 SO;subst h19;go_upto_region 9 with fail;exact zSV
 have SX:=zW (SO.out ⟨h5,h6,h7,h19⟩);have e5:(op==5)=false:=by simpa using h5
 have e6:(op==6)=false:=by simpa using h6
 have e7:(op==7)=false:=by simpa using h7
 have e19:(op==19)=false:=by simpa using h19
 clear S5 S6 S7 S19 SO h5 h6 h7 h19;go_wp2_with fail;go_ret2;exact⟨by rw[SX.out.1,SX.out.2];rfl,B0.out⟩
def d3(b:Nat):Array Value:=#[.int .u8 ((b:Int)/100),.int .u8 ((b:Int)/10%10),.int .u8 ((b:Int)%10)]
structure zGI:Prop where
 do_:∀(v:Nat→Nat) (op:Int) (x y nn:Nat) (n addr len:Int) (q:Pr) (w:World),OkV v→x<16→y<16→nn<256→∀(hop:(Lit.int .i64 op).wf=true:=by decide),
  Calls Tryz.prog 185 #[.agg (rg v),.agg (lI ⟨op,x,y,n,nn,addr,len⟩),.agg (prc q)] w fun e w'=>e=.returned (.tuple #[.agg (rg (xZ v ⟨op,x,y,n,nn,addr,len⟩ q)),.bool (yC op)])∧Below w.heap.size w w'
 sk:∀(v:Nat→Nat) (op:Int) (x y nn:Nat) (n addr len:Int) (w:World),OkV v→x<16→y<16→nn<256→
  Calls Tryz.prog 186 #[.agg (rg v),.agg (lI ⟨op,x,y,n,nn,addr,len⟩)] w fun e w'=>e=.returned (.tuple #[.bool (skB v ⟨op,x,y,n,nn,addr,len⟩),.bool (uL op)])∧Below w.heap.size w w'
 dg:∀(b:Nat) (w:World),b<256→Calls Tryz.prog 194 #[.int .u8 (b:Int)] w fun e w'=>e=.returned (.agg (d3 b))∧Below w.heap.size w w'
theorem zBK:xX Tryz.prog 270 3:=⟨⟨_,Tryz.underlying270,rfl⟩,by kernel_rfl⟩
theorem zXE:cY Tryz.prog 270 #[.int .u8 0,.int .u8 0,.int .u8 0]:=by unfold cY;kernel_rfl
theorem zW6(b:Nat):cL (d3 b):=by unfold cL d3;simp[Value.oneCell']
section
variable {ops:Array Oper} {C:World→Prop} {Q:Act→Prop} {o:Oper} {rest:List Oper} {ac:Act} {v:Nat→Nat} {a b c:Int}
end
end
section
open Go.RowKit Num Dec Cpu Go.Maps
def cdA:Array Value:=#[.int .i64 5,afn 260,.int .i64 6,afn 261,.int .i64 7,afn 262,.int .i64 19,afn 263]
theorem oB(w:World):Calls Tryz.prog 226 #[] w fun e w'=>e=.returned (.agg cdA)∧Below w.heap.size w w':=by
 go_enter Tryz.func226,Tryz.ntmps226;exact zSB
theorem zJ3(x y nn:Nat)(q:Pr)(w:World):Calls Tryz.prog 260 #[.agg (opc x y nn q)] w fun e w'=>e=.returned (.bool (decide ((x:Int)=(nn:Int))))∧Below w.heap.size w w':=by
 unfold opc;go_enter Tryz.func260,Tryz.ntmps260;exact zSN
theorem zJ2(x y nn:Nat)(q:Pr)(w:World):Calls Tryz.prog 261 #[.agg (opc x y nn q)] w fun e w'=>e=.returned (.bool (!decide ((x:Int)=(nn:Int))))∧Below w.heap.size w w':=by
 unfold opc;go_enter Tryz.func261,Tryz.ntmps261;exact zSN
theorem zJ1(x y nn:Nat)(q:Pr)(w:World):Calls Tryz.prog 262 #[.agg (opc x y nn q)] w fun e w'=>e=.returned (.bool (decide ((x:Int)=(y:Int))))∧Below w.heap.size w w':=by
 unfold opc;go_enter Tryz.func262,Tryz.ntmps262;exact zSN
theorem zJ0(x y nn:Nat)(q:Pr)(w:World):Calls Tryz.prog 263 #[.agg (opc x y nn q)] w fun e w'=>e=.returned (.bool (!decide ((x:Int)=(y:Int))))∧Below w.heap.size w w':=by
 unfold opc;go_enter Tryz.func263,Tryz.ntmps263;exact zSN
theorem M7(b:Nat)(w:World)(hb:b<256):Calls Tryz.prog 194 #[.int .u8 (b:Int)] w fun e w'=>e=.returned (.agg (d3 b))∧Below w.heap.size w w':=by
 have e:(b:Int)/10/10=(b:Int)/100:=zBY;have E:=zW e;clear e;go_enter Tryz.func194,Tryz.ntmps194;go_wp2_with fail;go_returns;exact⟨by rw[E.out];rfl,by go_grown⟩
theorem cd_at:(∀w:World,(Instr.index 318 (.agg cdA) (.int .i64 0)).run Tryz.prog w=.ok (.agg #[.int .i64 5,afn 260]) w)∧(∀w:World,(Instr.index 318 (.agg cdA) (.int .i64 1)).run Tryz.prog w=.ok (.agg #[.int .i64 6,afn 261]) w)∧
  (∀w:World,(Instr.index 318 (.agg cdA) (.int .i64 2)).run Tryz.prog w=.ok (.agg #[.int .i64 7,afn 262]) w)∧(∀w:World,(Instr.index 318 (.agg cdA) (.int .i64 3)).run Tryz.prog w=.ok (.agg #[.int .i64 19,afn 263]) w):=
 ⟨fun _=>by kernel_rfl,fun _=>by kernel_rfl,fun _=>by kernel_rfl,fun _=>by kernel_rfl⟩
theorem WT(v:Nat→Nat)(op:Int)(x y nn:Nat)(n addr len:Int)(w:World)(hv:OkV v)(hx:x<16)(hy:y<16)(hn:nn<256):
  Calls Tryz.prog 186 #[.agg (rg v),.agg (lI ⟨op,x,y,n,nn,addr,len⟩)] w fun e w'=>e=.returned (.tuple #[.bool (skB v ⟨op,x,y,n,nn,addr,len⟩),.bool (uL op)])∧Below w.heap.size w w':=by
 have RD:=zW (fun w=>QI v op x y nn n addr len ⟨0,false,false,false,false,false,false,false⟩ w hv hx hy hn);have C1:=zW (fun w=>zJ3 (v x) (v y) nn ⟨0,false,false,false,false,false,false,false⟩ w);have C2:=zW (fun w=>zJ2 (v x) (v y) nn ⟨0,false,false,false,false,false,false,false⟩ w);have C3:=zW (fun w=>zJ1 (v x) (v y) nn ⟨0,false,false,false,false,false,false,false⟩ w);have C4:=zW (fun w=>zJ0 (v x) (v y) nn ⟨0,false,false,false,false,false,false,false⟩ w);have B0:=zW (show Below w.heap.size w ((w.alloc (.cells (rg v) 23)).alloc (.cells (lI ⟨op,x,y,n,nn,addr,len⟩) 47))from by go_grown);have R0:=zW ((Blk.new w 23 (rg v)).alloc (.cells (lI ⟨op,x,y,n,nn,addr,len⟩) 47));have I0:=zW (Blk.new (w.alloc (.cells (rg v) 23)) 47 (lI ⟨op,x,y,n,nn,addr,len⟩));simp only[zR]at I0;have S5:=zW (fun(h:op=5)=>(show skB v ⟨op,x,y,n,nn,addr,len⟩=decide ((v x:Int)=(nn:Int))∧uL op=true from by subst h;unfold skB uL;simp));have S6:=zW (fun(h:op=6)=>(show skB v ⟨op,x,y,n,nn,addr,len⟩=(!decide ((v x:Int)=(nn:Int)))∧uL op=true from by subst h;unfold skB uL;simp));have S7:=zW (fun(h:op=7)=>(show skB v ⟨op,x,y,n,nn,addr,len⟩=decide ((v x:Int)=(v y:Int))∧uL op=true from by subst h;unfold skB uL;simp;omega));have S19:=zW (fun(h:op=19)=>(show skB v ⟨op,x,y,n,nn,addr,len⟩=(!decide ((v x:Int)=(v y:Int)))∧uL op=true from by subst h;unfold skB uL;simp;omega));have SO:=zW (fun(h:¬op=5∧¬op=6∧¬op=7∧¬op=19)=>(show skB v ⟨op,x,y,n,nn,addr,len⟩=false∧uL op=false from by obtain⟨a,b,c,d⟩:=h;unfold skB uL;simp[a,b,c,d]));obtain⟨I,hI⟩:∃I,lI ⟨op,x,y,n,nn,addr,len⟩=I:=⟨_,rfl⟩;have I7:I.size=7:=by rw[←hI];rfl
 have hi0:I[0]?=some (.int .i64 op):=by rw[←hI];rfl
 rw[hI]at RD B0 R0 I0⊢;generalize skB v ⟨op,x,y,n,nn,addr,len⟩=sb at*;clear hI hv hx hy hn;go_enter Tryz.func186,Tryz.ntmps186;go_upto_region 0 with fail;refine zN ?_;refine mZ rfl _ (.tmp 0) rfl (rg v) rfl ?_;simp only[Act.put,zQ,zZ,zJ,zR];refine mZ rfl _ (.tmp 1) rfl I rfl ?_;simp only[Act.put,zQ,zZ,zJ,zR];obtain⟨g,hg⟩:∃g,w.heap.size=g:=⟨_,rfl⟩;rw[hg]at R0 I0⊢;have GL:=zW hg;generalize (w.alloc (.cells (rg v) 23)).alloc (.cells I 47)=w1 at*;clear hg;go_wp2_with fail;refine(oB _).mono ?_;rintro e w2 ⟨rfl,b⟩;have R0:=zW (R0.out.step b);have I0:=zW (I0.out.step b);have B0:=zW (B0.out.trans (b.mono B0.out.size));clear b;obtain⟨j0,j1,j2,j3⟩:=cd_at;generalize cdA=CA at*;have gl:=I0.out.lt;have i0:w2.cell? ⟨g+1,0,none⟩=some (.int .i64 op):=(I0.out.cell 0).trans hi0;unfold afn at j0 j1 j2 j3;by_cases h5:op=5
 ·have SX:=zW (S5.out h5);clear S5 S6 S7 S19 SO;subst h5;clear i0;go_wp2_with fail;refine wp_loop_rounds 5 ?_;rw[jE];go_upto_region 4 with fail;have b:=(zB w2.heap.size w2).alloc (zH _) (.cells #[.int .i64 5,.func (.func 260) #[] #[]] 317);have KC:=zW (Blk.new w2 317 #[.int .i64 5,.func (.func 260) #[] #[]]);have R0:=zW (R0.out.step b);have I0:=zW (I0.out.step b);have B0:=zW (B0.out.trans (b.mono B0.out.size));clear b;obtain⟨gc,hgc⟩:∃gc,w2.heap.size=gc:=⟨_,rfl⟩;rw[hgc]at KC⊢;generalize w2.alloc (.cells #[.int .i64 5,.func (.func 260) #[] #[]] 317)=w3 at*;clear hgc;have i0:w3.cell? ⟨g+1,0,none⟩=some (.int .i64 5):=(I0.out.cell 0).trans hi0;have k0:w3.cell? ⟨gc,0,none⟩=some (.int .i64 5):=KC.out.cell 0;go_upto_region 5 with fail;clear i0 k0 j0 j1 j2 j3;have k1:=mH.cell (show w3.cell? ⟨gc,1,none⟩=some (.func (.func 260) #[] #[])from KC.out.cell 1) KC.out.lt;have CI:=zW (mR I0.out);have CV:=zW (mR R0.out);refine m8 zBM zBM ?_;iterate 2 (go_big_quiet_step (fail))
  refine l9 mD CV.out (mK _) ?_ (.tmp 2) ?_ ?_ ?_
  ·rfl
  ·rfl
  ·simp[Act.eval]
  simp only[Act.put,zQ,zZ,zJ];refine l9 mN CI.out I7 ?_ (.tmp 3) ?_ ?_ ?_
  ·rfl
  ·rfl
  ·simp[Act.eval]
  simp only[Act.put,zQ,zZ,zJ];clear CI CV R0 I0 KC;repeat(go_big_quiet_step (first|(go_at_call 224;exact nM (RD.out _))|(go_at_call 260;exact nM (C1.out _))))
  exact zDH
 by_cases h6:op=6
 ·have SX:=zW (S6.out h6);clear S5 S6 S7 S19 SO;subst h6;clear i0;go_wp2_with fail;refine wp_loop_rounds 5 ?_;rw[jE];go_upto_region 4 with fail;have b:=(zB w2.heap.size w2).alloc (zH _) (.cells #[.int .i64 5,.func (.func 260) #[] #[]] 317);have KC:=zW (Blk.new w2 317 #[.int .i64 5,.func (.func 260) #[] #[]]);have R0:=zW (R0.out.step b);have I0:=zW (I0.out.step b);have B0:=zW (B0.out.trans (b.mono B0.out.size));clear b;obtain⟨gc,hgc⟩:∃gc,w2.heap.size=gc:=⟨_,rfl⟩;rw[hgc]at KC⊢;generalize w2.alloc (.cells #[.int .i64 5,.func (.func 260) #[] #[]] 317)=w3 at*;clear hgc;have i0:w3.cell? ⟨g+1,0,none⟩=some (.int .i64 6):=(I0.out.cell 0).trans hi0;have k0:w3.cell? ⟨gc,0,none⟩=some (.int .i64 5):=KC.out.cell 0;go_wp2_with fail;clear i0 k0 KC;rw[jE];go_upto_region 4 with fail;have b:=(zB w3.heap.size w3).alloc (zH _) (.cells #[.int .i64 6,.func (.func 261) #[] #[]] 317);have KC:=zW (Blk.new w3 317 #[.int .i64 6,.func (.func 261) #[] #[]]);have R0:=zW (R0.out.step b);have I0:=zW (I0.out.step b);have B0:=zW (B0.out.trans (b.mono B0.out.size));clear b;obtain⟨gc,hgc⟩:∃gc,w3.heap.size=gc:=⟨_,rfl⟩;rw[hgc]at KC⊢;generalize w3.alloc (.cells #[.int .i64 6,.func (.func 261) #[] #[]] 317)=w4 at*;clear hgc;have i0:w4.cell? ⟨g+1,0,none⟩=some (.int .i64 6):=(I0.out.cell 0).trans hi0;have k0:w4.cell? ⟨gc,0,none⟩=some (.int .i64 6):=KC.out.cell 0;go_upto_region 5 with fail;clear i0 k0 j0 j1 j2 j3;have k1:=mH.cell (show w4.cell? ⟨gc,1,none⟩=some (.func (.func 261) #[] #[])from KC.out.cell 1) KC.out.lt;have CI:=zW (mR I0.out);have CV:=zW (mR R0.out);refine m8 zBM zBM ?_;iterate 2 (go_big_quiet_step (fail))
  refine l9 mD CV.out (mK _) ?_ (.tmp 2) ?_ ?_ ?_
  ·rfl
  ·rfl
  ·simp[Act.eval]
  simp only[Act.put,zQ,zZ,zJ];refine l9 mN CI.out I7 ?_ (.tmp 3) ?_ ?_ ?_
  ·rfl
  ·rfl
  ·simp[Act.eval]
  simp only[Act.put,zQ,zZ,zJ];clear CI CV R0 I0 KC;repeat(go_big_quiet_step (first|(go_at_call 224;exact nM (RD.out _))|(go_at_call 261;exact nM (C2.out _))))
  exact zDH
 by_cases h7:op=7
 ·have SX:=zW (S7.out h7);clear S5 S6 S7 S19 SO;subst h7;clear i0;go_wp2_with fail;refine wp_loop_rounds 5 ?_;rw[jE];go_upto_region 4 with fail;have b:=(zB w2.heap.size w2).alloc (zH _) (.cells #[.int .i64 5,.func (.func 260) #[] #[]] 317);have KC:=zW (Blk.new w2 317 #[.int .i64 5,.func (.func 260) #[] #[]]);have R0:=zW (R0.out.step b);have I0:=zW (I0.out.step b);have B0:=zW (B0.out.trans (b.mono B0.out.size));clear b;obtain⟨gc,hgc⟩:∃gc,w2.heap.size=gc:=⟨_,rfl⟩;rw[hgc]at KC⊢;generalize w2.alloc (.cells #[.int .i64 5,.func (.func 260) #[] #[]] 317)=w3 at*;clear hgc;have i0:w3.cell? ⟨g+1,0,none⟩=some (.int .i64 7):=(I0.out.cell 0).trans hi0;have k0:w3.cell? ⟨gc,0,none⟩=some (.int .i64 5):=KC.out.cell 0;go_wp2_with fail;clear i0 k0 KC;rw[jE];go_upto_region 4 with fail;have b:=(zB w3.heap.size w3).alloc (zH _) (.cells #[.int .i64 6,.func (.func 261) #[] #[]] 317);have KC:=zW (Blk.new w3 317 #[.int .i64 6,.func (.func 261) #[] #[]]);have R0:=zW (R0.out.step b);have I0:=zW (I0.out.step b);have B0:=zW (B0.out.trans (b.mono B0.out.size));clear b;obtain⟨gc,hgc⟩:∃gc,w3.heap.size=gc:=⟨_,rfl⟩;rw[hgc]at KC⊢;generalize w3.alloc (.cells #[.int .i64 6,.func (.func 261) #[] #[]] 317)=w4 at*;clear hgc;have i0:w4.cell? ⟨g+1,0,none⟩=some (.int .i64 7):=(I0.out.cell 0).trans hi0;have k0:w4.cell? ⟨gc,0,none⟩=some (.int .i64 6):=KC.out.cell 0;go_wp2_with fail;clear i0 k0 KC;rw[jE];go_upto_region 4 with fail;have b:=(zB w4.heap.size w4).alloc (zH _) (.cells #[.int .i64 7,.func (.func 262) #[] #[]] 317);have KC:=zW (Blk.new w4 317 #[.int .i64 7,.func (.func 262) #[] #[]]);have R0:=zW (R0.out.step b);have I0:=zW (I0.out.step b);have B0:=zW (B0.out.trans (b.mono B0.out.size));clear b;obtain⟨gc,hgc⟩:∃gc,w4.heap.size=gc:=⟨_,rfl⟩;rw[hgc]at KC⊢;generalize w4.alloc (.cells #[.int .i64 7,.func (.func 262) #[] #[]] 317)=w5 at*;clear hgc;have i0:w5.cell? ⟨g+1,0,none⟩=some (.int .i64 7):=(I0.out.cell 0).trans hi0;have k0:w5.cell? ⟨gc,0,none⟩=some (.int .i64 7):=KC.out.cell 0;go_upto_region 5 with fail;clear i0 k0 j0 j1 j2 j3;have k1:=mH.cell (show w5.cell? ⟨gc,1,none⟩=some (.func (.func 262) #[] #[])from KC.out.cell 1) KC.out.lt;have CI:=zW (mR I0.out);have CV:=zW (mR R0.out);refine m8 zBM zBM ?_;iterate 2 (go_big_quiet_step (fail))
  refine l9 mD CV.out (mK _) ?_ (.tmp 2) ?_ ?_ ?_
  ·rfl
  ·rfl
  ·simp[Act.eval]
  simp only[Act.put,zQ,zZ,zJ];refine l9 mN CI.out I7 ?_ (.tmp 3) ?_ ?_ ?_
  ·rfl
  ·rfl
  ·simp[Act.eval]
  simp only[Act.put,zQ,zZ,zJ];clear CI CV R0 I0 KC;repeat(go_big_quiet_step (first|(go_at_call 224;exact nM (RD.out _))|(go_at_call 262;exact nM (C3.out _))))
  exact zDH
 by_cases h19:op=19
 ·have SX:=zW (S19.out h19);clear S5 S6 S7 S19 SO;subst h19;clear i0;go_wp2_with fail;refine wp_loop_rounds 5 ?_;rw[jE];go_upto_region 4 with fail;have b:=(zB w2.heap.size w2).alloc (zH _) (.cells #[.int .i64 5,.func (.func 260) #[] #[]] 317);have KC:=zW (Blk.new w2 317 #[.int .i64 5,.func (.func 260) #[] #[]]);have R0:=zW (R0.out.step b);have I0:=zW (I0.out.step b);have B0:=zW (B0.out.trans (b.mono B0.out.size));clear b;obtain⟨gc,hgc⟩:∃gc,w2.heap.size=gc:=⟨_,rfl⟩;rw[hgc]at KC⊢;generalize w2.alloc (.cells #[.int .i64 5,.func (.func 260) #[] #[]] 317)=w3 at*;clear hgc;have i0:w3.cell? ⟨g+1,0,none⟩=some (.int .i64 19):=(I0.out.cell 0).trans hi0;have k0:w3.cell? ⟨gc,0,none⟩=some (.int .i64 5):=KC.out.cell 0;go_wp2_with fail;clear i0 k0 KC;rw[jE];go_upto_region 4 with fail;have b:=(zB w3.heap.size w3).alloc (zH _) (.cells #[.int .i64 6,.func (.func 261) #[] #[]] 317);have KC:=zW (Blk.new w3 317 #[.int .i64 6,.func (.func 261) #[] #[]]);have R0:=zW (R0.out.step b);have I0:=zW (I0.out.step b);have B0:=zW (B0.out.trans (b.mono B0.out.size));clear b;obtain⟨gc,hgc⟩:∃gc,w3.heap.size=gc:=⟨_,rfl⟩;rw[hgc]at KC⊢;generalize w3.alloc (.cells #[.int .i64 6,.func (.func 261) #[] #[]] 317)=w4 at*;clear hgc;have i0:w4.cell? ⟨g+1,0,none⟩=some (.int .i64 19):=(I0.out.cell 0).trans hi0;have k0:w4.cell? ⟨gc,0,none⟩=some (.int .i64 6):=KC.out.cell 0;go_wp2_with fail;clear i0 k0 KC;rw[jE];go_upto_region 4 with fail;have b:=(zB w4.heap.size w4).alloc (zH _) (.cells #[.int .i64 7,.func (.func 262) #[] #[]] 317);have KC:=zW (Blk.new w4 317 #[.int .i64 7,.func (.func 262) #[] #[]]);have R0:=zW (R0.out.step b);have I0:=zW (I0.out.step b);have B0:=zW (B0.out.trans (b.mono B0.out.size));clear b;obtain⟨gc,hgc⟩:∃gc,w4.heap.size=gc:=⟨_,rfl⟩;rw[hgc]at KC⊢;generalize w4.alloc (.cells #[.int .i64 7,.func (.func 262) #[] #[]] 317)=w5 at*;clear hgc;have i0:w5.cell? ⟨g+1,0,none⟩=some (.int .i64 19):=(I0.out.cell 0).trans hi0;have k0:w5.cell? ⟨gc,0,none⟩=some (.int .i64 7):=KC.out.cell 0;go_wp2_with fail;clear i0 k0 KC;rw[jE];go_upto_region 4 with fail;have b:=(zB w5.heap.size w5).alloc (zH _) (.cells #[.int .i64 19,.func (.func 263) #[] #[]] 317);have KC:=zW (Blk.new w5 317 #[.int .i64 19,.func (.func 263) #[] #[]]);have R0:=zW (R0.out.step b);have I0:=zW (I0.out.step b);have B0:=zW (B0.out.trans (b.mono B0.out.size));clear b;obtain⟨gc,hgc⟩:∃gc,w5.heap.size=gc:=⟨_,rfl⟩;rw[hgc]at KC⊢;generalize w5.alloc (.cells #[.int .i64 19,.func (.func 263) #[] #[]] 317)=w6 at*;clear hgc;have i0:w6.cell? ⟨g+1,0,none⟩=some (.int .i64 19):=(I0.out.cell 0).trans hi0;have k0:w6.cell? ⟨gc,0,none⟩=some (.int .i64 19):=KC.out.cell 0;go_upto_region 5 with fail;clear i0 k0 j0 j1 j2 j3;have k1:=mH.cell (show w6.cell? ⟨gc,1,none⟩=some (.func (.func 263) #[] #[])from KC.out.cell 1) KC.out.lt;have CI:=zW (mR I0.out);have CV:=zW (mR R0.out);refine m8 zBM zBM ?_;iterate 2 (go_big_quiet_step (fail))
  refine l9 mD CV.out (mK _) ?_ (.tmp 2) ?_ ?_ ?_
  ·rfl
  ·rfl
  ·simp[Act.eval]
  simp only[Act.put,zQ,zZ,zJ];refine l9 mN CI.out I7 ?_ (.tmp 3) ?_ ?_ ?_
  ·rfl
  ·rfl
  ·simp[Act.eval]
  simp only[Act.put,zQ,zZ,zJ];clear CI CV R0 I0 KC;repeat(go_big_quiet_step (first|(go_at_call 224;exact nM (RD.out _))|(go_at_call 263;exact nM (C4.out _))))
  exact zDH
 have SX:=zW (SO.out ⟨h5,h6,h7,h19⟩);clear S5 S6 S7 S19 SO;clear i0;go_wp2_with fail;refine wp_loop_rounds 5 ?_;rw[jE];go_upto_region 4 with fail;have b:=(zB w2.heap.size w2).alloc (zH _) (.cells #[.int .i64 5,.func (.func 260) #[] #[]] 317);have KC:=zW (Blk.new w2 317 #[.int .i64 5,.func (.func 260) #[] #[]]);have R0:=zW (R0.out.step b);have I0:=zW (I0.out.step b);have B0:=zW (B0.out.trans (b.mono B0.out.size));clear b;obtain⟨gc,hgc⟩:∃gc,w2.heap.size=gc:=⟨_,rfl⟩;rw[hgc]at KC⊢;generalize w2.alloc (.cells #[.int .i64 5,.func (.func 260) #[] #[]] 317)=w3 at*;clear hgc;have i0:w3.cell? ⟨g+1,0,none⟩=some (.int .i64 op):=(I0.out.cell 0).trans hi0;have k0:w3.cell? ⟨gc,0,none⟩=some (.int .i64 5):=KC.out.cell 0;go_wp2_with fail;clear i0 k0 KC;rw[jE];go_upto_region 4 with fail;have b:=(zB w3.heap.size w3).alloc (zH _) (.cells #[.int .i64 6,.func (.func 261) #[] #[]] 317);have KC:=zW (Blk.new w3 317 #[.int .i64 6,.func (.func 261) #[] #[]]);have R0:=zW (R0.out.step b);have I0:=zW (I0.out.step b);have B0:=zW (B0.out.trans (b.mono B0.out.size));clear b;obtain⟨gc,hgc⟩:∃gc,w3.heap.size=gc:=⟨_,rfl⟩;rw[hgc]at KC⊢;generalize w3.alloc (.cells #[.int .i64 6,.func (.func 261) #[] #[]] 317)=w4 at*;clear hgc;have i0:w4.cell? ⟨g+1,0,none⟩=some (.int .i64 op):=(I0.out.cell 0).trans hi0;have k0:w4.cell? ⟨gc,0,none⟩=some (.int .i64 6):=KC.out.cell 0;go_wp2_with fail;clear i0 k0 KC;rw[jE];go_upto_region 4 with fail;have b:=(zB w4.heap.size w4).alloc (zH _) (.cells #[.int .i64 7,.func (.func 262) #[] #[]] 317);have KC:=zW (Blk.new w4 317 #[.int .i64 7,.func (.func 262) #[] #[]]);have R0:=zW (R0.out.step b);have I0:=zW (I0.out.step b);have B0:=zW (B0.out.trans (b.mono B0.out.size));clear b;obtain⟨gc,hgc⟩:∃gc,w4.heap.size=gc:=⟨_,rfl⟩;rw[hgc]at KC⊢;generalize w4.alloc (.cells #[.int .i64 7,.func (.func 262) #[] #[]] 317)=w5 at*;clear hgc;have i0:w5.cell? ⟨g+1,0,none⟩=some (.int .i64 op):=(I0.out.cell 0).trans hi0;have k0:w5.cell? ⟨gc,0,none⟩=some (.int .i64 7):=KC.out.cell 0;go_wp2_with fail;clear i0 k0 KC;rw[jE];go_upto_region 4 with fail;have b:=(zB w5.heap.size w5).alloc (zH _) (.cells #[.int .i64 19,.func (.func 263) #[] #[]] 317);have KC:=zW (Blk.new w5 317 #[.int .i64 19,.func (.func 263) #[] #[]]);have R0:=zW (R0.out.step b);have I0:=zW (I0.out.step b);have B0:=zW (B0.out.trans (b.mono B0.out.size));clear b;obtain⟨gc,hgc⟩:∃gc,w5.heap.size=gc:=⟨_,rfl⟩;rw[hgc]at KC⊢;generalize w5.alloc (.cells #[.int .i64 19,.func (.func 263) #[] #[]] 317)=w6 at*;clear hgc;have i0:w6.cell? ⟨g+1,0,none⟩=some (.int .i64 op):=(I0.out.cell 0).trans hi0;have k0:w6.cell? ⟨gc,0,none⟩=some (.int .i64 19):=KC.out.cell 0;go_wp2_with fail;clear i0 k0 KC;rw[jE];go_wp2_with fail;go_ret2;exact⟨by rw[SX.out.1,SX.out.2];rfl,B0.out⟩
end
end Go.Proofs.YtcjldabaekbdlaaGreatDoor
