/- ScrRefD. -/
import Derived.Test.YtcjldabaekbdlaaGreatDoorMk3a
set_option maxRecDepth 400000
set_option maxHeartbeats 64000000
set_option linter.unusedVariables false
set_option linter.unusedSimpArgs false
namespace Go.Proofs.YtcjldabaekbdlaaGreatDoor
section
open Go.RowKit Go.Shelf Num
theorem zM4:(Tryz.prog.info? 24).map (fun i=>(i.zero,i.size,i.bytes))=some (some (.int .u16 0),1,2):=by kernel_rfl
theorem T3{w:World}{base:Nat}{n c:Nat}{A:Option Addr}{L:List Nat}(h:w.ownsRow base 24 1 (.slice A n c) n (L.map (fun e:Nat=>Value.int .u16 (e:Int)))):gK w A L:=fun hne=>by
 obtain⟨b,o,hA,hlt,hc⟩:=Row.of_own h hne;exact⟨⟨b,o,none⟩,hA,hlt,fun j hj=>by rw[Addr.add_mid];exact hc j hj⟩
section
variable (G:Nat→Nat) (F:Nat→Nat→Bool) (M n:Nat) (big clip:Bool) (x y m h N:Nat)
def spK(k:Nat):Nat→Bool:=gZ (nth (QW G (if big then 16 else n) (if big then 2 else 1) (xJ M n big k))) (if big then 16 else n) ((if big then 2 else 1)*8) (x%m) (y%h) m h clip
def drK(k i:Nat):Nat→Bool:=if i<k∧onB M i=true then fun t=>F i t^^spK G M n big clip x y m h i t else F i
def hiK:Nat→Bool
 |0=>false
 |k+1=>if onB M k then hiK k||gX (fun t=>F k t&&spK G M n big clip x y m h k t) N else hiK k
end
theorem zG8(G:Nat→Nat)(f j p:Nat)(hp:f+j=p):tV (fun t=>G (f+t)) 1 j=G p:=by
 subst hp;simp[tV,M8]
theorem zG7(G:Nat→Nat)(f j p:Nat)(hp:f+2*j=p):tV (fun t=>G (f+t)) 2 j=G p*256+G (p+1):=by
 subst hp;simp[tV,M8,Nat.mul_comm,qS]
theorem zK3(G:Nat→Nat)(hG:∀j,G j≤255)(f z j:Nat)(hz:z=1∨z=2):tV (fun t=>G (f+t)) z j≤65535:=by
 rcases hz with rfl|rfl
 ·rw[zG8 G f j _ rfl];have:=hG (f+j);omega
 ·rw[zG7 G f j _ rfl];have:=hG (f+2*j);have:=hG (f+2*j+1);omega
def BackD(N:Nat)(A0:Option Addr)(hi:Bool)(M:Int)(F:Nat→Nat→Bool)(v:Bool)(w:World)(e:Ending)(w':World):Prop:=
 ∃A cap gs,e=.returned (.tuple #[.agg #[.slice A 4 cap,.bool hi,.int .i64 M],.bool v])∧gs.length=4∧Row (aG N) w' A gs∧(∀i,i<4→Pxs (gs.getD i 0) (F i) w')∧Below w.heap.size w w'∧FA A0 A w.heap.size
def zLJ(A:Option Addr)(n:Nat)(G:Nat→Nat)(w:World):Prop:=0<n→∃ad,A=some ad∧ad.block<w.heap.size∧∀j,j<n→w.cell? (ad.add j)=some (.int .u8 (G j:Int))
theorem zLJ.step{A:Option Addr}{n:Nat}{G:Nat→Nat}{w w':World}(h:zLJ A n G w)(hb:Below w.heap.size w w'):zLJ A n G w':=fun hn=>by
 obtain⟨ad,h1,h2,h3⟩:=h hn;exact⟨ad,h1,zS h2 hb.size,fun j hj=>(hb.cell (p:=ad.add j) (by unfold Addr.add;split<;>exact h2)).trans (h3 j hj)⟩
theorem IM(N:Nat)(hN:N=8192)(A0:Option Addr)(cap:Nat)(gs:List Nat)(F:Nat→Nat→Bool)(hi:Bool)(m h:Nat)(hr:Res hi m h)(M:Nat)(x y n:Nat)(x1:x≤255)(y1:y≤255)(n1:n≤15)(big clip:Bool)(Ad:Option Addr)(cd nd:Nat)(G:Nat→Nat)(hG:∀j,G j≤255)(hnd:xJ M n big 4=nd)(nd1:nd≤128)(w:World)(hM:M≤10000)(H:tB N w.heap.size A0 gs F w)(HD:zLJ Ad nd G w):
  Calls Tryz.prog 151 #[.agg #[.slice A0 4 cap,.bool hi,.int .i64 (M:Int)],.int .i64 (x:Int),.int .i64 (y:Int),.int .i64 (n:Int),.bool big,.bool clip,.slice Ad nd cd] w (BackD N A0 hi M (drK G F M n big clip x y m h 4) (hiK G F M n big clip x y m h N 4) w):=by
 obtain⟨i0,hinfo,hz⟩:=kV.1 zM4;simp only[jC]at hz;obtain⟨hz0,hz1,hz2⟩:=hz;have HI:=zW (zY hinfo (zY hz0 (zY hz1 hz2)));have NN:=zW hN;have HH:=zW H;have GD:=zW HD;have GG:=zW hG;have ND:=zW hnd;have RR:=zW hr;obtain⟨m0,m1,h0,h1⟩:=hr.bounds;have WD:=zW fun w=>(show(if hi then(128:Int)else 64)=(m:Int) by rcases hr with⟨rfl,rfl,rfl⟩|⟨rfl,rfl,rfl⟩<;>rfl)▸aU hi w;have HT:=zW fun w=>(show(if hi then(64:Int)else 32)=(h:Int) by rcases hr with⟨rfl,rfl,rfl⟩|⟨rfl,rfl,rfl⟩<;>rfl)▸pM hi w;have PR:=zW fun w=>zQY n big w;obtain⟨pr,hpr⟩:∃pr,per n big=pr:=⟨_,rfl⟩;rw[hpr]at PR;have HP:=zW hpr;clear hN H hinfo hz0 hz1 hz2 HD hG hnd hr hpr;go_enter Tryz.func151,Tryz.ntmps151;go_wp2_with fail;have S0:=zW ((vS.new w (.slice A0 4 cap) hi M).alloc (.cells #[.slice none 0 0,.bool false,.int .i64 0] 41));have B0:=zW (((zB _ w).alloc (zH _) (.cells #[.slice A0 4 cap,.bool hi,.int .i64 (M:Int)] 41)).alloc zBT (.cells #[.slice none 0 0,.bool false,.int .i64 0] 41));have S1:=zW (vS.new (w.alloc (.cells #[.slice A0 4 cap,.bool hi,.int .i64 (M:Int)] 41)) (.slice none 0 0) false 0);rw[show(w.alloc (.cells #[.slice A0 4 cap,.bool hi,.int .i64 (M:Int)] 41)).heap.size=w.heap.size+1 by simp]at S1;have R0:=zW (HH.out.step B0.out);generalize (w.alloc (.cells #[.slice A0 4 cap,.bool hi,.int .i64 (M:Int)] 41)).alloc (.cells #[.slice none 0 0,.bool false,.int .i64 0] 41)=w2 at*;refine(WD.out _).mono ?_;rintro e w' ⟨rfl,rfl⟩;have c1:=S0.out.c1;go_wp2_with fail;refine(HT.out _).mono ?_;rintro e w' ⟨rfl,rfl⟩;clear c1;go_wp2;go_loopw [16,17,20] (fun hv fr i wr=>∃(k f:Nat) (b:Bool) (A:Option Addr) (cap:Nat) (gs:List Nat),(k≤4∧FA A0 A w.heap.size)∧hv=.bool b∧fr=.int .i64 (f:Int)∧i=.int .i64 (k:Int)∧f=xJ M n big k∧b=hiK G F M n big clip x y m h N k∧vS w.heap.size (.slice A 4 cap) hi M wr∧vS (w.heap.size+1) (.slice none 0 0) false 0 wr∧tB N w.heap.size A gs (drK G F M n big clip x y m h k) wr∧Below w.heap.size w wr) (fun _ _ i _=>4-(intOf i).toNat)
 case atStart=>exact⟨0,0,false,A0,cap,gs,⟨by omega,.inl rfl⟩,rfl,rfl,rfl,rfl,rfl,S0.out,S1.out,R0.out.congr fun i _=>by unfold drK;rw[zL zBY],B0.out⟩
 case round=>
  clear S0 S1 B0 R0 HH
  obtain⟨k,f,b,A,cap,gs,⟨hk,hFA⟩,rfl,rfl,rfl,hf,hb,hs0,hs1,hR,hbel⟩:=hrel
  have FH:=zW hFA
  clear hFA
  obtain⟨wo,hwo⟩:∃wo,wo=wr:=⟨_,rfl⟩
  subst hwo
  have S0:=zW hs0
  have S1:=zW hs1
  have GR:=zW hR
  have BO:=zW hbel
  have HF:=zW hf
  have HB:=zW hb
  have f1:f≤nd:=by rw[hf,←ND.out];exact XM M n big hk
  clear hs0 hs1 hR hbel hf hb
  by_cases hlt:k<4
  ·have kI:(k:Int)<4:=zBY
   obtain⟨v,hv⟩:∃v,onB M k=v:=⟨_,rfl⟩
   have ON:=zW fun w=>hv▸VE M k w hM zBY
   have HV:=zW hv
   have KL:=zW hlt
   have c2:=S0.out.c2
   clear hv
   cases v
   ·go_wp2_with fail
    refine(ON.out _).mono ?_
    rintro e w' ⟨rfl,rfl⟩
    go_wp2
    go_roundw
    case rel=>
     refine⟨k+1,f,b,A,cap,gs,⟨by omega,FH.out⟩,rfl,rfl,by go_num,?_,?_,S0.out,S1.out,GR.out.congr fun j hj=>?_,BO.out⟩
     ·rw[zZ1 M n big k HV.out];exact HF.out
     ·rw[hiK,HV.out];exact HB.out
     ·unfold drK
      by_cases e:j=k
      ·subst e;rw[zL zBY,zL (by rw[HV.out];simp)]
      ·by_cases e2:j<k∧onB M j=true
       ·rw[zG e2,zG ⟨by omega,e2.2⟩]
       ·rw[zL e2,zL (fun h=>e2 ⟨by omega,h.2⟩)]
    case measure=>simp[intOf];omega
   ·have fp:f+pr≤nd:=by
     rw[HF.out,←HP.out,←ZL M n big k HV.out,←ND.out];exact XM M n big zBY
    go_wp2_with fail
    refine(ON.out _).mono ?_
    rintro e w' ⟨rfl,rfl⟩
    clear c2 ON
    cases big
    ·have pe:pr=n:=by rw[←HP.out];rfl
     go_wp2
     go_loopw [21,24] (fun v t wr=>∃j:Nat,j≤n∧t=.int .i64 (j:Int)∧wr.ownsRow wo.heap.size 24 1 v j (((List.range j).map (tV (fun t=>G (f+t)) 1)).map (fun e:Nat=>Value.int .u16 (e:Int)))∧Below wo.heap.size wo wr) (fun _ t _=>n-(intOf t).toNat)
     case atStart=>exact⟨0,by omega,rfl,qO _ _ _ _,zB _ _⟩
     case round=>
      obtain⟨j,hj,rfl,hown,hb⟩:=hrel
      have hsz:=hb.size
      have OW:=zW hown
      have BW:=zW hb
      clear hown hb
      by_cases hjl:j<n
      ·have jI:(j:Int)<(n:Int):=zBY
       obtain⟨p,hp⟩:∃p:Nat,(f:Int)+(j:Int)=(p:Int):=⟨f+j,by omega⟩
       have pn:p<nd:=zBY
       have pI:(p:Int)<(nd:Int):=zBY
       obtain⟨e,ha⟩:∃a,G p=a:=⟨_,rfl⟩
       have a1:e≤255:=ha▸GG.out p
       obtain⟨ad,rfl,had,hdc⟩:=(GD.out.step (BO.out.trans (BW.out.mono BO.out.size))) zBY
       have ca:=hdc p zBY
       clear hdc
       rw[ha]at ca
       have RE:=zW (show tV (fun t=>G (f+t)) 1 j=e by rw[zG8 G f j p zBY,ha])
       clear ha
       go_wp2_with (first
        |(at_builtin;refine lG _ rfl _ _ 25 rfl wo.heap.size 24 i0 _ 1 2 Tryz.underlying25 HI.out.1 HI.out.2.1 HI.out.2.2.1 HI.out.2.2.2 rfl zBH _ _ _ rfl (OW.out.alloc _) ⟨_,0,none⟩ 1 1 [.int .u16 (e:Int)] rfl rfl (cell_one_new _ _ _) zRK zB6 zBY zBS ?_;intro v' w1 hown1 hgrow hnil;clear hnil;have Q3:=zW (zY hown1 hgrow);clear hown1 hgrow))
       go_roundw
       case rel=>
        refine⟨j+1,by omega,by go_num,?_,(BW.out.alloc BW.out.size _).grown Q3.out.2 zBS fun i ej=>(OW.out.lt i ej).1⟩
        rw[List.range_succ,jD,jD,List.map_cons,List.map_nil,RE.out]
        exact Q3.out.1
       case measure=>simp[intOf];omega
      ·have jI:¬(j:Int)<(n:Int):=zBY
       have je:j=n:=zBY
       obtain⟨A2,cA,rfl⟩:=vQ OW.out
       have R16:=zW (T3 OW.out)
       have LL:=zW (show((List.range j).map (tV (fun t=>G (f+t)) 1)).length=j by simp)
       have LE:=zW (show∀e∈(List.range j).map (tV (fun t=>G (f+t)) 1),e≤65535 from fun e he=>by obtain⟨i,_,rfl⟩:=jR.1 he;exact zK3 G GG.out f 1 i zBY)
       have SPE:=zW (show gZ (nth ((List.range j).map (tV (fun t=>G (f+t)) 1))) j 8 (x%m) (y%h) m h clip=spK G M n false clip x y m h k by rw[je,HF.out];rfl)
       clear OW
       generalize (List.range j).map (tV (fun t=>G (f+t)) 1)=L at*
       have j16:j≤16:=zBY
       clear je pe
       have S0:=zW (S0.out.step BW.out)
       have S1:=zW (S1.out.step BW.out)
       have GR:=zW (GR.out.step BW.out)
       have BO:=zW (BO.out.trans (BW.out.mono BO.out.size))
       have i1:(f:Int)+(pr:Int)≤128:=zBY
       obtain⟨SP,hSP⟩:∃SP,spK G M n false clip x y m h k=SP:=⟨_,rfl⟩
       rw[hSP]at SPE
       have HS:=zW hSP
       clear hjl BW hsz hSP
       go_wp2_with fail
       refine(PR.out _).mono ?_
       rintro e w' ⟨rfl,rfl⟩
       clear jI
       have PK:=GR.out.px k KL.out
       rw[show drK G F M n false clip x y m h k k=F k by unfold drK;rw[zL zBY]]at PK
       obtain⟨bb,oo,hA,hbl,hce⟩:=GR.out.row.at_ (k:=k) zTX
       have hge:gs[k]' zTX=gs.getD k 0:=by simp[show k<gs.length by rw[GR.out.len];exact KL.out]
       rw[hge]at hce
       obtain⟨y0,hy⟩:∃y,gs.getD k 0=y:=⟨_,rfl⟩
       rw[hy]at hce PK
       change wr.cell? ⟨bb,oo+k,none⟩=some (.slice (some ⟨y0,0,none⟩) N N)at hce
       obtain rfl:=hA
       have PX:=zW PK
       have CE:=zW (zY hbl hce)
       clear PK hce hge hy hbl
       go_upto_region 22 with fail
       have k0:∀u:mH wr,u.w.cell? ⟨w.heap.size,0,none⟩=some (.slice (some ⟨bb,oo,none⟩) 4 cap):=fun u=>(S0.out.step u.below).c0
       have k1:∀u:mH wr,u.w.cell? ⟨w.heap.size,1,none⟩=some (.bool hi):=fun u=>(S0.out.step u.below).c1
       have ke:∀u:mH wr,u.w.cell? ⟨bb,oo+k,none⟩=some (.slice (some ⟨y0,0,none⟩) N N):=fun u=>(u.below.cell (p:=⟨bb,oo+k,none⟩) CE.out.1).trans CE.out.2
       have mz:¬(m:Int)=0:=zBY
       have hz:¬(h:Int)=0:=zBY
       refine mX (C:=fun w'=>∃u:mH wr,w'=u.w) 17 [([0,1,2,3,4,5,6,7,8,9,10,11,12,13,14,15],16,false)] [] [18,19,20,21,22] zBM zBM ?_ ?_ ⟨⟨wr.drew,(zB _ _).drew⟩,rfl⟩ ?_
       ·exact fun _ _ d _ _ h=>by cases d<;>exact h
       ·rintro _ w' ⟨u,rfl⟩ hg
        exact⟨⟨w',u.below.trans (hg.mono u.below.size)⟩,rfl⟩
       intro wd hwd
       have bd:=zW (show Below wr.heap.size wr wd by rw[hwd];exact(zB _ _).drew)
       clear hwd
       refine vW zBN zBG ?_
       repeat(go_big_quiet_step (rfl))
       refine zM ?_
       refine vV rfl ?_
       intro w5 g5 Cw5 K hK
       refine mF (g:=215) (caps:=#[]) (args:=#[.slice A2 j cA,.int .i64 8,.int .i64 ((x:Int)%(m:Int)),.int .i64 ((y:Int)%(h:Int)),.bool hi,.bool clip]) (.func 215) #[.tmp 95,.tmp 96,.tmp 99,.tmp 102,.tmp 104,.tmp 105] #[25,3,3,3,4,4] rfl (enters_of Tryz.func215 zBM rfl) rfl zBR ?_
       refine(rsN (c:=8) (x:=x%m) (y:=y%h) NN.out RR.out (R16.out.step (by obtain⟨u5,rfl⟩:=Cw5;exact u5.below)) LE.out LL.out j16 zBY (kC _ zBY) (kC _ zBY) rfl zBY zBY SPE.out).mono ?_
       rintro e w5' ⟨g1,rfl,hg1,hP1,b1⟩
       obtain⟨u5,rfl⟩:=Cw5
       have P1:=zW hP1
       refine⟨_,rfl,?_⟩
       refine hK _ _ ⟨⟨w5',u5.below.trans (b1.mono u5.below.size)⟩,rfl⟩ ?_
       clear hK K hg1 hP1 b1 g5 R16 LE LL SPE
       simp only[Act.put,zQ,zZ,zJ]
       refine mE zBN zBG ?_
       repeat(go_big_quiet_step (rfl))
       refine zM ?_
       refine mC rfl ?_
       intro w7 g7 C7 K hK
       obtain⟨u7,rfl⟩:=C7
       refine mF (g:=214) (caps:=#[]) (args:=#[.slice (some ⟨y0,0,none⟩) N N,.slice (some ⟨g1,0,none⟩) N N]) (.func 214) #[.tmp 94,.tmp 106] #[174,174] rfl (enters_of Tryz.func214 zBM rfl) rfl zBR ?_
       obtain⟨vv,hvv⟩:∃v,gX (fun t=>F k t&&SP t) N=v:=⟨_,rfl⟩
       refine(rdN NN.out (PX.out.step u7.below) (P1.out.step g7) rfl hvv).mono ?_
       rintro e w6 ⟨g2,rfl,hg2,hP2,b2⟩
       have HV2:=zW hvv
       refine⟨_,rfl,?_⟩
       refine hK _ _ ?_
       clear hK K hvv
       simp only[Act.put,zQ,zZ,zJ]
       simp only[lA,zX,zK,zV]
       repeat(go_big_quiet_step (rfl))
       refine zM ?_
       intro w8 g8
       have P2:=zW (hP2.step g8)
       have B8:=zW ((u7.below.trans (b2.mono u7.below.size)).trans (g8.mono (zD u7.below.size b2.size)))
       have GQ:=zW (show g2≠w.heap.size by have h1:=S0.out.lt;have h2:=u7.below.size;omega)
       have S0:=zW (S0.out.step B8.out)
       have S1:=zW (S1.out.step B8.out)
       have GR:=zW (GR.out.step B8.out)
       have BO:=zW (BO.out.trans (B8.out.mono BO.out.size))
       clear B8 g7 g8 hg2 hP2 b2 u7 u5 P1 PX CE k0 k1 ke mz hz
       have c0:=S0.out.c0
       have c1:=S0.out.c1
       have c2:=S0.out.c2
       go_wp2_with fail
       refine(iB N (some ⟨bb,oo,none⟩) cap gs hi M k g2 _ GR.out.len KL.out GR.out.row).mono ?_
       rintro e wc ⟨A3,cap3,rfl,hrow,b1,hA3⟩
       have FA3:=zW (show∀ad,A3=some ad→w.heap.size≤ad.block from fun ad h=>by have h1:=hA3 ad h;have:=S0.out.lt;omega)
       have GR:=zW ((GR.out.step b1).set KL.out hrow (P2.out.step b1) (fun ad h=>by have h1:=hA3 ad h;have:=S0.out.lt;omega) GQ.out)
       have S0:=zW (S0.out.step b1)
       have S1:=zW (S1.out.step b1)
       have BO:=zW (BO.out.trans (b1.mono BO.out.size))
       clear b1 hrow hA3 c0 c1 c2
       have c0:=S0.out.c0
       have c1:=S0.out.c1
       have c2:=S0.out.c2
       have q0:=S0.out.fz 0
       have q1:=S0.out.fz 1
       have q2:=S0.out.fz 2
       cases b
       all_goals
        go_wp2
        go_roundw
        case rel=>
         refine⟨k+1,f+pr,_,A3,cap3,gs.set k g2,⟨by omega,.inr FA3.out⟩,rfl,by go_num,by go_num,?_,?_,S0.out.put3,((S1.out.other zBY _ _).other zBY _ _).other zBY _ _,(((GR.out.put _ _).put _ _).put _ _).congr fun j hj=>?_,((BO.out.setCell (p:=⟨w.heap.size,0,none⟩) (zH _) _).setCell (p:=⟨w.heap.size,1,none⟩) (zH _) _).setCell (p:=⟨w.heap.size,2,none⟩) (zH _) _⟩
         ·rw[ZL M n _ k HV.out,HP.out,HF.out]
         ·rw[hiK,zG HV.out,HS.out,HV2.out,←HB.out];rfl
         ·unfold drK
          by_cases e:j=k
          ·subst e;rw[zG rfl,zG ⟨by omega,HV.out⟩,HS.out]
          ·rw[zL e]
           by_cases e2:j<k∧onB M j=true
           ·rw[zG e2,zG ⟨by omega,e2.2⟩]
           ·rw[zL e2,zL (fun h=>e2 ⟨by omega,h.2⟩)]
        case measure=>simp[intOf];omega
    ·have pe:pr=32:=by rw[←HP.out];rfl
     go_wp2
     go_loopw [21,23] (fun v t wr=>∃j:Nat,j≤16∧t=.int .i64 (j:Int)∧wr.ownsRow wo.heap.size 24 1 v j (((List.range j).map (tV (fun t=>G (f+t)) 2)).map (fun e:Nat=>Value.int .u16 (e:Int)))∧Below wo.heap.size wo wr) (fun _ t _=>16-(intOf t).toNat)
     case atStart=>exact⟨0,by omega,rfl,qO _ _ _ _,zB _ _⟩
     case round=>
      obtain⟨j,hj,rfl,hown,hb⟩:=hrel
      have hsz:=hb.size
      have OW:=zW hown
      have BW:=zW hb
      clear hown hb
      by_cases hjl:j<16
      ·have jI:(j:Int)<16:=zBY
       obtain⟨p,hp⟩:∃p:Nat,(f:Int)+2*(j:Int)=(p:Int):=⟨f+2*j,by omega⟩
       have pn:p+1<nd:=zBY
       have pI:(p:Int)<(nd:Int):=zBY
       have pJ:((p+1:Nat):Int)<(nd:Int):=zBY
       have g1:=j5 (2*(j:Int)) zBY
       have g2:IntKind.i64.wrap ((f:Int)+2*(j:Int))=(p:Int):=(j5 _ zBY).trans hp
       have HPP:=zW hp
       clear hp
       obtain⟨p',hp'⟩:∃p':Nat,p+1=p':=⟨_,rfl⟩
       have g3:IntKind.i64.wrap ((p:Int)+1)=(p':Int):=(j5 _ zBY).trans zBY
       rw[hp']at pJ
       obtain⟨a,ha⟩:∃a,G p=a:=⟨_,rfl⟩
       obtain⟨b,hb⟩:∃b,G p'=b:=⟨_,rfl⟩
       have a1:a≤255:=ha▸GG.out p
       have b1:b≤255:=hb▸GG.out p'
       have DW:=GD.out.step (BO.out.trans (BW.out.mono BO.out.size))
       obtain⟨ad,rfl,had,hdc⟩:=DW zBY
       have ca:=hdc p zBY
       have cb:=hdc p' zBY
       clear hdc
       rw[ha]at ca
       rw[hb]at cb
       have RV:=zW (show tV (fun t=>G (f+t)) 2 j=a*256+b by rw[zG7 G f j p (by have:=HPP.out;omega),hp',ha,hb])
       obtain⟨e,he⟩:∃e:Nat,(a:Int)*256+(b:Int)=(e:Int):=⟨a*256+b,by omega⟩
       have RE:=zW (show tV (fun t=>G (f+t)) 2 j=e by rw[RV.out];omega)
       have u1:=JE a zBY
       have u2:=JE b zBY
       have u3:IntKind.u16.wrap ((a:Int)*256)=(a:Int)*256:=by have:=JE (a*256) zBY;simpa using this
       have u4:IntKind.u16.wrap ((a:Int)*256+(b:Int))=(e:Int):=by rw[he];exact JE e zBY
       have pp:p'<nd:=zBY
       clear he hp'
       clear ha hb DW RV
       go_wp2
       go_region_law
        ((refine step_append_lies _ zBB _ _ _ zBB wo.heap.size 24 i0 _ 1 2 Tryz.underlying25 HI.out.1 HI.out.2.1 HI.out.2.2.1 HI.out.2.2.2 rfl zBY _ _ _ zBB ((OW.out.alloc _).drew) ⟨wr.heap.size,0,none⟩ 1 1 [.int .u16 (e:Int)] zBB zBB (World.news_of_block (cs:=#[.int .u16 (e:Int)]) (t:=24) (fr:=(0,0)) (jN wr _)) zRK zBY zB6 zBY zBS _ rfl ?_;intro gg cap2 w1 hown1 hgrow hat hlt2;have Q3:=zW (zY hown1 hgrow);clear hown1 hgrow))
       all_goals
        go_wp2
        go_roundw
        case rel=>
         refine⟨j+1,by omega,by go_num,?_,(BW.out.alloc BW.out.size _).drew.grown Q3.out.2 zBS fun i ej=>(OW.out.lt i ej).1⟩
         rw[List.range_succ,jD,jD,List.map_cons,List.map_nil,RE.out]
         exact Q3.out.1
        case measure=>simp[intOf];omega
      ·have jI:¬(j:Int)<16:=zBY
       have je:j=16:=zBY
       obtain⟨A2,cA,rfl⟩:=vQ OW.out
       have R16:=zW (T3 OW.out)
       have LL:=zW (show((List.range j).map (tV (fun t=>G (f+t)) 2)).length=j by simp)
       have LE:=zW (show∀e∈(List.range j).map (tV (fun t=>G (f+t)) 2),e≤65535 from fun e he=>by obtain⟨i,_,rfl⟩:=jR.1 he;exact zK3 G GG.out f 2 i zBY)
       have SPE:=zW (show gZ (nth ((List.range j).map (tV (fun t=>G (f+t)) 2))) j 16 (x%m) (y%h) m h clip=spK G M n true clip x y m h k by rw[je,HF.out];rfl)
       clear OW
       generalize (List.range j).map (tV (fun t=>G (f+t)) 2)=L at*
       have j16:j≤16:=zBY
       clear je pe
       have S0:=zW (S0.out.step BW.out)
       have S1:=zW (S1.out.step BW.out)
       have GR:=zW (GR.out.step BW.out)
       have BO:=zW (BO.out.trans (BW.out.mono BO.out.size))
       have i1:(f:Int)+(pr:Int)≤128:=zBY
       obtain⟨SP,hSP⟩:∃SP,spK G M n true clip x y m h k=SP:=⟨_,rfl⟩
       rw[hSP]at SPE
       have HS:=zW hSP
       clear hjl BW hsz hSP
       go_wp2_with fail
       refine(PR.out _).mono ?_
       rintro e w' ⟨rfl,rfl⟩
       clear jI
       have PK:=GR.out.px k KL.out
       rw[show drK G F M n true clip x y m h k k=F k by unfold drK;rw[zL zBY]]at PK
       obtain⟨bb,oo,hA,hbl,hce⟩:=GR.out.row.at_ (k:=k) zTX
       have hge:gs[k]' zTX=gs.getD k 0:=by simp[show k<gs.length by rw[GR.out.len];exact KL.out]
       rw[hge]at hce
       obtain⟨y0,hy⟩:∃y,gs.getD k 0=y:=⟨_,rfl⟩
       rw[hy]at hce PK
       change wr.cell? ⟨bb,oo+k,none⟩=some (.slice (some ⟨y0,0,none⟩) N N)at hce
       obtain rfl:=hA
       have PX:=zW PK
       have CE:=zW (zY hbl hce)
       clear PK hce hge hy hbl
       go_upto_region 22 with fail
       have k0:∀u:mH wr,u.w.cell? ⟨w.heap.size,0,none⟩=some (.slice (some ⟨bb,oo,none⟩) 4 cap):=fun u=>(S0.out.step u.below).c0
       have k1:∀u:mH wr,u.w.cell? ⟨w.heap.size,1,none⟩=some (.bool hi):=fun u=>(S0.out.step u.below).c1
       have ke:∀u:mH wr,u.w.cell? ⟨bb,oo+k,none⟩=some (.slice (some ⟨y0,0,none⟩) N N):=fun u=>(u.below.cell (p:=⟨bb,oo+k,none⟩) CE.out.1).trans CE.out.2
       have mz:¬(m:Int)=0:=zBY
       have hz:¬(h:Int)=0:=zBY
       refine mX (C:=fun w'=>∃u:mH wr,w'=u.w) 17 [([0,1,2,3,4,5,6,7,8,9,10,11,12,13,14,15],16,false)] [] [18,19,20,21,22] zBM zBM ?_ ?_ ⟨⟨wr.drew,(zB _ _).drew⟩,rfl⟩ ?_
       ·exact fun _ _ d _ _ h=>by cases d<;>exact h
       ·rintro _ w' ⟨u,rfl⟩ hg
        exact⟨⟨w',u.below.trans (hg.mono u.below.size)⟩,rfl⟩
       intro wd hwd
       have bd:=zW (show Below wr.heap.size wr wd by rw[hwd];exact(zB _ _).drew)
       clear hwd
       refine vW zBN zBG ?_
       repeat(go_big_quiet_step (rfl))
       refine zM ?_
       refine vV rfl ?_
       intro w5 g5 Cw5 K hK
       refine mF (g:=215) (caps:=#[]) (args:=#[.slice A2 j cA,.int .i64 16,.int .i64 ((x:Int)%(m:Int)),.int .i64 ((y:Int)%(h:Int)),.bool hi,.bool clip]) (.func 215) #[.tmp 95,.tmp 96,.tmp 99,.tmp 102,.tmp 104,.tmp 105] #[25,3,3,3,4,4] rfl (enters_of Tryz.func215 zBM rfl) rfl zBR ?_
       refine(rsN (c:=16) (x:=x%m) (y:=y%h) NN.out RR.out (R16.out.step (by obtain⟨u5,rfl⟩:=Cw5;exact u5.below)) LE.out LL.out j16 zBY (kC _ zBY) (kC _ zBY) rfl zBY zBY SPE.out).mono ?_
       rintro e w5' ⟨g1,rfl,hg1,hP1,b1⟩
       obtain⟨u5,rfl⟩:=Cw5
       have P1:=zW hP1
       refine⟨_,rfl,?_⟩
       refine hK _ _ ⟨⟨w5',u5.below.trans (b1.mono u5.below.size)⟩,rfl⟩ ?_
       clear hK K hg1 hP1 b1 g5 R16 LE LL SPE
       simp only[Act.put,zQ,zZ,zJ]
       refine mE zBN zBG ?_
       repeat(go_big_quiet_step (rfl))
       refine zM ?_
       refine mC rfl ?_
       intro w7 g7 C7 K hK
       obtain⟨u7,rfl⟩:=C7
       refine mF (g:=214) (caps:=#[]) (args:=#[.slice (some ⟨y0,0,none⟩) N N,.slice (some ⟨g1,0,none⟩) N N]) (.func 214) #[.tmp 94,.tmp 106] #[174,174] rfl (enters_of Tryz.func214 zBM rfl) rfl zBR ?_
       obtain⟨vv,hvv⟩:∃v,gX (fun t=>F k t&&SP t) N=v:=⟨_,rfl⟩
       refine(rdN NN.out (PX.out.step u7.below) (P1.out.step g7) rfl hvv).mono ?_
       rintro e w6 ⟨g2,rfl,hg2,hP2,b2⟩
       have HV2:=zW hvv
       refine⟨_,rfl,?_⟩
       refine hK _ _ ?_
       clear hK K hvv
       simp only[Act.put,zQ,zZ,zJ]
       simp only[lA,zX,zK,zV]
       repeat(go_big_quiet_step (rfl))
       refine zM ?_
       intro w8 g8
       have P2:=zW (hP2.step g8)
       have B8:=zW ((u7.below.trans (b2.mono u7.below.size)).trans (g8.mono (zD u7.below.size b2.size)))
       have GQ:=zW (show g2≠w.heap.size by have h1:=S0.out.lt;have h2:=u7.below.size;omega)
       have S0:=zW (S0.out.step B8.out)
       have S1:=zW (S1.out.step B8.out)
       have GR:=zW (GR.out.step B8.out)
       have BO:=zW (BO.out.trans (B8.out.mono BO.out.size))
       clear B8 g7 g8 hg2 hP2 b2 u7 u5 P1 PX CE k0 k1 ke mz hz
       have c0:=S0.out.c0
       have c1:=S0.out.c1
       have c2:=S0.out.c2
       go_wp2_with fail
       refine(iB N (some ⟨bb,oo,none⟩) cap gs hi M k g2 _ GR.out.len KL.out GR.out.row).mono ?_
       rintro e wc ⟨A3,cap3,rfl,hrow,b1,hA3⟩
       have FA3:=zW (show∀ad,A3=some ad→w.heap.size≤ad.block from fun ad h=>by have h1:=hA3 ad h;have:=S0.out.lt;omega)
       have GR:=zW ((GR.out.step b1).set KL.out hrow (P2.out.step b1) (fun ad h=>by have h1:=hA3 ad h;have:=S0.out.lt;omega) GQ.out)
       have S0:=zW (S0.out.step b1)
       have S1:=zW (S1.out.step b1)
       have BO:=zW (BO.out.trans (b1.mono BO.out.size))
       clear b1 hrow hA3 c0 c1 c2
       have c0:=S0.out.c0
       have c1:=S0.out.c1
       have c2:=S0.out.c2
       have q0:=S0.out.fz 0
       have q1:=S0.out.fz 1
       have q2:=S0.out.fz 2
       cases b
       all_goals
        go_wp2
        go_roundw
        case rel=>
         refine⟨k+1,f+pr,_,A3,cap3,gs.set k g2,⟨by omega,.inr FA3.out⟩,rfl,by go_num,by go_num,?_,?_,S0.out.put3,((S1.out.other zBY _ _).other zBY _ _).other zBY _ _,(((GR.out.put _ _).put _ _).put _ _).congr fun j hj=>?_,((BO.out.setCell (p:=⟨w.heap.size,0,none⟩) (zH _) _).setCell (p:=⟨w.heap.size,1,none⟩) (zH _) _).setCell (p:=⟨w.heap.size,2,none⟩) (zH _) _⟩
         ·rw[ZL M n _ k HV.out,HP.out,HF.out]
         ·rw[hiK,zG HV.out,HS.out,HV2.out,←HB.out];rfl
         ·unfold drK
          by_cases e:j=k
          ·subst e;rw[zG rfl,zG ⟨by omega,HV.out⟩,HS.out]
          ·rw[zL e]
           by_cases e2:j<k∧onB M j=true
           ·rw[zG e2,zG ⟨by omega,e2.2⟩]
           ·rw[zL e2,zL (fun h=>e2 ⟨by omega,h.2⟩)]
        case measure=>simp[intOf];omega
  ·have k4:k=4:=zBY
   subst k4
   have c0:=S0.out.c0
   have c1:=S0.out.c1
   have c2:=S0.out.c2
   have d0:=S1.out.c0
   have d1:=S1.out.c1
   have d2:=S1.out.c2
   have q0:=S1.out.fz 0
   have q1:=S1.out.fz 1
   have q2:=S1.out.fz 2
   have RQ:=zW (GR.out.far S1.out)
   go_wp2_with fail
   have q3:=S1.out.put3 (v':=.slice A 4 cap) (hi':=hi) (M':=(M:Int))
   refine zT (tY rfl _ _ (w.heap.size+1) _ _ _ _ (.bool b) rfl rfl q3 Tryz.underlying41 rfl zTQ) rfl ?_
   have R3:=(((RQ.out.put 0 (.slice A 4 cap)).put 1 (.bool hi)).put 2 (.int .i64 (M:Int)))
   refine⟨A,cap,gs,by rw[HB.out],R3.len,R3.row,R3.px,?_,FH.out⟩
   exact((BO.out.setCell (p:=⟨w.heap.size+1,0,none⟩) (qC _) _).setCell (p:=⟨w.heap.size+1,1,none⟩) (qC _) _).setCell (p:=⟨w.heap.size+1,2,none⟩) (qC _) _
end
end Go.Proofs.YtcjldabaekbdlaaGreatDoor
