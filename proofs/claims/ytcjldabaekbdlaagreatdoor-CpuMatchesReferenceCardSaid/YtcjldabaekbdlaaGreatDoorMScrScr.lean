/- ScrScr. -/
import Derived.Test.YtcjldabaekbdlaaGreatDoorMk2a
set_option maxRecDepth 400000
set_option maxHeartbeats 64000000
set_option linter.unusedVariables false
set_option linter.unusedSimpArgs false
namespace Go.Proofs.YtcjldabaekbdlaaGreatDoor
section
open Go.RowKit Num
theorem fY(N:Nat)(hN:N=8192)(A0:Option Addr)(cap:Nat)(gs:List Nat)(F:Nat→Nat→Bool)(hi:Bool)(m h:Nat)(hr:Res hi m h)(M:Nat)(dx dy:Int)(d0: -1000≤dx)(d1:dx≤1000)(e0: -1000≤dy)(e1:dy≤1000)(w:World)(hM:M≤10000)(H:tB N w.heap.size A0 gs F w):
  Calls Tryz.prog 158 #[.agg #[.slice A0 4 cap,.bool hi,.int .i64 (M:Int)],.int .i64 dx,.int .i64 dy] w (zQ4 N A0 hi M (fun i=>if onB M i then rW (F i) dx dy m h else F i) w):=by
 have NN:=zW hN;have HH:=zW H;have DD:=zW (zY hr (zY d0 (zY d1 (zY e0 e1))));clear hN H hr d0 d1 e0 e1;go_enter Tryz.func158,Tryz.ntmps158;go_wp2;have S0:=zW ((vS.new w (.slice A0 4 cap) hi M).alloc (.cells #[.slice none 0 0,.bool false,.int .i64 0] 41));have B0:=zW (((zB _ w).alloc (zH _) (.cells #[.slice A0 4 cap,.bool hi,.int .i64 (M:Int)] 41)).alloc zBT (.cells #[.slice none 0 0,.bool false,.int .i64 0] 41));have S1:=zW (vS.new (w.alloc (.cells #[.slice A0 4 cap,.bool hi,.int .i64 (M:Int)] 41)) (.slice none 0 0) false 0);rw[show(w.alloc (.cells #[.slice A0 4 cap,.bool hi,.int .i64 (M:Int)] 41)).heap.size=w.heap.size+1 by simp]at S1;have R0:=zW (HH.out.step B0.out);generalize (w.alloc (.cells #[.slice A0 4 cap,.bool hi,.int .i64 (M:Int)] 41)).alloc (.cells #[.slice none 0 0,.bool false,.int .i64 0] 41)=w2 at*;go_loopw [7] (fun t wr=>∃(k:Nat) (A:Option Addr) (cap:Nat) (gs:List Nat),(k≤4∧FA A0 A w.heap.size)∧t=.int .i64 (k:Int)∧vS w.heap.size (.slice A 4 cap) hi M wr∧vS (w.heap.size+1) (.slice none 0 0) false 0 wr∧tB N w.heap.size A gs (fun i=>if i<k∧onB M i=true then rW (F i) dx dy m h else F i) wr∧Below w.heap.size w wr) (fun t _=>4-(intOf t).toNat)
 case atStart=>exact⟨0,A0,cap,gs,⟨by omega,.inl rfl⟩,rfl,S0.out,S1.out,R0.out.congr fun i _=>by rw[zL zBY],B0.out⟩
 case round=>
  clear S0 S1 B0 R0 HH
  obtain⟨k,A,cap,gs,⟨hk,hFA⟩,rfl,h0,h1,hR,hb⟩:=hrel
  have FH:=zW hFA
  clear hFA
  have Q:=zW (zY h0 (zY h1 (zY hR hb)))
  clear h0 h1 hR hb
  by_cases hlt:k<4
  ·have kI:(k:Int)<4:=zBY
   obtain⟨v,hv⟩:∃v,onB M k=v:=⟨_,rfl⟩
   have ON:=zW fun w=>hv▸VE M k w hM zBY
   have HV:=zW hv
   have KL:=zW hlt
   have c2:=Q.out.1.c2
   clear hv
   cases v
   ·go_wp2_with fail
    refine(ON.out _).mono ?_
    rintro e w' ⟨rfl,rfl⟩
    go_wp2
    go_roundw
    case rel=>
     exact⟨k+1,A,cap,gs,⟨by omega,FH.out⟩,by go_num,Q.out.1,Q.out.2.1,Q.out.2.2.1.congr fun j hj=>by
      by_cases e:j=k
      ·subst e;rw[zL zBY,zL (by rw[HV.out];simp)]
      ·by_cases e2:j<k∧onB M j=true
       ·rw[zG e2,zG ⟨by omega,e2.2⟩]
       ·rw[zL e2,zL (fun h=>e2 ⟨by omega,h.2⟩)],Q.out.2.2.2⟩
    case measure=>simp[intOf];omega
   ·go_wp2_with fail
    refine(ON.out _).mono ?_
    rintro e w' ⟨rfl,rfl⟩
    go_wp2_with fail
    have c0:=Q.out.1.c0
    have c1:=Q.out.1.c1
    have PK:=Q.out.2.2.1.px k KL.out
    rw[zL zBY]at PK
    obtain⟨b,o,hA,hbl,hce⟩:=Q.out.2.2.1.row.at_ (k:=k) (by rw[Q.out.2.2.1.len];exact KL.out)
    have hge:gs[k]'(by rw[Q.out.2.2.1.len];exact KL.out)=gs.getD k 0:=by simp[show k<gs.length by rw[Q.out.2.2.1.len];exact KL.out]
    rw[hge]at hce
    obtain⟨y,hy⟩:∃y,gs.getD k 0=y:=⟨_,rfl⟩
    rw[hy]at hce PK
    change wr.cell? ⟨b,o+k,none⟩=some (.slice (some ⟨y,0,none⟩) N N)at hce
    obtain rfl:=hA
    have QD:=zW (show vS w.heap.size (.slice (some ⟨b,o,none⟩) 4 cap) hi M wr.drew∧vS (w.heap.size+1) (.slice none 0 0) false 0 wr.drew∧tB N w.heap.size (some ⟨b,o,none⟩) gs (fun i=>if i<k∧onB M i=true then rW (F i) dx dy m h else F i) wr.drew∧Below w.heap.size w wr.drew∧Pxs y (F k) wr.drew from⟨Q.out.1,Q.out.2.1,Q.out.2.2.1.step (zB _ _).drew,Q.out.2.2.2.drew,PK.step (zB _ _).drew⟩)
    clear Q PK hge hy
    go_region_with ((first
     |(go_at_call 217;refine(rscN NN.out DD.out.1 QD.out.2.2.2.2 DD.out.2.1 DD.out.2.2.1 DD.out.2.2.2.1 DD.out.2.2.2.2 rfl).mono ?_;rintro e wb ⟨g,rfl,hg,hP,b1⟩;have Q1:=zW (zY (QD.out.1.step b1) (zY (QD.out.2.1.step b1) (zY (QD.out.2.2.1.step b1) (zY (QD.out.2.2.2.1.trans (b1.mono QD.out.2.2.2.1.size)) (zY hP (show g≠w.heap.size by have:=QD.out.1.lt;omega))))));clear b1 hg hP c0 c1 c2 hce;have c0:=Q1.out.1.c0;have c1:=Q1.out.1.c1;have c2:=Q1.out.1.c2)
     |(go_at_call 216;refine(iB N (some ⟨b,o,none⟩) cap gs hi M k g _ Q1.out.2.2.1.len KL.out Q1.out.2.2.1.row).mono ?_;rintro e wc ⟨A3,cap3,rfl,hrow,b1,hA3⟩;have Q2:=zW (zY (Q1.out.1.step b1) (zY (Q1.out.2.1.step b1) (zY ((Q1.out.2.2.1.step b1).set KL.out hrow (Q1.out.2.2.2.2.1.step b1) (fun ad h=>by have h1:=hA3 ad h;have:=Q1.out.1.lt;omega) Q1.out.2.2.2.2.2) (Q1.out.2.2.2.1.trans (b1.mono Q1.out.2.2.2.1.size)))));have FA3:=zW (show∀ad,A3=some ad→w.heap.size≤ad.block from fun ad h=>by have h1:=hA3 ad h;have:=Q1.out.1.lt;omega);clear b1 hrow hA3 c0 c1 c2;have c0:=Q2.out.1.c0;have c1:=Q2.out.1.c1;have c2:=Q2.out.1.c2;have f0:=Q2.out.1.fz 0;have f1:=Q2.out.1.fz 1;have f2:=Q2.out.1.fz 2)))
    all_goals
     go_wp2
     go_roundw
     case rel=>
      refine⟨k+1,A3,cap3,gs.set k g,⟨by omega,.inr FA3.out⟩,by go_num,Q2.out.1.put3,((Q2.out.2.1.other zBY _ _).other zBY _ _).other zBY _ _,(((Q2.out.2.2.1.put _ _).put _ _).put _ _).congr fun j hj=>?_,((Q2.out.2.2.2.setCell (p:=⟨w.heap.size,0,none⟩) (zH _) _).setCell (p:=⟨w.heap.size,1,none⟩) (zH _) _).setCell (p:=⟨w.heap.size,2,none⟩) (zH _) _⟩
      by_cases e:j=k
      ·subst e;rw[zG rfl,zG ⟨by omega,HV.out⟩]
      ·rw[zL e]
       by_cases e2:j<k∧onB M j=true
       ·rw[zG e2,zG ⟨by omega,e2.2⟩]
       ·rw[zL e2,zL (fun h=>e2 ⟨by omega,h.2⟩)]
     case measure=>simp[intOf];omega
  ·obtain rfl:k=4:=by omega
   have c0:=Q.out.1.c0
   have c1:=Q.out.1.c1
   have c2:=Q.out.1.c2
   have d0:=Q.out.2.1.c0
   have d1:=Q.out.2.1.c1
   have d2:=Q.out.2.1.c2
   have f0:=Q.out.2.1.fz 0
   have f1:=Q.out.2.1.fz 1
   have f2:=Q.out.2.1.fz 2
   have RQ:=zW (Q.out.2.2.1.far Q.out.2.1)
   go_wp2_with fail
   have q3:=Q.out.2.1.put3 (v':=.slice A 4 cap) (hi':=hi) (M':=(M:Int))
   refine zT (zF rfl _ _ (w.heap.size+1) _ _ _ _ rfl q3 Tryz.underlying41 rfl zTQ) rfl ?_
   have R3:=(((RQ.out.put 0 (.slice A 4 cap)).put 1 (.bool hi)).put 2 (.int .i64 (M:Int))).congr (F':=fun i=>if onB M i then rW (F i) dx dy m h else F i) fun i hi=>by
    by_cases e:onB M i=true
    ·rw[zG ⟨hi,e⟩,zG e]
    ·rw[zL (fun h=>e h.2),zL e]
   refine⟨A,cap,gs,rfl,R3.len,R3.row,R3.px,?_,FH.out⟩
   exact((Q.out.2.2.2.setCell (p:=⟨w.heap.size+1,0,none⟩) (qC _) _).setCell (p:=⟨w.heap.size+1,1,none⟩) (qC _) _).setCell (p:=⟨w.heap.size+1,2,none⟩) (qC _) _
end
end Go.Proofs.YtcjldabaekbdlaaGreatDoor
