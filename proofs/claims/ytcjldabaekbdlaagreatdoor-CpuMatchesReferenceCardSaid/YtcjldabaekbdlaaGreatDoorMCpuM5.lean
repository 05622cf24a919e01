/- CpuM5. -/
import Derived.Test.YtcjldabaekbdlaaGreatDoorMCpuM4
set_option maxRecDepth 400000
set_option maxHeartbeats 64000000
set_option linter.unusedVariables false
set_option linter.unusedSimpArgs false
namespace Go.Proofs.YtcjldabaekbdlaaGreatDoor
section
open Go.RowKit Num Dec Cpu
theorem H0(w:World)(x:Int){base:Nat}(hb:base≤w.heap.size):(w.alloc (.cells #[.int .i64 x] 3)).ownsRow base 3 1 (.slice (some ⟨w.heap.size,0,none⟩) 1 1) 1 [.int .i64 x]:=
 ⟨by simp,.inr ⟨w.heap.size,1,#[.int .i64 x],rfl,hb,jN w _,by omega,by unfold maxLen;omega,by simp,by simp⟩⟩
theorem PM{x y:Nat}(hx:x<256)(hy:y<256):bits .and .u8 (x:Int) (y:Int)=((x&&&y:Nat):Int):=(bits_nat .u8 8 zBH (fun n h0 h1=>by rw[j9];omega) x y hx hy).1
theorem ldN_nx{v:Nat→Nat}{L:List Int}{B:Nat→Nat}{j r:Nat}(h:L[j]?=some (r:Int)):Cpu.upd (ldN v L B j) r (B j)=ldN v L B (j+1):=by
 show _=Cpu.upd (ldN v L B j) (L.getD j 0).toNat (B j);rw[qJ,h];simp
theorem zZR{α:Type}{enc:α→Value}{w w':World}{A:Option Addr}{L:List α}{O:Nat→Prop}(h:Row enc w A L)(k:xN O w w')(hn:∀ad,A=some ad→¬O ad.block):Row enc w' A L:=fun hne=>by
 obtain⟨b,o,e,hb,hc⟩:=h hne;exact⟨b,o,e,zS hb k.size,fun j hj=>(qM (k.block b hb (hn _ e))).trans (hc j hj)⟩
structure RWc(b rb g nn:Nat) where
 w:World
 h0:w.cell? ⟨rb,0,none⟩=some (.pointer (some ⟨b,0,none⟩))
 h5:w.cell? ⟨rb,5,none⟩=some (.int .i64 (nn:Int))
 h6:w.cell? ⟨b,601,none⟩=some (.pointer (some ⟨g,0,none⟩))
theorem wD{base lg b m g rb:Nat}{v:Value}{a:AS}{op:Int}{x y n nn:Nat}{ad ln:Int}{q:Pr}{pc:Int}{f:Ef}{w:World}(X:XR base lg b m g rb v a ⟨op,x,y,n,nn,ad,ln⟩ q pc f w):
  w.cell? ⟨rb,0,none⟩=some (.pointer (some ⟨b,0,none⟩))∧w.cell? ⟨rb,5,none⟩=some (.int .i64 (nn:Int))∧w.cell? ⟨b,601,none⟩=some (.pointer (some ⟨g,0,none⟩)):=
 ⟨(X.r.cell 0).trans rfl,(X.r.cell 5).trans rfl,(X.rc.st.cell 601).trans (nJ _ m g zBY)⟩
theorem zHS{base lg b m g rb:Nat}{v v1:Value}{i:Ins}{q:Pr}{w w1 w2:World}{a:AS}{pc:Int}{f:Ef}(D:DD base lg b m g rb v v1 i q w a pc f w1)(hs:St base g a.L (a.rd+1) w2)(ha:nC g none w1 w2):DD base lg b m g rb v v1 i q w {a with rd:=a.rd+1} pc f w2:=by
 have kk:xN (fun k=>k=g∨some k=none) w1 w2:=xN.of_apart ha;have no:∀p,p<w1.heap.size→p≠g→w2.heap[p]?=w1.heap[p]?:=fun p h1 h2=>kk.block p h1 (fun c=>c.elim h2 (fun c=>by cases c));obtain⟨n1,n2,n3,n4,n5,n6⟩:=D.x.rc.ne;refine D.to ⟨⟨(no b D.x.rc.st.lt n2).trans D.x.rc.st,(no m D.x.rc.mem.lt n3).trans D.x.rc.mem,?_,hs,D.x.rc.res,D.x.rc.bb,D.x.rc.bm⟩,(no rb D.x.r.lt (fun e=>D.x.off (.inr (.inr (.inl e))))).trans D.x.r⟩ (kk.mono fun k _ c=>c.elim (fun c=> .inl (.inr (.inr (.inl c)))) (fun c=>by cases c));obtain⟨n,xs,o,r⟩:=D.x.rc.log;exact⟨n,xs,tA o kk (fun k ek c=>c.elim (fun c=>n6 (c▸ek)) (fun c=>by cases c)),r⟩
theorem iS{x y:Nat}(hx:x<16)(hy:y<16):vD x y≤16:=by unfold vD;split<;>omega
theorem JU(L:List Int)(j:Nat)(z:Int)(h:L[j]?=some z):L.take (j+1)=L.take j++[z]:=by
 rw[List.take_add_one,h];rfl
section
variable {base lg b m g rb:Nat} {v:Value} {a:AS} {op:Int} {x y n nn:Nat} {ad ln:Int} {q:Pr} {pc:Int} {f:Ef} {w:World}
theorem WN(X:XR base lg b m g rb v a ⟨op,x,y,n,nn,ad,ln⟩ q pc f w)(hx:x<16)(hy:y<16)(h:x≤y):Calls Tryz.prog 199 #[.pointer (some ⟨rb,0,none⟩)] w fun e w'=>∃A c,e=.returned (.slice A (y-x+1) c)∧w'.ownsRow w.heap.size 3 1 (.slice A (y-x+1) c) (y-x+1) ((upL x (y-x+1)).map (Value.int .i64))∧Below w.heap.size w w':=by
 have r0:=X.rk 0 (.pointer (some ⟨b,0,none⟩)) rfl;have r2:=X.rk 2 (.int .i64 (x:Int)) rfl;have r3:=X.rk 3 (.int .i64 (y:Int)) rfl;have RX:=zW (fun w=>xW x hx w);have RY:=zW (fun w=>xW y hy w);have HX:=zW (zY hx (zY hy h));obtain⟨m,hm⟩:∃m,y-x+1=m:=⟨_,rfl⟩;rw[hm];have HM:=zW hm;clear X hx hy h hm;go_enter Tryz.func199,Tryz.ntmps199;go_upto_region 1 with fail;refine m8 zBM zBM ?_;iterate 5 (go_big_quiet_step (fail))
 go_big_quiet_step ((go_at_call 196;exact yV (RX.out _)))
 iterate 5 (go_big_quiet_step (fail))
 go_big_quiet_step ((go_at_call 196;exact yV (RY.out _)))
 iterate 2 (go_big_quiet_step (fail))
 refine zM ?_;intro _ hw';obtain⟨x',rfl⟩:=hw';have b1:=x'.below;generalize x'.w=w1 at*;have B1:=zW b1;clear b1 r0 r2 r3;go_upto_region 2 with fail;refine zN ?_;have O2:=zW (H0 w1 (x:Int) B1.out.size);have B2:=zW (B1.out.trans ((mJ w1 (.cells #[.int .i64 (x:Int)] 3)).mono B1.out.size));iterate 6 go_step
 try simp only[]
 obtain⟨bq,hbq⟩:∃bq,w1.heap.size=bq:=⟨_,rfl⟩;rw[hbq]at O2⊢;clear hbq;generalize World.alloc w1 _=w2 at O2 B2⊢;go_wp2_with fail;go_loopw [3,5] (fun v3 v5 wr=>∃k:Nat,k<m∧v3=.int .i64 ((x:Int)+(k:Int))∧wr.ownsRow w.heap.size 3 1 v5 (k+1) ((upL x (k+1)).map (Value.int .i64))∧Below w.heap.size w wr) (fun v3 _ _=>m+x-(intOf v3).toNat)
 case atStart=>exact⟨0,by have:=HM.out;omega,by simp,by simpa [upL]using O2.out,B2.out⟩
 case round=>
  obtain⟨k,hk,rfl,ho,hb⟩:=hrel
  have HO:=zW ho
  have HB:=zW hb
  clear ho hb O2 B2
  by_cases hlt:k+1<m
  ·have HK:=zW hlt
   have hne:((x:Int)+(k:Int) !=(y:Int))=true:=by simp;have:=HM.out;have:=HX.out;omega
   have hl:(x:Int)+(k:Int)<(y:Int):=by have:=HM.out;have:=HX.out;omega
   have hb1:(x:Int)+(k:Int)≤100:=by have:=HM.out;have:=HX.out;omega
   have hb0:0≤(x:Int)+(k:Int):=by have:=HM.out;have:=HX.out;omega
   obtain⟨A,c,rfl⟩:=vQ HO.out
   clear hk hlt
   obtain⟨z,hz⟩:∃z:Int,(x:Int)+(k:Int)=z:=⟨_,rfl⟩
   have HZ:=zW hz
   rw[hz]at hne hl hb1 hb0⊢
   clear hz
   obtain⟨z2,hz2⟩:∃z2:Int,z+1=z2:=⟨_,rfl⟩
   have wz:IntKind.i64.wrap (z+1)=z2:=by rw[zU];omega
   have HZ2:=zW hz2
   clear hz2
   go_upto_region 7 with fail
   refine zN ?_
   have R1:=zW (gB (Value.int .i64) wr z2 3)
   have B1:=zW (HB.out.alloc HB.out.size (.cells #[.int .i64 z2] 3))
   have O1:=zW (HO.out.alloc (.cells #[.int .i64 z2] 3))
   iterate 9 go_step
   refine vX dW dJ rfl (.tmp 30) (.tmp 32) rfl w.heap.size _ (k+1) (upL x (k+1)) rfl O1.out (some ⟨wr.heap.size,0,none⟩) 1 1 [z2] rfl R1.out rfl zRD zBH B1.out.size ?_
   intro v2 w2 o2 g2
   have B2:=zW (B1.out.grown g2 B1.out.size fun j ej=>(O1.out.lt j ej).1)
   have O2:=zW o2
   clear o2 g2 O1 B1 R1 HO HB
   simp only[Act.put,zQ,zZ,zJ]
   go_wp2_with fail
   exact⟨⟨k+1,HK.out,by have:=HZ.out;have:=HZ2.out;congr 1;omega,by rw[W4 x (k+1),show(x:Int)+((k+1:Nat):Int)=z2 by have:=HZ.out;have:=HZ2.out;omega];exact O2.out,B2.out⟩,by have:=HK.out;have:=HZ.out;have:=HZ2.out;have:=HM.out;have:=HX.out;simp[intOf];omega⟩
  ·obtain rfl:m=k+1:=by omega
   have hne:((x:Int)+(k:Int) !=(y:Int))=false:=by simp;have:=HM.out;have:=HX.out;omega
   obtain⟨A,c,rfl⟩:=vQ HO.out
   clear hk hlt
   go_wp2_with fail
   go_ret
   exact⟨A,c,rfl,HO.out,HB.out⟩
theorem WH(X:XR base lg b m g rb v a ⟨op,x,y,n,nn,ad,ln⟩ q pc f w)(hx:x<16)(hy:y<16)(h:y<x):Calls Tryz.prog 199 #[.pointer (some ⟨rb,0,none⟩)] w fun e w'=>∃A c,e=.returned (.slice A (x-y+1) c)∧w'.ownsRow w.heap.size 3 1 (.slice A (x-y+1) c) (x-y+1) ((dnL x (x-y+1)).map (Value.int .i64))∧Below w.heap.size w w':=by
 have r0:=X.rk 0 (.pointer (some ⟨b,0,none⟩)) rfl;have r2:=X.rk 2 (.int .i64 (x:Int)) rfl;have r3:=X.rk 3 (.int .i64 (y:Int)) rfl;have RX:=zW (fun w=>xW x hx w);have RY:=zW (fun w=>xW y hy w);have HX:=zW (zY hx (zY hy h));obtain⟨m,hm⟩:∃m,x-y+1=m:=⟨_,rfl⟩;rw[hm];have HM:=zW hm;clear X hx hy h hm;go_enter Tryz.func199,Tryz.ntmps199;go_upto_region 1 with fail;refine m8 zBM zBM ?_;iterate 5 (go_big_quiet_step (fail))
 go_big_quiet_step ((go_at_call 196;exact yV (RX.out _)))
 iterate 5 (go_big_quiet_step (fail))
 go_big_quiet_step ((go_at_call 196;exact yV (RY.out _)))
 iterate 2 (go_big_quiet_step (fail))
 refine zM ?_;intro _ hw';obtain⟨x',rfl⟩:=hw';have b1:=x'.below;generalize x'.w=w1 at*;have B1:=zW b1;clear b1 r0 r2 r3;go_upto_region 2 with fail;refine zN ?_;have O2:=zW (H0 w1 (x:Int) B1.out.size);have B2:=zW (B1.out.trans ((mJ w1 (.cells #[.int .i64 (x:Int)] 3)).mono B1.out.size));iterate 6 go_step
 try simp only[]
 obtain⟨bq,hbq⟩:∃bq,w1.heap.size=bq:=⟨_,rfl⟩;rw[hbq]at O2⊢;clear hbq;generalize World.alloc w1 _=w2 at O2 B2⊢;go_wp2_with fail;go_loopw [3,5] (fun v3 v5 wr=>∃k:Nat,k<m∧v3=.int .i64 ((x:Int)-(k:Int))∧wr.ownsRow w.heap.size 3 1 v5 (k+1) ((dnL x (k+1)).map (Value.int .i64))∧Below w.heap.size w wr) (fun v3 _ _=>(intOf v3+1).toNat)
 case atStart=>exact⟨0,by have:=HM.out;omega,by simp,by simpa [dnL]using O2.out,B2.out⟩
 case round=>
  obtain⟨k,hk,rfl,ho,hb⟩:=hrel
  have HO:=zW ho
  have HB:=zW hb
  clear ho hb O2 B2
  by_cases hlt:k+1<m
  ·have HK:=zW hlt
   have hne:((x:Int)-(k:Int) !=(y:Int))=true:=by simp;have:=HM.out;have:=HX.out;omega
   have hl:¬(x:Int)-(k:Int)<(y:Int):=by have:=HM.out;have:=HX.out;omega
   have hb1:(x:Int)-(k:Int)≤100:=by have:=HM.out;have:=HX.out;omega
   have hb0:1≤(x:Int)-(k:Int):=by have:=HM.out;have:=HX.out;omega
   obtain⟨A,c,rfl⟩:=vQ HO.out
   clear hk hlt
   obtain⟨z,hz⟩:∃z:Int,(x:Int)-(k:Int)=z:=⟨_,rfl⟩
   have HZ:=zW hz
   rw[hz]at hne hl hb1 hb0⊢
   clear hz
   obtain⟨z2,hz2⟩:∃z2:Int,z-1=z2:=⟨_,rfl⟩
   have wz:IntKind.i64.wrap (z-1)=z2:=by rw[zU];omega
   have HZ2:=zW hz2
   clear hz2
   go_upto_region 7 with fail
   refine zN ?_
   have R1:=zW (gB (Value.int .i64) wr z2 3)
   have B1:=zW (HB.out.alloc HB.out.size (.cells #[.int .i64 z2] 3))
   have O1:=zW (HO.out.alloc (.cells #[.int .i64 z2] 3))
   iterate 9 go_step
   refine vX dW dJ rfl (.tmp 30) (.tmp 32) rfl w.heap.size _ (k+1) (dnL x (k+1)) rfl O1.out (some ⟨wr.heap.size,0,none⟩) 1 1 [z2] rfl R1.out rfl zRD zBH B1.out.size ?_
   intro v2 w2 o2 g2
   have B2:=zW (B1.out.grown g2 B1.out.size fun j ej=>(O1.out.lt j ej).1)
   have O2:=zW o2
   clear o2 g2 O1 B1 R1 HO HB
   simp only[Act.put,zQ,zZ,zJ]
   go_wp2_with fail
   exact⟨⟨k+1,HK.out,by have:=HZ.out;have:=HZ2.out;congr 1;omega,by rw[EJ x (k+1),show(x:Int)-((k+1:Nat):Int)=z2 by have:=HZ.out;have:=HZ2.out;omega];exact O2.out,B2.out⟩,by have:=HK.out;have:=HZ.out;have:=HZ2.out;have:=HM.out;have:=HX.out;simp[intOf];omega⟩
  ·obtain rfl:m=k+1:=by omega
   have hne:((x:Int)-(k:Int) !=(y:Int))=false:=by simp;have:=HM.out;have:=HX.out;omega
   obtain⟨A,c,rfl⟩:=vQ HO.out
   clear hk hlt
   go_wp2_with fail
   go_ret
   exact⟨A,c,rfl,HO.out,HB.out⟩
theorem aV(X:XR base lg b m g rb v a ⟨op,x,y,n,nn,ad,ln⟩ q pc f w)(hx:x<16)(hy:y<16):Calls Tryz.prog 199 #[.pointer (some ⟨rb,0,none⟩)] w fun e w'=>∃A c,e=.returned (.slice A (vD x y) c)∧w'.ownsRow w.heap.size 3 1 (.slice A (vD x y) c) (vD x y) ((uM x y).map (Value.int .i64))∧Below w.heap.size w w':=by
 unfold vD uM;by_cases h:x≤y
 ·rw[zG h,zG h];exact WN X hx hy h
 ·rw[zL h,zL h];exact WH X hx hy zBY
theorem YC(X:XR base lg b m g rb v a ⟨op,x,y,n,nn,ad,ln⟩ q pc f w)(O:OkA a)(hx:x<16)(hy:y<16)(hb:base≤w.heap.size)(hg:lg≤950)(hc:chk a.i (vD x y:Nat) q.fa=0):Calls Tryz.prog 132 #[.pointer (some ⟨rb,0,none⟩)] w (Did base (lg+1) b m g rb v ⟨op,x,y,n,nn,ad,ln⟩ q w ({a with M:=put a.M a.i ((uM x y).map fun r=>(a.v r.toNat:Int))}) (pc) (f)):=by
 have XX:=zW X;have BT:=zW (aV X hx hy);have HX:=zW (zY hx hy);have RL:=zW (gU x y);have RA:=zW (fun k (h:k<vD x y)=>fN x y k zBY zBY h);have n1:=iS hx hy;have n0:0<vD x y:=by unfold vD;split<;>omega
 generalize vD x y=k at*;generalize uM x y=L at*;have OO:=zW O;have HH:=zW (zY hb (zY hg (zY hc (zY n0 n1))));have D:=zW (DD.refl XX.out);clear X O hx hy hb hg hc n0;go_enter Tryz.func132,Tryz.ntmps132;go_wp2_with fail;refine BT.out.mono ?_;rintro e w1 ⟨A,c,rfl,ho,b1⟩;have RO:=zW (Row.of_own ho);have XX:=zW (XX.out.step b1);have B1:=zW b1;clear ho b1 BT;go_wp2_with fail;have ki:(k:Int)≤16:=zBY;obtain⟨LV,hLV⟩:∃LV,(L.map fun r=>(a.v r.toNat:Int))=LV:=⟨_,rfl⟩;have VL:=zW (show LV.length=k by rw[←hLV,jQ,RL.out]);have VA:=zW (fun j (r:Nat) (h:L[j]?=some (r:Int))=>(show LV[j]?=some (a.v r:Int) by rw[←hLV,jK,h];simp));have ME:=zW hLV;clear hLV;go_loopw [2,8] (fun v2 v8 wr=>∃j:Nat,j≤k∧v8=.int .i64 (j:Int)∧wr.ownsRow w1.heap.size 5 1 v2 j ((LV.take j).map (Value.int .u8))∧Below w1.heap.size w1 wr) (fun _ v8 _=>k-(intOf v8).toNat)
 case atStart=>exact⟨0,qE _,rfl,qO _ _ _ _,zB _ _⟩
 case round=>
  obtain⟨j,hj,rfl,ho,hb⟩:=hrel
  have HO:=zW ho
  have HB:=zW hb
  have XW:=zW (XX.out.step hb)
  have RR:=zW (RO.out.below hb)
  clear ho hb
  obtain⟨A2,c2,rfl⟩:=vQ HO.out
  by_cases hlt:j<k
  ·obtain⟨r,r16,hr⟩:=RA.out j hlt
   obtain⟨bl,bo,hA,hbl,hcl⟩:=RR.out.at_ (k:=j) (by rw[RL.out];exact hlt)
   replace hcl:wr.cell? ⟨bl,bo+j,none⟩=some (.int .i64 (r:Int)):=by rw[hcl];congr 2;exact qU ((zP _).symm.trans hr)
   subst hA
   have hji:(j:Int)<(k:Int):=zBY
   have r16i:(r:Int)<16:=zBY
   have KJ:=zW (zY hlt (zY hr r16))
   clear hlt hr hj
   go_upto_region 4 with fail
   clear hcl
   have r0:wr.cell? ⟨rb,0,none⟩=some (.pointer (some ⟨b,0,none⟩)):=(XW.out.r.cell 0).trans rfl
   have sv:=XW.out.vc r16
   clear r16
   refine zN ?_
   have R1:=zW (gB (Value.int .u8) wr (a.v r:Int) 5)
   have H1:=zW (HB.out.alloc HB.out.size (.cells #[.int .u8 (a.v r:Int)] 5))
   have O1:=zW (HO.out.alloc (.cells #[.int .u8 (a.v r:Int)] 5))
   iterate 33 go_step
   refine vX oZ VP rfl (.tmp 12) (.tmp 22) rfl w1.heap.size _ j (LV.take j) rfl O1.out (some ⟨wr.heap.size,0,none⟩) 1 1 [(a.v r:Int)] rfl R1.out rfl (by have:=KJ.out.1;omega) zBH H1.out.size ?_
   intro v6 w6 o6 g6
   have O8:=zW o6
   have B8:=zW (H1.out.grown g6 H1.out.size fun jj ej=>(O1.out.lt jj ej).1)
   clear o6 g6 O1 H1 R1
   simp only[Act.put,zQ,zZ,zJ]
   go_wp2_with fail
   exact⟨⟨j+1,KJ.out.1,by congr 1,by rw[JU LV j (a.v r:Int) (VA.out j r KJ.out.2.1)];exact O8.out,B8.out⟩,by have:=KJ.out.1;simp[intOf];omega⟩
  ·obtain rfl:j=k:=by omega
   clear hlt hj
   have HO:=zW (by have h:=HO.out;rwa [qY (by rw[VL.out];exact zH _)]at h:wr.ownsRow w1.heap.size 5 1 (.slice A2 j c2) j (LV.map (Value.int .u8)))
   have D:=zW (D.out.step (B1.out.trans (HB.out.mono B1.out.size)))
   have WR:=zW (YF D.out.x A2 j c2 LV OO.out (zD HH.out.1 (zD B1.out.size HB.out.size)) HH.out.2.1 HH.out.2.2.2.1 (by have:=HH.out.2.2.2.2;omega) (tD HO.out) VL.out (wE HO.out) (fun ad e=>by subst e;exact fun c=>vY HO.out D.out.x.rc.mem zBH (by rw[←c];rfl)) HH.out.2.2.1)
   go_wp2_with fail
   refine WR.out.mono ?_
   rintro e w3 ⟨rfl,v3,D3⟩
   have D:=zW (D.out.then D3)
   clear D3
   go_wp2_with fail
   go_end0
   exact⟨rfl,v3,by rw[ME.out];exact D.out⟩
theorem Q8(X:XR base lg b m g rb v a ⟨op,x,y,n,nn,ad,ln⟩ q pc f w)(O:OkA a)(hx:x<16)(hy:y<16)(hc:chk a.i (vD x y:Nat) q.fa≠0):Calls Tryz.prog 132 #[.pointer (some ⟨rb,0,none⟩)] w (Z8 4 w):=by
 have XX:=zW X;have BT:=zW (aV X hx hy);have HX:=zW (zY hx hy);have RL:=zW (gU x y);have RA:=zW (fun k (h:k<vD x y)=>fN x y k zBY zBY h);have n1:=iS hx hy;have n0:0<vD x y:=by unfold vD;split<;>omega
 generalize vD x y=k at*;generalize uM x y=L at*;have OO:=zW O;have HH:=zW (zY hc n1);clear X O hx hy hc n0;go_enter Tryz.func132,Tryz.ntmps132;go_wp2_with fail;refine BT.out.mono ?_;rintro e w1 ⟨A,c,rfl,ho,b1⟩;have RO:=zW (Row.of_own ho);have XX:=zW (XX.out.step b1);have B1:=zW b1;clear ho b1 BT;go_wp2_with fail;have ki:(k:Int)≤16:=zBY;obtain⟨LV,hLV⟩:∃LV,(L.map fun r=>(a.v r.toNat:Int))=LV:=⟨_,rfl⟩;have VL:=zW (show LV.length=k by rw[←hLV,jQ,RL.out]);have VA:=zW (fun j (r:Nat) (h:L[j]?=some (r:Int))=>(show LV[j]?=some (a.v r:Int) by rw[←hLV,jK,h];simp));have ME:=zW hLV;clear hLV;go_loopw [2,8] (fun v2 v8 wr=>∃j:Nat,j≤k∧v8=.int .i64 (j:Int)∧wr.ownsRow w1.heap.size 5 1 v2 j ((LV.take j).map (Value.int .u8))∧Below w1.heap.size w1 wr) (fun _ v8 _=>k-(intOf v8).toNat)
 case atStart=>exact⟨0,qE _,rfl,qO _ _ _ _,zB _ _⟩
 case round=>
  obtain⟨j,hj,rfl,ho,hb⟩:=hrel
  have HO:=zW ho
  have HB:=zW hb
  have XW:=zW (XX.out.step hb)
  have RR:=zW (RO.out.below hb)
  clear ho hb
  obtain⟨A2,c2,rfl⟩:=vQ HO.out
  by_cases hlt:j<k
  ·obtain⟨r,r16,hr⟩:=RA.out j hlt
   obtain⟨bl,bo,hA,hbl,hcl⟩:=RR.out.at_ (k:=j) (by rw[RL.out];exact hlt)
   replace hcl:wr.cell? ⟨bl,bo+j,none⟩=some (.int .i64 (r:Int)):=by rw[hcl];congr 2;exact qU ((zP _).symm.trans hr)
   subst hA
   have hji:(j:Int)<(k:Int):=zBY
   have r16i:(r:Int)<16:=zBY
   have KJ:=zW (zY hlt (zY hr r16))
   clear hlt hr hj
   go_upto_region 4 with fail
   clear hcl
   have r0:wr.cell? ⟨rb,0,none⟩=some (.pointer (some ⟨b,0,none⟩)):=(XW.out.r.cell 0).trans rfl
   have sv:=XW.out.vc r16
   clear r16
   refine zN ?_
   have R1:=zW (gB (Value.int .u8) wr (a.v r:Int) 5)
   have H1:=zW (HB.out.alloc HB.out.size (.cells #[.int .u8 (a.v r:Int)] 5))
   have O1:=zW (HO.out.alloc (.cells #[.int .u8 (a.v r:Int)] 5))
   iterate 33 go_step
   refine vX oZ VP rfl (.tmp 12) (.tmp 22) rfl w1.heap.size _ j (LV.take j) rfl O1.out (some ⟨wr.heap.size,0,none⟩) 1 1 [(a.v r:Int)] rfl R1.out rfl (by have:=KJ.out.1;omega) zBH H1.out.size ?_
   intro v6 w6 o6 g6
   have O8:=zW o6
   have B8:=zW (H1.out.grown g6 H1.out.size fun jj ej=>(O1.out.lt jj ej).1)
   clear o6 g6 O1 H1 R1
   simp only[Act.put,zQ,zZ,zJ]
   go_wp2_with fail
   exact⟨⟨j+1,KJ.out.1,by congr 1,by rw[JU LV j (a.v r:Int) (VA.out j r KJ.out.2.1)];exact O8.out,B8.out⟩,by have:=KJ.out.1;simp[intOf];omega⟩
  ·obtain rfl:j=k:=by omega
   clear hlt hj
   have BB:=zW (B1.out.trans (HB.out.mono B1.out.size))
   have WR:=zW (aF XW.out A2 j c2 OO.out (by have:=HH.out.2;omega) HH.out.1)
   go_wp2_with fail
   refine WR.out.mono ?_
   rintro e w3 ⟨rfl,b3⟩
   exact⟨rfl,rfl,BB.out.trans (b3.mono BB.out.size)⟩
theorem GT(X:XR base lg b m g rb v a ⟨op,x,y,n,nn,ad,ln⟩ q pc f w)(O:OkA a)(hx:x<16)(hy:y<16)(hc:chk a.i (vD x y:Nat) q.fa=0):Calls Tryz.prog 133 #[.pointer (some ⟨rb,0,none⟩)] w (Did base lg b m g rb v ⟨op,x,y,n,nn,ad,ln⟩ q w ({a with v:=ldN a.v (uM x y) (byC a.M a.i) (vD x y)}) (pc) (f)):=by
 have XX:=zW X;have BT:=zW (aV X hx hy);have HX:=zW (zY hx hy);have RL:=zW (gU x y);have RA:=zW (fun k (h:k<vD x y)=>fN x y k zBY zBY h);have n1:=iS hx hy;have n0:0<vD x y:=by unfold vD;split<;>omega
 generalize vD x y=k at*;generalize uM x y=L at*;have OO:=zW O;have HH:=zW hc;have D:=zW (DD.refl XX.out);clear X O hx hy hc n0;go_enter Tryz.func133,Tryz.ntmps133;go_wp2_with fail;refine BT.out.mono ?_;rintro e w1 ⟨A,c,rfl,ho,b1⟩;have AL:=zW (VD ho);have RO:=zW (Row.of_own ho);have D:=zW (D.out.step b1);have B1:=zW b1;clear ho b1 BT;go_wp2_with fail;refine(VN D.out.x k OO.out zBY HH.out).mono ?_;rintro e w2 ⟨gg,rfl,hg,hR,b2⟩;have GL:=zW (zD B1.out.size hg);have RB:=zW hR;have RO:=zW (RO.out.below b2);have D:=zW (D.out.step b2);have BL:=zW XX.out.rc.st.lt;have SB:=zW (Y9 OO.out.B OO.out.M a.i k);clear hg hR b2;go_wp2_with fail;have ki:(k:Int)≤16:=zBY;go_loopw [12] (fun v12 wr=>∃j:Nat,j≤k∧v12=.int .i64 (j:Int)∧DD base lg b m g rb v v ⟨op,x,y,n,nn,ad,ln⟩ q w {a with v:=ldN a.v L (byC a.M a.i) j} pc f wr∧Row (Value.int .i64) wr A L∧Rd wr (some ⟨gg,0,none⟩) (seg a.M a.i k)) (fun v12 _=>k-(intOf v12).toNat)
 case atStart=>exact⟨0,qE _,rfl,D.out,RO.out,RB.out⟩
 case round=>
  obtain⟨j,hj,rfl,hd,hro,hrb⟩:=hrel
  have DJ:=zW hd
  have RJ:=zW hro
  have QJ:=zW hrb
  clear hd hro hrb
  by_cases hlt:j<k
  ·obtain⟨r,r16,hr⟩:=RA.out j hlt
   obtain⟨bl,bo,hA,hbl,hcl⟩:=RJ.out.at_ (k:=j) (by rw[RL.out];exact hlt)
   replace hcl:wr.cell? ⟨bl,bo+j,none⟩=some (.int .i64 (r:Int)):=by rw[hcl];congr 2;exact qU ((zP _).symm.trans hr)
   have ALB:=zW (show w.heap.size≤bl from AL.out _ hA)
   subst hA
   have hcg:wr.cell? ⟨gg,j,none⟩=some (.int .u8 (byC a.M a.i j:Int)):=by
    have hs:j<(seg a.M a.i k).length:=by rw[xU];exact hlt
    obtain⟨ad2,e2,_,h2⟩:=QJ.out (by intro e;rw[e]at hs;cases hs);cases e2
    have h3:=h2 j hs
    rw[yN,qB,SB.out j hs]at h3;exact h3
   have hgl:gg<wr.heap.size:=by
    have hs:j<(seg a.M a.i k).length:=by rw[xU];exact hlt
    obtain⟨ad2,e2,h2,_⟩:=QJ.out (by intro e;rw[e]at hs;cases hs);cases e2
    exact h2
   have hji:(j:Int)<(k:Int):=zBY
   have r16i:(r:Int)<16:=zBY
   have KJ:=zW (zY hlt (zY hr r16))
   have hc1:=mH.cell hcl hbl
   clear hlt hr hj
   go_upto_region 4 with fail
   clear hcl hcg hgl
   have r0:=DJ.out.x.rk 0 (.pointer (some ⟨b,0,none⟩)) rfl
   refine mX (C:=fun w'=>∃u:mH wr,w'=u.w) 12 [] [0,1,2,3,4,5,6,7,8,9,10,11] [] zBM zBM ?_ ?_ ⟨⟨wr.drew,(zB _ _).drew⟩,rfl⟩ ?_
   ·exact fun _ _ d _ _ h=>by cases d<;>exact h
   ·rintro _ w' ⟨u,rfl⟩ hg
    exact⟨⟨w',u.below.trans (hg.mono u.below.size)⟩,rfl⟩
   intro wd hwd
   clear hwd
   refine mE zBN zBG ?_
   iterate 12 (go_big_quiet_step (fail))
   refine zM ?_
   refine mC rfl ?_
   intro w5 g5 C5 K hK
   obtain⟨u5,rfl⟩:=C5
   have D5:=zW (DJ.out.step u5.below)
   have R5:=zW (RJ.out.below u5.below)
   have Q5:=zW (QJ.out.below u5.below)
   have cc:=D5.out.x.vc KJ.out.2.2
   have fc:=D5.out.x.rc.st.frozen r
   go_wp2_with fail
   have D:=zW (D5.out.put (a':={a with v:=ldN a.v L (byC a.M a.i) (j+1)}) r (.int .u8 (byC a.M a.i j:Int)) ((dE _ m g r (byC a.M a.i j) KJ.out.2.2).trans (by rw[ldN_nx KJ.out.2.1])) rfl rfl rfl D5.out.x.rc.res)
   have R6:=zW (zZR R5.out (eV (O:=fun k=>k=b) (w:=u5.w) (p:=b) (k:=r) (x:=.int .u8 (byC a.M a.i j:Int)) rfl) (fun ad e=>by cases e;have h1:w.heap.size≤bl:=ALB.out;have h2:=BL.out;show¬(bl=b);omega))
   have Q6:=zW (Rd.kept Q5.out (eV (O:=fun k=>k=b) (w:=u5.w) (p:=b) (k:=r) (x:=.int .u8 (byC a.M a.i j:Int)) rfl) (fun ad e=>by cases e;have h1:=GL.out;have h2:=BL.out;show¬(gg=b);omega))
   generalize World.setCell u5.w _ _=w7 at D R6 Q6⊢
   clear D5 R5 Q5 cc fc
   try simp only[lA,zX,zK,zV]
   refine zM ?_
   intro w8 g8
   have D:=zW (D.out.step g8)
   have R6:=zW (R6.out.below g8)
   have Q6:=zW (Q6.out.below g8)
   clear g8 g5 hc1
   go_wp2_with fail
   exact⟨⟨j+1,KJ.out.1,by congr 1,D.out,R6.out,Q6.out⟩,by have:=KJ.out.1;simp[intOf];omega⟩
  ·obtain rfl:j=k:=by omega
   clear hlt hj
   go_wp2_with fail
   go_end0
   exact⟨rfl,_,DJ.out⟩
theorem LG(X:XR base lg b m g rb v a ⟨op,x,y,n,nn,ad,ln⟩ q pc f w)(O:OkA a)(hx:x<16)(hy:y<16)(hc:chk a.i (vD x y:Nat) q.fa≠0):Calls Tryz.prog 133 #[.pointer (some ⟨rb,0,none⟩)] w (Z8 4 w):=by
 have XX:=zW X;have BT:=zW (aV X hx hy);have HX:=zW (zY hx hy);have RL:=zW (gU x y);have RA:=zW (fun k (h:k<vD x y)=>fN x y k zBY zBY h);have n1:=iS hx hy;have n0:0<vD x y:=by unfold vD;split<;>omega
 generalize vD x y=k at*;generalize uM x y=L at*;have OO:=zW O;have HH:=zW hc;have D:=zW (DD.refl XX.out);clear X O hx hy hc n0;go_enter Tryz.func133,Tryz.ntmps133;go_wp2_with fail;refine BT.out.mono ?_;rintro e w1 ⟨A,c,rfl,ho,b1⟩;have AL:=zW (VD ho);have RO:=zW (Row.of_own ho);have D:=zW (D.out.step b1);have B1:=zW b1;clear ho b1 BT;go_wp2_with fail;refine(fH D.out.x k OO.out zBY HH.out).mono ?_;rintro e w2 ⟨rfl,b2⟩;exact⟨rfl,rfl,B1.out.trans (b2.mono B1.out.size)⟩
theorem zVV(X:XR base lg b m g rb v a ⟨op,x,y,n,nn,ad,ln⟩ q pc f w)(O:OkA a)(hx:x<16)(hn:nn<256):Calls Tryz.prog 139 #[.pointer (some ⟨rb,0,none⟩)] w (Did base lg b m g rb v ⟨op,x,y,n,nn,ad,ln⟩ q w ({a with v:=Cpu.upd a.v x ((nxt a.L a.rd).toNat&&&nn),rd:=a.rd+1}) (pc) (f)):=by
 obtain⟨bn,hbn,hb1⟩:=LM O.LB a.rd;have hbt:(nxt a.L a.rd).toNat=bn:=by rw[hbn];exact jS bn
 rw[hbt];have NB:=zW hbn;have wn:IntKind.u8.wrap (nn:Int)=(nn:Int):=by rw[j9];omega
 have ba:=PM hb1 hn;have HX:=zW hx;have RD:=zW (show a.rd≤9223372036854775807∧a.L.length≤1000000 from⟨zD O.rd zBH,zD O.L zBH⟩);have D:=zW (DD.refl X);clear X O hn hbn hbt hb1;have k0:∀u:RWc b rb g nn,u.w.cell? ⟨rb,0,none⟩=some (.pointer (some ⟨b,0,none⟩)):=fun u=>u.h0;have k5:∀u:RWc b rb g nn,u.w.cell? ⟨rb,5,none⟩=some (.int .i64 (nn:Int)):=fun u=>u.h5;have k6:∀u:RWc b rb g nn,u.w.cell? ⟨b,601,none⟩=some (.pointer (some ⟨g,0,none⟩)):=fun u=>u.h6;haveI:Nonempty (RWc b rb g nn):=⟨RWc.mk w (wD D.out.x).1 (wD D.out.x).2.1 (wD D.out.x).2.2⟩;go_enter Tryz.func139,Tryz.ntmps139;go_upto_region 0 with fail;refine nR (C:=fun w'=>∃u:RWc b rb g nn,w'=u.w) [([0,2,3,4,5,6,7,8,10,11,12,13,14,15],1),([],9),([16,17],18)] [] zBM zBM (fun _ _ d _ _ h=>by cases d<;>exact h) ⟨⟨w.drew,(wD D.out.x).1,(wD D.out.x).2.1,(wD D.out.x).2.2⟩,rfl⟩ ?_;intro wd hwd;have D:=zW (show DD base lg b m g rb v v ⟨op,x,y,n,nn,ad,ln⟩ q w a pc f wd by rw[hwd];exact D.out.step (zB _ _).drew);clear hwd;refine nD zBN zBG ?_;repeat(go_big_quiet_step (fail))
 refine zM ?_;refine nK zBB ?_;intro K hK;refine mF (g:=189) (caps:=#[]) (args:=#[.pointer (some ⟨rb,0,none⟩)]) (.func 189) _ _ rfl (enters_of Tryz.func189 zBM rfl) rfl zBL ?_;refine(oA D.out.x HX.out).mono ?_;rintro e w1 ⟨rfl,b1⟩;have D:=zW (D.out.step b1);clear b1;refine⟨_,rfl,?_⟩;refine hK _ _ ⟨⟨w1,(wD D.out.x).1,(wD D.out.x).2.1,(wD D.out.x).2.2⟩,rfl⟩ ?_;clear hK K;simp only[Act.put,zQ,zZ,zJ];refine nD zBN zBG ?_;refine zM ?_;refine nK zBB ?_;intro K hK;refine mF (g:=205) (caps:=#[]) (args:=#[.pointer (some ⟨g,0,none⟩)]) (.func 205) _ _ rfl (enters_of Tryz.func205 zBM rfl) rfl zBL ?_;refine(zV2 D.out.x.rc.rnd RD.out.1 RD.out.2).mono ?_;rintro e w2 ⟨rfl,hs,ha⟩;have D:=zW (zHS D.out hs ha);rw[NB.out];clear hs ha;refine⟨_,rfl,?_⟩;refine hK _ _ ⟨⟨w2,(wD D.out.x).1,(wD D.out.x).2.1,(wD D.out.x).2.2⟩,rfl⟩ ?_;clear hK K;simp only[Act.put,zQ,zZ,zJ];refine nD zBN zBG ?_;repeat(go_big_quiet_step (fail))
 refine zM ?_;refine nK zBB ?_;intro K hK;have cc:=D.out.x.vc HX.out;have fc:=D.out.x.rc.st.frozen x;have D3:=zW (D.out.put (a':={a with v:=Cpu.upd a.v x (bn&&&nn),rd:=a.rd+1}) x (.int .u8 ((bn&&&nn:Nat):Int)) (dE _ m g x (bn&&&nn) HX.out) rfl rfl rfl D.out.x.rc.res);go_wp2_with fail;refine hK _ _ ⟨⟨_,(wD D3.out.x).1,(wD D3.out.x).2.1,(wD D3.out.x).2.2⟩,rfl⟩ ?_;clear hK K;generalize World.setCell w2 _ _=w3 at D3⊢;clear cc fc;refine cT rfl ?_;refine zM ?_;go_wp2_with fail;go_end0
 exact⟨rfl,_,D3.out⟩
end
end
end Go.Proofs.YtcjldabaekbdlaaGreatDoor
