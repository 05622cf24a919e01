/- CpuSame. -/
import Derived.Test.YtcjldabaekbdlaaGreatDoorMk9a
set_option maxRecDepth 400000
set_option maxHeartbeats 64000000
set_option linter.unusedVariables false
set_option linter.unusedSimpArgs false
namespace Go.Proofs.YtcjldabaekbdlaaGreatDoor
section
open Go.RowKit Num Dec Cpu
theorem zJN(P:Nat→Int)(w:World):(binOp .neq 23 (.agg (pc P)) (.agg (pc P))).run Tryz.prog w=.ok (.bool false) w:=by
 have h:=zZN P P 9998 w;rw[show eqP P P=true from(zHB P P).2 fun _ _=>rfl]at h;have e:(10000:Nat)=9998+2:=zBH;rw[run_neq_struct,e,h];simp only[qX];rfl
theorem zJH:Tryz.prog.eqGuardType Tryz.prog.depth 23=false:=by kernel_rfl
theorem UY{o:Oper}{ρ:Operand→Value}{w:World}(x y:Operand)(z:TypeId)(ho:o.op=.binOp .neq 23 x y z)(P:Nat→Int)(hx:ρ x=.agg (pc P))(hy:ρ y=.agg (pc P)):(execOp ρ o).run Tryz.prog w=.ok (.value (.bool false)) w:=by
 unfold execOp;simp only[ho,hx,hy];rw[qW,qW,run_eqGuard_agg w .neq 23 x y _ _ zJH,qX,zJN,qX,jW]
section
variable {ops:Array Oper} {C:World→Prop} {Q:Act→Prop} {o:Oper} {rest:List Oper} {ac:Act}
theorem T4{P:Nat→Int}(hw:Region.wanted o (yielded ops ac.tmps)=true)(x y:Operand)(z:TypeId)(ho:o.op=.binOp .neq 23 x y z)(hx:ac.eval x=.agg (pc P))(hy:ac.eval y=.agg (pc P))
  (h:wpQuiet Tryz.prog ops C Q rest (ac.put o.dst (.bool false))):wpQuiet Tryz.prog ops C Q (o::rest) ac:=
 gI hw (.bool false) (fun w' _=>UY x y z ho P hx hy) h
end
theorem SD(K:Nat)(hK:K=65536)(p:Nat)(M:List Int)(v:Value)(w:World)(hM:M.length=65536)(hp:vC p M v w):Calls Tryz.prog 77 #[.pointer (some ⟨p,0,none⟩),.int .i64 0,.int .i64 65536] w (Gave K M w):=by
 subst hK;have h:=YK p M v 0 0 65536 w hM hp rfl zBY;rw[zL0 M hM]at h;exact h
theorem Rm.rd{ad:Addr}{M:List Int}{w:World}(h:Rm ad M w):Rd w (some ad) M:=fun _=>⟨ad,rfl,h.1,h.2⟩
theorem EN(p o:Nat)(w:World):(Instr.sliceAt 23 (.pointer (some ⟨p,o,none⟩)) none none none).run Tryz.prog w=.ok (.slice (some ⟨p,o,none⟩) 16 16) w:=by
 have h:=run_sliceAt_array_all (P:=Tryz.prog) w 23 ⟨p,o,none⟩ Tryz.underlying23;exact zFU
theorem zWQ{L:List Int}(h:L.length=16):cC (pad L)=L:=by
 apply List.ext_getElem
 ·rw[nV,h]
 ·intro j h1 h2;rw[yS _ _ zBY,VT L j h2]
theorem fT{b:Nat}{T:TypeId}{cs:Array Value}{w:World}(H:Blk b T cs w)(o:Nat)(L:List Int)(h:∀j (hj:j<L.length),cs[o+j]?=some (.int .u8 L[j])):Rd w (some ⟨b,o,none⟩) L:=fun _=>⟨_,rfl,H.lt,fun j hj=>by rw[yN,H.cell];exact h j hj⟩
theorem stC_pl(a:AS)(m g i:Nat)(hi:i<4):(stC a m g).extract (36+i*128) (36+i*128+128)=mQ (fwd (a.F i)):=tW (mY _) zBY fun j hj=>by
 rw[uH _ _ hj,show 36+i*128+j=36+(i*128+j) by omega,aZ a m g zBY];unfold wU;rw[zG zBY,show(i*128+j)/128=i by omega,show(i*128+j)%128=j by omega];rfl
structure SmW(b bt m g:Nat)(a:AS)(z:Sls)(w0 w:World):Prop where
 st:Blk b 84 (stC a m g) w
 t:Blk bt 43 (cst (mT a z)) w
 low:Below w0.heap.size w0 w
theorem SmW.step{b bt m g:Nat}{a:AS}{z:Sls}{w0 w w':World}(h:SmW b bt m g a z w0 w)(hb:Below w.heap.size w w'):SmW b bt m g a z w0 w':=⟨h.st.step hb,h.t.step hb,h.low.trans (hb.mono h.low.size)⟩
theorem wT(N:Nat)(hN:N=8192)(a:AS)(z:Sls)(base b m g:Nat)(v:Value)(w:World)(hS:Blk b 84 (stC a m g) w)(hM:vC m a.M v w)(hG:St base g a.L a.rd w)(R:RS N w z a)(O:OkA a):
  Calls Tryz.prog 23 #[.pointer (some ⟨b,0,none⟩),.agg (cst (mT a z))] w fun e w'=>e=.returned (.bool true)∧Below w.heap.size w w':=by
 have NN:=zW hN;have RR:=zW R;have OO:=zW O;have MM:=zW hM;have GG:=zW hG;have S:=zW (show SmW b w.heap.size m g a z w (w.alloc (.cells (cst (mT a z)) 43))from⟨hS.alloc _,Blk.new _ _ _,mJ w _⟩);have HB:=zW hS.lt;obtain⟨K6,h6⟩:∃K:Nat,K=65536:=⟨_,rfl⟩;have H6:=zW h6;have ZM:=zW (show z.M.n=65536 from by obtain⟨ad,c,e,_⟩:=R.M;rw[e]);have RM:=zW (show∀w',Below w.heap.size w w'→Rd w' z.M.A a.M from fun w' b=>by obtain⟨ad,c,e,r⟩:=R.M;rw[e];exact(r.step b).rd);clear h6;clear hN R O hM hG hS;go_enter Tryz.func23,Tryz.ntmps23;go_upto_region 0 with fail;refine zN ?_;refine mZ rfl _ (.tmp 1) rfl (cst (mT a z)) rfl ?_;simp only[Act.put,zQ,zZ,zJ,zR];obtain⟨bt,hbt⟩:∃bt,w.heap.size=bt:=⟨_,rfl⟩;have BT:=zW hbt;rw[hbt]at S⊢;generalize World.alloc _ _=w1 at S⊢;clear hbt;go_upto_region 1 with fail;have s16:w1.cell? ⟨b,16,none⟩=some (.int .i64 a.i):=(S.out.st.cell 16).trans (nJ a m g zBY);have ks16:=mH.cell s16 S.out.st.lt;clear s16;have s17:w1.cell? ⟨b,17,none⟩=some (.int .i64 a.pc):=(S.out.st.cell 17).trans (nJ a m g zBY);have ks17:=mH.cell s17 S.out.st.lt;clear s17;have s34:w1.cell? ⟨b,34,none⟩=some (.int .i64 (a.sk.length:Int)):=(S.out.st.cell 34).trans (nJ a m g zBY);have ks34:=mH.cell s34 S.out.st.lt;clear s34;have s35:w1.cell? ⟨b,35,none⟩=some (.pointer (some ⟨m,0,none⟩)):=(S.out.st.cell 35).trans (nJ a m g zBY);have ks35:=mH.cell s35 S.out.st.lt;clear s35;have s601:w1.cell? ⟨b,601,none⟩=some (.pointer (some ⟨g,0,none⟩)):=(S.out.st.cell 601).trans (nJ a m g zBY);have ks601:=mH.cell s601 S.out.st.lt;clear s601;have t16:w1.cell? ⟨bt,16,none⟩=some (.int .i64 a.i):=(S.out.t.cell 16).trans (nW _ 0);have kt16:=mH.cell t16 S.out.t.lt;clear t16;have t17:w1.cell? ⟨bt,17,none⟩=some (.int .i64 a.pc):=(S.out.t.cell 17).trans (nW _ 1);have kt17:=mH.cell t17 S.out.t.lt;clear t17;have t18:w1.cell? ⟨bt,18,none⟩=some (.slice z.sk.A z.sk.n z.sk.c):=(S.out.t.cell 18).trans (nW _ 2);have kt18:=mH.cell t18 S.out.t.lt;clear t18;have CS:=zW (mR S.out.st);have CT:=zW (mR S.out.t);have ln:(a.sk.length:Int)=(z.sk.n:Int):=by rw[RR.out.sk.len]
 have LN:=zW ln;rw[ln]at ks34;clear ln;refine m8 zBM zBM ?_;iterate 20 (go_big_quiet_step (fail))
 refine mG mD CS.out (o:=0) zBE ?_ (.tmp 30) ?_ ?_ ?_
 ·rfl
 ·rfl
 ·simp[Act.eval]
 rw[zKX];simp only[Act.put,zQ,zZ,zJ];iterate 1 (go_big_quiet_step (fail))
 refine mG mD CT.out (o:=0) zB2 ?_ (.tmp 32) ?_ ?_ ?_
 ·rfl
 ·rfl
 ·simp[Act.eval]
 rw[L4];simp only[Act.put,zQ,zZ,zJ];refine T4 (P:=fun j=>(a.v j:Int)) ?_ (.tmp 31) (.tmp 33) 23 ?_ ?_ ?_ ?_
 ·rfl
 ·rfl
 ·rfl
 ·rfl
 simp only[Act.put,zQ,zZ,zJ];repeat(go_big_quiet_step (fail))
 refine zM ?_;intro _ hw';obtain⟨u,rfl⟩:=hw';have S:=zW (S.out.step u.below);clear ks16 ks17 ks34 ks35 ks601 kt16 kt17 kt18 CS CT;generalize u.w=w2 at*;go_upto_region 3 with fail;have s35:w2.cell? ⟨b,35,none⟩=some (.pointer (some ⟨m,0,none⟩)):=(S.out.st.cell 35).trans (nJ a m g zBY);have ks35:=mH.cell s35 S.out.st.lt;clear s35;have t18:w2.cell? ⟨bt,18,none⟩=some (.slice z.sk.A z.sk.n z.sk.c):=(S.out.t.cell 18).trans (nW _ 2);have kt18:=mH.cell t18 S.out.t.lt;clear t18;have t19:w2.cell? ⟨bt,19,none⟩=some (.slice z.M.A z.M.n z.M.c):=(S.out.t.cell 19).trans (nW _ 3);have kt19:=mH.cell t19 S.out.t.lt;clear t19;have CS:=zW (mR S.out.st);refine nR (C:=fun w'=>∃u:mH w2,w'=u.w) [([0,1,2,3,5,6],4),([],7),([8,9,10,11,12,13,15,16],14),([],17)] [18,19] zBM zBM (fun _ _ d _ _ h=>by cases d<;>exact h) ⟨⟨w2.drew,(zB _ _).drew⟩,rfl⟩ ?_;intro wd hwd;have BD:=zW (show Below w2.heap.size w2 wd by rw[hwd];exact(zB _ _).drew);clear hwd;refine nD zBN zBG ?_;iterate 3 (go_big_quiet_step (fail))
 refine mG xE CS.out (o:=18) zBE ?_ (.tmp 67) ?_ ?_ ?_
 ·rfl
 ·rfl
 ·simp[Act.eval]
 rw[fW];simp only[Act.put,zQ,zZ,zJ];repeat(go_big_quiet_step (fail))
 refine zM ?_;refine nK zBB ?_;intro K7 hK;refine mF (g:=75) (caps:=#[]) (args:=#[.agg (nS a.sk)]) (.func 75) #[.tmp 68] #[62] rfl (enters_of Tryz.func75 zBM rfl) rfl zBL ?_;refine(F5 a.sk OO.out.sk wd).mono ?_;rintro e w3 ⟨⟨A3,c3,rfl,r3⟩,b3⟩;have R3:=zW r3;have BD:=zW (BD.out.trans (b3.mono BD.out.size));clear b3 r3;refine⟨_,rfl,hK _ _ ⟨⟨w3,BD.out⟩,rfl⟩ ?_⟩;clear hK K7;simp only[Act.put,zQ,zZ,zJ];refine nD zBN zBG ?_;refine zM ?_;refine nK zBB ?_;intro K7 hK;refine mF (g:=74) (caps:=#[]) (args:=#[.slice A3 a.sk.length c3,.slice z.sk.A z.sk.n z.sk.c]) (.func 74) #[.tmp 69,.tmp 71] #[38,38] rfl (enters_of Tryz.func74 zBM rfl) rfl zBL ?_;refine(zZO A3 z.sk.A c3 z.sk.c a.sk.length z.sk.n a.sk w3 rfl RR.out.sk.len.symm (by have:=OO.out.sk;omega) R3.out (RR.out.step (S.out.low.trans (BD.out.mono S.out.low.size))).sk.row).mono ?_;rintro e w4 ⟨rfl,b4⟩;have BD:=zW (BD.out.trans (b4.mono BD.out.size));clear b4 R3;refine⟨_,rfl,hK _ _ ⟨⟨w4,BD.out⟩,rfl⟩ ?_⟩;clear hK K7;simp only[Act.put,zQ,zZ,zJ];refine nD zBN zBG ?_;repeat(go_big_quiet_step (fail))
 refine zM ?_;refine nK zBB ?_;intro K7 hK;refine mF (g:=77) (caps:=#[]) (args:=#[.pointer (some ⟨m,0,none⟩),.int .i64 0,.int .i64 65536]) (.func 77) #[.tmp 78,.const (.int .i64 0),.const (.int .i64 65536)] #[63,3,3] rfl (enters_of Tryz.func77 zBM rfl) rfl zBL ?_;refine(SD K6 H6.out m a.M v w4 OO.out.M (((S.out.low.trans (BD.out.mono S.out.low.size)).block m MM.out.lt).trans MM.out)).mono ?_;rintro e w5 ⟨g5,rfl,h5,r5,b5⟩;have R5:=zW r5;have BD:=zW (BD.out.trans (b5.mono BD.out.size));clear b5 r5 h5;refine⟨_,rfl,hK _ _ ⟨⟨w5,BD.out⟩,rfl⟩ ?_⟩;clear hK K7;simp only[Act.put,zQ,zZ,zJ];refine nD zBN zBG ?_;refine zM ?_;refine nK zBB ?_;intro K7 hK;refine mF (g:=76) (caps:=#[]) (args:=#[.slice (some ⟨g5,0,none⟩) K6 K6,.slice z.M.A z.M.n z.M.c]) (.func 76) #[.tmp 79,.tmp 81] #[22,22] rfl (enters_of Tryz.func76 zBM rfl) rfl zBL ?_;refine(ZQ (some ⟨g5,0,none⟩) z.M.A K6 z.M.c K6 z.M.n a.M a.M w5 (OO.out.M.trans H6.out.symm) (OO.out.M.trans ZM.out.symm) (by rw[H6.out];omega) (by rw[ZM.out];omega) R5.out (RM.out w5 (S.out.low.trans (BD.out.mono S.out.low.size)))).mono ?_;rw[show decide (a.M=a.M)=true from by simp];rintro e w6 ⟨rfl,b6⟩;have BD:=zW (BD.out.trans (b6.mono BD.out.size));clear b6 R5;refine⟨_,rfl,hK _ _ ⟨⟨w6,BD.out⟩,rfl⟩ ?_⟩;clear hK K7;simp only[Act.put,zQ,zZ,zJ];refine cT zBN ?_;repeat(go_big_quiet_step (fail))
 refine zM ?_;have S:=zW (S.out.step BD.out);clear BD CS ks35 kt18 kt19;go_wp2_with fail;go_loopw [5] (fun i wr=>∃k:Nat,k≤16∧i=.int .i64 (k:Int)∧SmW b bt m g a z w wr) (fun i _=>16-(intOf i).toNat)
 case atStart=>exact⟨0,by omega,rfl,S.out⟩
 case round=>
  clear S
  obtain⟨k,hk,rfl,hs⟩:=hrel
  have S:=zW hs
  clear hs
  by_cases hlt:k<16
  ·have kI:(k:Int)<16:=zBY
   obtain⟨vk,hvk⟩:∃v,v=dn a.ks (k:Int):=⟨_,rfl⟩
   have DN:=zW (fun x:mH wr=>LU z.K.A z.K.n z.K.c a.ks (k:Int) vk hvk x.w (RR.out.step (S.out.low.trans (x.below.mono S.out.low.size))).K (by have h1:=OO.out.ks;have h2:=RR.out.K.len;omega))
   have sk:wr.cell? ⟨b,550+k,none⟩=some (.bool vk):=by rw[S.out.st.cell,nJ a m g zBY,ZE a m g hlt,hvk];rfl
   have ksk:=mH.cell sk S.out.st.lt
   have KL:=zW hlt
   clear sk hvk hlt
   have t23:wr.cell? ⟨bt,23,none⟩=some (.slice z.K.A z.K.n z.K.c):=(S.out.t.cell 23).trans (nW _ 7)
   have kt23:=mH.cell t23 S.out.t.lt
   clear t23
   go_upto_region 8 with fail
   cases vk
   all_goals
    refine m8 zBM zBM ?_
    repeat(go_big_quiet_step ((go_at_call 67;exact yV (DN.out _))))
    refine zM ?_
    intro _ hw'
    obtain⟨u,rfl⟩:=hw'
    have S:=zW (S.out.step u.below)
    clear ksk kt23 DN
    go_wp2_with fail
    go_roundw
    case rel=>exact⟨k+1,by have:=KL.out;omega,by go_num,S.out⟩
    case measure=>simp[intOf];have:=KL.out;omega
  ·have kI:¬(k:Int)<16:=zBY
   clear hlt hk
   have s566:wr.cell? ⟨b,566,none⟩=some (.int .u8 (a.dl:Int)):=(S.out.st.cell 566).trans (nJ a m g zBY)
   have ks566:=mH.cell s566 S.out.st.lt
   clear s566
   have s567:wr.cell? ⟨b,567,none⟩=some (.int .u8 (a.sd:Int)):=(S.out.st.cell 567).trans (nJ a m g zBY)
   have ks567:=mH.cell s567 S.out.st.lt
   clear s567
   have s584:wr.cell? ⟨b,584,none⟩=some (.int .u8 (a.pt:Int)):=(S.out.st.cell 584).trans (nJ a m g zBY)
   have ks584:=mH.cell s584 S.out.st.lt
   clear s584
   have s601:wr.cell? ⟨b,601,none⟩=some (.pointer (some ⟨g,0,none⟩)):=(S.out.st.cell 601).trans (nJ a m g zBY)
   have ks601:=mH.cell s601 S.out.st.lt
   clear s601
   have t24:wr.cell? ⟨bt,24,none⟩=some (.int .u8 (a.dl:Int)):=(S.out.t.cell 24).trans (nW _ 8)
   have kt24:=mH.cell t24 S.out.t.lt
   clear t24
   have t25:wr.cell? ⟨bt,25,none⟩=some (.int .u8 (a.sd:Int)):=(S.out.t.cell 25).trans (nW _ 9)
   have kt25:=mH.cell t25 S.out.t.lt
   clear t25
   have t27:wr.cell? ⟨bt,27,none⟩=some (.int .u8 (a.pt:Int)):=(S.out.t.cell 27).trans (nW _ 11)
   have kt27:=mH.cell t27 S.out.t.lt
   clear t27
   have t28:wr.cell? ⟨bt,28,none⟩=some (.slice z.fl.A z.fl.n z.fl.c):=(S.out.t.cell 28).trans (nW _ 12)
   have kt28:=mH.cell t28 S.out.t.lt
   clear t28
   have t30:wr.cell? ⟨bt,30,none⟩=some (.int .i64 (a.rd:Int)):=(S.out.t.cell 30).trans (nW _ 14)
   have kt30:=mH.cell t30 S.out.t.lt
   clear t30
   have c5:=EN b 568
   have c6:=EN b 585
   go_upto_region 10 with fail
   clear kI
   have CT:=zW (mR S.out.t)
   refine nR (C:=fun w'=>∃u:mH wr,w'=u.w) [([0,1,2,3,4,5,6,7,8,9,10,11,12,13,14,15,16],17),([],18),([19,20,21,22,23,24,25,26,27,28,29,30,31,32,33,34,35,36,37,38],39),([40,41,42,43,44,45,46,48,49],47)] [50,51] zBM zBM (fun _ _ d _ _ h=>by cases d<;>exact h) ⟨⟨wr.drew,(zB _ _).drew⟩,rfl⟩ ?_
   intro wd hwd
   have BD:=zW (show Below wr.heap.size wr wd by rw[hwd];exact(zB _ _).drew)
   clear hwd
   refine nD zBN zBG ?_
   iterate 16 (go_big_quiet_step (fail))
   refine l9 mM CT.out (lC _) ?_ (.tmp 3) ?_ ?_ ?_
   ·rfl
   ·rfl
   ·simp[Act.eval]
   simp only[Act.put,zQ,zZ,zJ]
   refine zM ?_
   refine nK zBB ?_
   intro K7 hK
   refine mF (g:=78) (caps:=#[]) (args:=#[.agg (cst (mT a z))]) (.func 78) #[.tmp 117] #[43] rfl (enters_of Tryz.func78 zBM rfl) rfl zBL ?_
   refine(VJ N a z wd (RR.out.step (S.out.low.trans (BD.out.mono S.out.low.size))) (by rw[OO.out.P];omega)).mono ?_
   rintro e w8 ⟨g8,rfl,h8,p8,b8⟩
   have P8:=zW p8
   have BD:=zW (BD.out.trans (b8.mono BD.out.size))
   clear b8 p8 h8
   refine⟨_,rfl,hK _ _ ⟨⟨w8,BD.out⟩,rfl⟩ ?_⟩
   clear hK K7
   simp only[Act.put,zQ,zZ,zJ]
   refine nD zBN zBG ?_
   refine zM ?_
   refine nK zBB ?_
   intro K7 hK
   refine mF (g:=76) (caps:=#[]) (args:=#[.slice (some ⟨b,568,none⟩) 16 16,.slice (some ⟨g8,0,none⟩) 16 16]) (.func 76) #[.tmp 116,.tmp 118] #[22,22] rfl (enters_of Tryz.func76 zBM rfl) rfl zBL ?_
   refine(ZQ (some ⟨b,568,none⟩) (some ⟨g8,0,none⟩) 16 16 16 16 a.P a.P w8 OO.out.P OO.out.P zBY zBY (fT (S.out.st.step BD.out) 568 a.P fun j hj=>by rw[nJ a m g (by have:=OO.out.P;omega),aX a m g (by have:=OO.out.P;omega)];unfold ptA;simp[hj]) (by have h:=zVD P8.out;rwa [zWQ OO.out.P]at h)).mono ?_
   rw[show decide (a.P=a.P)=true from by simp]
   rintro e w9 ⟨rfl,b6⟩
   have BD:=zW (BD.out.trans (b6.mono BD.out.size))
   clear b6
   refine⟨_,rfl,hK _ _ ⟨⟨w9,BD.out⟩,rfl⟩ ?_⟩
   clear hK K7
   simp only[Act.put,zQ,zZ,zJ]
   refine nD zBN zBG ?_
   repeat(go_big_quiet_step (fail))
   refine zM ?_
   refine nK zBB ?_
   intro K7 hK
   refine mF (g:=76) (caps:=#[]) (args:=#[.slice (some ⟨b,585,none⟩) 16 16,.slice z.fl.A z.fl.n z.fl.c]) (.func 76) #[.tmp 137,.tmp 139] #[22,22] rfl (enters_of Tryz.func76 zBM rfl) rfl zBL ?_
   refine(ZQ (some ⟨b,585,none⟩) z.fl.A 16 z.fl.c 16 z.fl.n (cC a.fl) (cC a.fl) w9 (nV _) ((nV _).trans RR.out.fl.1.symm) zBY (by rw[RR.out.fl.1];omega) (fT (S.out.st.step BD.out) 585 (cC a.fl) fun j hj=>by have h16:j<16:=(by rwa [nV]at hj);rw[nJ a m g zBY,MK a m g h16,yS _ _ h16]) (RR.out.step (S.out.low.trans (BD.out.mono S.out.low.size))).fl.2).mono ?_
   rw[show decide (cC a.fl=cC a.fl)=true from by simp]
   rintro e w10 ⟨rfl,b6⟩
   have BD:=zW (BD.out.trans (b6.mono BD.out.size))
   clear b6
   refine⟨_,rfl,hK _ _ ⟨⟨w10,BD.out⟩,rfl⟩ ?_⟩
   clear hK K7
   simp only[Act.put,zQ,zZ,zJ]
   refine nD zBN zBG ?_
   repeat(go_big_quiet_step (fail))
   refine zM ?_
   refine nK zBB ?_
   intro K7 hK
   refine mF (g:=79) (caps:=#[]) (args:=#[.pointer (some ⟨g,0,none⟩)]) (.func 79) #[.tmp 147] #[82] rfl (enters_of Tryz.func79 zBM rfl) rfl zBL ?_
   refine(zJO (GG.out.step (S.out.low.trans (BD.out.mono S.out.low.size))) (by have:=OO.out.rd;omega)).mono ?_
   rintro e w11 ⟨rfl,rfl⟩
   refine⟨_,rfl,hK _ _ ⟨⟨w10,BD.out⟩,rfl⟩ ?_⟩
   clear hK K7
   simp only[Act.put,zQ,zZ,zJ]
   refine cT zBN ?_
   repeat(go_big_quiet_step (fail))
   refine zM ?_
   have S:=zW (S.out.step BD.out)
   clear BD CT ks566 ks567 ks584 ks601 kt24 kt25 kt27 kt28 kt30 c5 c6
   go_upto_region 12 with fail
   have s548:w10.cell? ⟨b,548,none⟩=some (.bool a.hi):=((S.out.st.cell 548).trans (nJ a m g zBY)).trans rfl
   have ks548:=mH.cell s548 S.out.st.lt
   clear s548
   have s549:w10.cell? ⟨b,549,none⟩=some (.int .i64 (a.msk:Int)):=((S.out.st.cell 549).trans (nJ a m g zBY)).trans rfl
   have ks549:=mH.cell s549 S.out.st.lt
   clear s549
   have t21:w10.cell? ⟨bt,21,none⟩=some (.bool a.hi):=(S.out.t.cell 21).trans (nW _ 5)
   have kt21:=mH.cell t21 S.out.t.lt
   clear t21
   have t22:w10.cell? ⟨bt,22,none⟩=some (.int .i64 (a.msk:Int)):=(S.out.t.cell 22).trans (nW _ 6)
   have kt22:=mH.cell t22 S.out.t.lt
   clear t22
   refine m8 zBM zBM ?_
   repeat(go_big_quiet_step (fail))
   refine zM ?_
   intro _ hw'
   obtain⟨u,rfl⟩:=hw'
   have S:=zW (S.out.step u.below)
   clear ks548 ks549 kt21 kt22
   generalize u.w=w11 at*
   obtain⟨AG,capG,gs,eG,pG⟩:=RR.out.G
   have PX:=zW (pG.step S.out.low)
   have EG:=zW eG
   clear eG pG
   go_wp2_with fail
   go_loopw [6] (fun i wr=>∃k:Nat,k≤4∧i=.int .i64 (k:Int)∧SmW b bt m g a z w wr) (fun i _=>4-(intOf i).toNat)
   case atStart=>exact⟨0,by omega,rfl,S.out⟩
   case round=>
    clear S PX
    obtain⟨i,hi,rfl,hs⟩:=hrel
    have S:=zW hs
    have PX:=zW ((by obtain⟨A',cap',gs',e',p'⟩:=RR.out.G;rw[EG.out]at e';cases e';exact⟨gs',p'.step hs.low⟩:∃gs',Px4 N AG gs' a.F wr))
    clear hs
    obtain⟨wo,hwo⟩:∃wo,wo=wr:=⟨_,rfl⟩
    subst hwo
    by_cases hlt:i<4
    ·have iI:(i:Int)<4:=zBY
     have KL:=zW hlt
     obtain⟨gs',px⟩:=PX.out
     have PK:=px.px i hlt
     obtain⟨bb,oo,hA,hbl,hce⟩:=px.row.at_ (k:=i) (by rw[px.len];exact hlt)
     have hge:gs'[i]'(by rw[px.len];exact hlt)=gs'.getD i 0:=by simp[show i<gs'.length by rw[px.len];exact hlt]
     rw[hge]at hce
     obtain⟨y0,hy⟩:∃y,gs'.getD i 0=y:=⟨_,rfl⟩
     rw[hy]at hce PK
     change wo.cell? ⟨bb,oo+i,none⟩=some (.slice (some ⟨y0,0,none⟩) N N)at hce
     obtain⟨f,hf⟩:∃f,a.F i=f:=⟨_,rfl⟩
     have SM:=zW (show bK (fwd (a.F i)) (fwd f)=true from(aA _ _).2 fun y hy=>by rw[←hf])
     rw[hf]at PK
     have PXX:=zW PK
     have CE:=zW hce
     have BL:=zW hbl
     have GA:=zW (show z.G.A=some ⟨bb,oo,none⟩∧z.G.n=4 from by rw[EG.out];exact⟨hA,rfl⟩)
     clear PK hce hge hy hf hbl hlt px hA PX
     go_upto_region 17 with fail
     refine zN ?_
     refine qL rfl fun K hK=>nF zeroPl rfl (hK _ _ ?_)
     clear hK K
     simp only[Act.put,zQ,zZ,zJ]
     have GP:=zW (vJ.new wo (fun _=>0#128) 69)
     have BW:=zW ((zB wo.heap.size wo).alloc (zH _) (.cells (mQ fun _=>0#128) 69))
     obtain⟨gp,hgp⟩:∃g,wo.heap.size=g:=⟨_,rfl⟩
     have GQ:=zW hgp
     generalize wo.alloc (.cells (mQ fun _=>0#128) 69)=w3 at*
     rw[hgp]at GP⊢
     clear hgp
     go_wp2
     go_loopw [8] (fun t wr=>∃y:Nat,y≤64∧t=.int .i64 (y:Int)∧vJ gp 69 (fun r=>if r<y then fwd f r else 0#128) wr∧Below wo.heap.size wo wr) (fun t _=>64-(intOf t).toNat)
     case atStart=>exact⟨0,by omega,rfl,GP.out.congr fun y hy=>by simp,BW.out⟩
     case round=>
      clear GP BW
      obtain⟨y,hy,rfl,hp,hb⟩:=hrel
      have GP:=zW hp
      have BW:=zW hb
      clear hp hb
      by_cases hyl:y<64
      ·have yI:(y:Int)<64:=zBY
       have C:=zW (wordsN NN.out y0 f wr (PXX.out.step BW.out) hyl)
       have EE:=zW (show N8 f y++N7 f y=fwd f y from rfl)
       generalize N8 f y=h at*
       generalize N7 f y=l at*
       have a1:=GP.out.left y hyl
       have a2:=GP.out.right y hyl
       have a3:=GP.out.frozen (y*2)
       have a4:=GP.out.frozen (y*2+1)
       have c0:wr.cell? ⟨bt,20,none⟩=some (.slice (some ⟨bb,oo,none⟩) 4 z.G.c):=((S.out.t.step BW.out).cell 20).trans ((nW _ 4).trans (by show some (Value.slice z.G.A z.G.n z.G.c)=_;rw[GA.out.1,GA.out.2]))
       have ce:wr.cell? ⟨bb,oo+i,none⟩=some (.slice (some ⟨y0,0,none⟩) N N):=(BW.out.cell (p:=⟨bb,oo+i,none⟩) BL.out).trans CE.out
       go_wp2_with fail
       refine C.out.mono ?_
       rintro e w' ⟨rfl,rfl⟩
       go_wp2
       go_roundw
       case rel=>
        refine⟨y+1,by omega,by go_num,(GP.out.row y hyl h l).congr fun r hr=>?_,(BW.out.setCell (p:=⟨gp,y*2,none⟩) (by rw[GQ.out];exact zH _) _).setCell (p:=⟨gp,y*2+1,none⟩) (by rw[GQ.out];exact zH _) _⟩
        rw[EE.out]
        by_cases e:r=y
        ·subst e;rw[bJ,zG zBY]
        ·rw[gP _ _ _ _ e]
         by_cases e2:r<y
         ·rw[zG e2,zG zBY]
         ·rw[zL e2,zL zBY]
       case measure=>simp[intOf];omega
      ·have GP:=zW (GP.out.congr (Q:=fwd f) fun r hr=>by rw[zG zBY])
       have S:=zW (S.out.step BW.out)
       have yI:¬(y:Int)<64:=zBY
       have SM:=SM.out
       have kl:=KL.out
       go_upto_region 23 with fail
       have KS:=zW (mR S.out.st)
       have KP:=zW (fun(w':World) (hw:∃u:mH wr,w'=u.w)=>show Blk gp 69 (mQ (fwd f)) w' by obtain⟨u,rfl⟩:=hw;exact GP.out.step u.below)
       refine m8 zBM zBM ?_
       repeat(first
        |(refine mG (o:=36+i*128) (n:=128) t9 KS.out (by rw[m9];omega) ?_ (.tmp 203) ?_ ?_ ?_;(focus rfl);(focus rfl);(focus(simp[Act.eval];done));(rw[stC_pl _ _ _ _ kl]);simp only[Act.put,zQ,zZ,zJ])
        |(refine l9 t9 KP.out (mY _) ?_ (.tmp 7) ?_ ?_ ?_;(focus rfl);(focus rfl);(focus(simp[Act.eval];done));simp only[Act.put,zQ,zZ,zJ])
        |(refine IG SM ?_ (.tmp 204) (.tmp 205) 69 ?_ ?_ ?_ ?_;(focus rfl);(focus rfl);(focus(simp[Act.eval];done));(focus(simp[Act.eval];done));simp only[Act.put,zQ,zZ,zJ])
        |go_big_quiet_step (rfl))
       refine zM ?_
       intro _ hw'
       obtain⟨u,rfl⟩:=hw'
       have S:=zW (S.out.step u.below)
       clear KS KP SM GP
       generalize u.w=w9 at*
       go_wp2
       go_roundw
       case rel=>exact⟨i+1,by omega,by go_num,S.out⟩
       case measure=>simp[intOf];omega
    ·have iI:¬(i:Int)<4:=zBY
     go_wp2
     go_ret
     exact⟨rfl,S.out.low⟩
end
end Go.Proofs.YtcjldabaekbdlaaGreatDoor
