/- FrmStopW. -/
import Derived.Test.YtbpniahcjbagmaaGreatDoorMk6a
set_option maxRecDepth 400000
set_option maxHeartbeats 64000000
set_option linter.unusedVariables false
set_option linter.unusedSimpArgs false
namespace Go.Proofs.YtbpniahcjbagmaaGreatDoor
section
open Go.RowKit Num Dec Cpu
theorem zXB(l:List Fm)(j:Nat):rV (l.take j)≤rV l:=by
 have h:rV l=rV (l.take j++l.drop j):=by rw[List.take_append_drop]
 rw[h];unfold rV;rw[jA,List.sum_append];omega
theorem zWE{n k:Nat}{l:List Fm}(h:WA n k l=true):n≤2000∧k≤100∧(∀i (hi:i<l.length),l[i].n≤20)∧l.length≤12∧rV l≤300:=by
 unfold WA at h;simp only[zC,qB]at h;obtain⟨h1,⟨⟨h2,h3⟩,h4⟩,h5⟩:=h;rw[qW zLF]at h1 h5;unfold okF at h1;rw[jV]at h1;exact⟨h2,h3,fun i hi=>qU (h1 _ (j5 hi)),h4,h5⟩
theorem zZM(N:Nat)(u:Nat)(ev:List Ev)(s:mR)(a:AS):s.ex≤(frN N u (kyN ev (s,a)).1 (kyN ev (s,a)).2).1.ex∧(frN N u (kyN ev (s,a)).1 (kyN ev (s,a)).2).1.ex≤s.ex+(u:Int)∧(2≤s.k→(frN N u (kyN ev (s,a)).1 (kyN ev (s,a)).2).1.ex=s.ex)∧(s.k=1→ev=[]→(frN N u (kyN ev (s,a)).1 (kyN ev (s,a)).2).1.ex=s.ex)∧(rD (frN N u (kyN ev (s,a)).1 (kyN ev (s,a)).2).2).ks.length=a.ks.length+ev.length:=by
 have h1:=zZH N u (kyN ev (s,a)).1 (kyN ev (s,a)).2;rw[ky_exl ev (s,a)]at h1;refine⟨h1.1,h1.2,fun h=>?_,fun h e=>?_,?_⟩
 ·rw[iH N u _ (by rw[ky_k ev (s,a) h];show s.k≠0;omega),ky_k ev (s,a) h]
 ·subst e;show(frN N u s a).1.ex=s.ex;rw[iH N u a zLF]
 ·show(frN N u (kyN ev (s,a)).1 (kyN ev (s,a)).2).2.ks.length=_;rw[zZN,ky_len]
theorem zXT(N:Nat)(CS:xK N)(E0:tU N)(A:Option Addr)(n c:Nat)(R:List Int)(B:Option Addr)(k d:Nat)(L:List Int)(q:Pr)(F:Option Addr)(m cf:Nat)(l:List Fm)(w:World)(HA:LQ w A n c R)(HB:LQ w B k d L)(HF:TO w F m cf l)(hL:xQ w):
  Calls Tryz.prog 3 #[.slice A n c,.slice B k d,.agg (prc q),.slice F m cf] w fun e w'=>e=.returned (.bool true)∧Below w.heap.size w w':=by
 have CC:=zW CS;have EE:=zW E0;have LL:=zW hL;have GA:=zW HA;have GB:=zW HB;have HH:=zW HF;have AW:=zW (fun w h=>zYK N CS E0 w h);obtain⟨r,hr⟩:∃r,WA n k l=r:=⟨_,rfl⟩;obtain⟨z,hz⟩:∃z,decide (1≤q.lv∧q.lv≤3)=z:=⟨_,rfl⟩;have FW:=zW (fun u (bu:Below w.heap.size w u)=>hr▸F6 A B n c k d F m cf l (zR HA.cap HA.max) (zR HB.cap HB.max) u (HF.step bu));have VA:=zW (fun w=>hz▸zXV q w);have HR:=zW hr;have HZ:=zW hz;have m1:(m:Int)≤9223372036854775807:=by have h1:=HF.cap;have h2:=HF.max;unfold maxLen at h2;omega
 clear CS E0 hL HA HB HF hr hz;obtain⟨P,hP⟩:∃P,prc q=P:=⟨_,rfl⟩;have sP:P.size=8:=by rw[←hP];rfl
 rw[hP]at VA;rw[hP];have EP:=zW hP;clear hP;go_enter Tryz.func3,Tryz.ntmps3;go_upto_region 0 with fail;refine zB ?_;refine lI rfl _ (.tmp 2) rfl P rfl ?_;simp only[Act.put,zQ,zZ,zJ];have K1:=zW (Blk.new w 24 P);have BB:=zW (lY w (.cells P 24));obtain⟨g0,hg0⟩:∃g,w.heap.size=g:=⟨_,rfl⟩;rw[hg0]at K1⊢;clear hg0;generalize World.alloc w _=w3 at K1 BB⊢;go_upto_region 1 with fail;have LC:=zW (fun x:lB w3=>LL.out.step (BB.out.trans (x.below.mono BB.out.size)));have FC:=zW (fun x:lB w3=>FW.out _ (BB.out.trans (x.below.mono BB.out.size)));have CQ:=zW (lL K1.out);cases r<;>cases z
 rotate_left 3
 all_goals
  refine RK ?_
  repeat(first
   |(refine mX QV CQ.out sP ?_ (.tmp 6) ?_ ?_ ?_;(focus rfl);(focus rfl);(focus(simp[Act.eval];done));simp only[Act.put,zQ,zZ,zJ])
   |go_big_quiet_step ((first|(go_at_call 8;exact m3 (AW.out _ (LC.out _)))|(go_at_call 9;exact vW (FC.out _))|(go_at_call 10;exact m3 (VA.out _)))))
  refine zY ?_
  intro _ hw'
  obtain⟨x,rfl⟩:=hw'
  have b1:=x.below
  generalize x.w=w4 at*
  have K1:=zW (K1.out.step b1)
  have BB:=zW (BB.out.trans (b1.mono BB.out.size))
  clear b1 LC FC CQ
 rotate_left 1
 all_goals try
  clear HR HZ FW VA
  go_wp2_with fail
  refine(AW.out _ (LL.out.step BB.out)).mono ?_
  rintro e w5 ⟨rfl,b1⟩
  have BB:=zW (BB.out.trans (b1.mono BB.out.size))
  clear b1
  go_wp2
  go_ret
  exact⟨rfl,BB.out⟩
 have HQ:=zW (qU HZ.out);have NK:=zW (zWE HR.out);clear HR HZ FW VA AW;have ST:=zW (show∀u,Below w.heap.size w u→Calls Tryz.prog 11 #[.slice A n c,.slice B k d,.agg P] u fun e w'=>∃mb O,e=.returned (.pointer (some ⟨mb,0,none⟩))∧Mch u.heap.size O mb 0 (JA q) (uB R L) w'∧Below u.heap.size u w' from fun u bu=>by
  rw[←EP.out];exact pQ N CC.out (LL.out.step bu) (GA.out.rd.below bu) GA.out.len (by have:=NK.out;omega) (GB.out.rd.below bu) GB.out.len (by have:=NK.out;omega) (bL.2 GA.out.bd) (bL.2 GB.out.bd) HQ.out)
 go_upto_region 3 with fail;refine zB ?_;iterate 6 go_step
 refine lJ QV K1.out sP rfl (.tmp 6) rfl rfl ?_;simp only[Act.put,zQ,zZ,zJ];go_wp2_with fail;refine(ST.out _ BB.out).mono ?_;rintro e w5 ⟨mb,O,rfl,X,b5⟩;have X:=zW X;have LB:=zW BB.out.size;have BB:=zW (BB.out.trans (b5.mono BB.out.size));clear b5 K1 ST;obtain⟨ba,hba⟩:∃b,w4.heap.size=b:=⟨_,rfl⟩;rw[hba]at X LB;clear hba;have BA:=zW (zF LL.out.lt LB.out);obtain⟨x0,hx0⟩:∃x0:mR×AS,(JA q,uB R L)=x0:=⟨_,rfl⟩;have X0:=zW (show x0.1.ex=0∧x0.2.ks=[]from by rw[←hx0];exact⟨rfl,rfl⟩);have X:=zW (show Mch ba O mb 0 x0.1 x0.2 w5 from by rw[←hx0];exact X.out);clear hx0;go_wp2_with fail;go_loopw [10] (fun i wr=>∃j:Nat,j≤m∧i=.int .i64 (j:Int)∧Below w.heap.size w wr∧∃O nn s a,Mch ba O mb nn s a wr∧nn≤rV (l.take j)∧0≤s.ex∧s.ex≤(rV (l.take j):Int)∧a.ks.length≤20*j) (fun i _=>m-(intOf i).toNat)
 case atStart=>exact⟨0,qC _,rfl,BB.out,O,0,_,_,X.out,qC _,by rw[X0.out.1];decide,by rw[X0.out.1];exact qY _,by rw[X0.out.2];exact qC _⟩
 case round=>
  clear X BB X0
  obtain⟨j,hj,rfl,hB,O,nn,s,a,hX,hn,h0,hs,hk⟩:=hrel
  have BB:=zW hB
  have X:=zW hX
  have NN:=zW (zM hn (zM h0 (zM hs hk)))
  clear hB hX hn h0 hs hk
  by_cases hlt:j<m
  ·have il:j<l.length:=by rw[HH.out.len];exact hlt
   obtain⟨b,o,rfl,lt,c1,c2,ok⟩:=HH.out.at_ j il
   have SU:=zW (oC l j il)
   have TOT:=zW (zXB l (j+1))
   have E20:=zW (NK.out.2.2.1 j il)
   have OK:=zW ok
   obtain⟨f,hf⟩:∃f,l[j]=f:=⟨_,rfl⟩
   rw[hf]at c1 c2 SU E20 OK
   clear hf ok il
   obtain⟨fA,fn,fc,fe,fu⟩:=f
   simp only at c1 c2
   have C1:=zW (zM lt (zM c1 c2))
   clear c1 c2 lt
   have ji:(j:Int)<(m:Int):=zLF
   have JX:=zW hlt
   have u8:fu<256:=OK.out.u8
   have f20:fn≤20:=E20.out
   have wu:IntKind.i64.wrap (fu:Int)=(fu:Int):=by rw[zU];omega
   have ST2:=zW (show rV (l.take (j+1))≤300∧rV (l.take (j+1))=rV (l.take j)+fu∧j≤12 from⟨zR TOT.out NK.out.2.2.2.2,SU.out,by have:=NK.out.2.2.2.1;have:=HH.out.len;omega⟩)
   go_wp2_with fail
   refine(ZV X.out).mono ?_
   rintro e wa ⟨rfl,rfl⟩
   go_wp2_with fail
   refine(show Calls Tryz.prog 13 #[.pointer (some ⟨mb,0,none⟩)] wr fun e w'=>e=.returned (.agg #[.int .i64 s.k,.int .i64 s.c,.int .i64 s.p,.int .i64 s.y])∧Below wr.heap.size wr w' from gY X.out).mono ?_
   rintro e wb ⟨rfl,bb⟩
   have X:=zW (X.out.step bb)
   have BB:=zW (BB.out.trans (bb.mono BB.out.size))
   clear bb
   have c1:=(BB.out.cell (p:=⟨b,o+j*2,none⟩) C1.out.1).trans C1.out.2.1
   have c2:=(BB.out.cell (p:=⟨b,o+j*2+1,none⟩) C1.out.1).trans C1.out.2.2
   obtain⟨v,hv⟩:∃v,s.ex=v:=⟨_,rfl⟩
   obtain⟨kk,hkk⟩:∃v,s.k=v:=⟨_,rfl⟩
   have FX:=zW (zZM N fu fe s a)
   have hfi:=ZD kk s.c s.p s.y wb
   rw[hv,hkk]
   rw[hv]at NN
   rw[hv,hkk]at FX
   go_upto_region 11 with fail
   refine uN 12 zLP zLP ?_
   intro wd hwd
   have bd:Below wb.heap.size wb wd:=by rw[hwd];exact(zG _ _).drew
   have X:=zW (X.out.step bd)
   have BB:=zW (BB.out.trans (bd.mono BB.out.size))
   clear hwd bd c1 c2
   have c1:=(BB.out.cell (p:=⟨b,o+j*2,none⟩) C1.out.1).trans C1.out.2.1
   have c2:=(BB.out.cell (p:=⟨b,o+j*2+1,none⟩) C1.out.1).trans C1.out.2.2
   simp only[List.take_succ_cons,List.take_zero,List.drop_succ_cons,List.drop_zero]
   repeat still_step
   refine wpStill_nil ?_
   go_wp2_with fail
   refine(o8 N CC.out EE.out X.out (LL.out.step BB.out) BA.out fA fn fc fe (OK.out.ev.ev.step BB.out) (fun ad h hp=>?_) zLF fu zLF zMB zMB zMB).mono ?_
   ·intro ho
    obtain⟨b',o',e',lt',_⟩:=OK.out.ev.ev.at_ 0 (by rw[OK.out.ev.ev.len];exact hp)
    subst h
    cases e'
    have h1:=(X.out.blt b' ho).1
    have h2:=LB.out
    omega
   rintro e wc ⟨rfl,O',X',K',G'⟩
   have BB:=zW (BB.out.trans (X.out.below LB.out K'))
   have X:=zW X'
   clear X' K' G' c1 c2
   generalize frN N fu (kyN fe (s,a)).1 (kyN fe (s,a)).2=y at X FX
   obtain⟨s',a'⟩:=y
   simp only at X FX
   have c1:=(BB.out.cell (p:=⟨b,o+j*2,none⟩) C1.out.1).trans C1.out.2.1
   have c2:=(BB.out.cell (p:=⟨b,o+j*2+1,none⟩) C1.out.1).trans C1.out.2.2
   go_wp2_with fail
   refine(ZV X.out).mono ?_
   rintro e wd ⟨rfl,rfl⟩
   obtain⟨v',hv'⟩:∃v,s'.ex=v:=⟨_,rfl⟩
   rw[hv']at FX⊢
   have KL:=zW FX.out.2.2.2.2
   obtain⟨dd,hd⟩:∃x,v'-v=x:=⟨_,rfl⟩
   have d0:0≤dd:=by have:=FX.out.1;omega
   have d1:dd≤(fu:Int):=by have:=FX.out.2.1;omega
   have REL:=zW (show∃j':Nat,j'≤m∧Value.int .i64 ((j:Int)+1)=.int .i64 (j':Int)∧Below w.heap.size w wc∧∃O nn s a,Mch ba O mb nn s a wc∧nn≤rV (l.take j')∧0≤s.ex∧s.ex≤(rV (l.take j'):Int)∧a.ks.length≤20*j' from⟨j+1,JX.out,by go_num,BB.out,O',_,_,_,X.out,by have:=NN.out;have:=ST2.out;omega,by rw[hv'];have:=NN.out;omega,by rw[hv'];have:=NN.out;have:=ST2.out;omega,by have:=NN.out;have:=KL.out;have h3:=OK.out.ev.ev.len;simp only at h3;omega⟩)
   have hcase:(2≤kk∧¬kk=1∧dd=0)∨(¬2≤kk∧kk=1∧fn=0∧dd=0)∨(¬2≤kk∧kk=1∧¬fn=0)∨(¬2≤kk∧¬kk=1):=by
    by_cases h2:2≤kk
    ·exact .inl ⟨h2,by omega,by have:=FX.out.2.2.1 h2;omega⟩
    ·by_cases h1:kk=1
     ·by_cases h3:fn=0
      ·exact .inr (.inl ⟨h2,h1,h3,by have:=FX.out.2.2.2.1 h1 (List.length_eq_zero_iff.1 (by have:=OK.out.ev.ev.len;simp only at this;omega));omega⟩)
      ·exact .inr (.inr (.inl ⟨h2,h1,h3⟩))
     ·exact .inr (.inr (.inr ⟨h2,h1⟩))
   clear FX
   rcases hcase with⟨h2,h1,rfl⟩|⟨h2,rfl,rfl,rfl⟩|⟨h2,rfl,h3⟩|⟨h2,h1⟩
   all_goals
    go_wp2
    go_roundw
    case rel=>exact REL.out
    case measure=>have:=JX.out;simp[intOf];omega
  ·have ji:¬(j:Int)<(m:Int):=zLF
   go_wp2
   go_returns
   exact⟨rfl,BB.out⟩
end
end Go.Proofs.YtbpniahcjbagmaaGreatDoor
