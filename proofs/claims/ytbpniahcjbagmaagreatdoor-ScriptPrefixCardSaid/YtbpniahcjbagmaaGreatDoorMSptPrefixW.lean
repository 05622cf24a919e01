/- SptPrefixW. -/
import Derived.Test.YtbpniahcjbagmaaGreatDoorMSptAwake
set_option maxRecDepth 400000
set_option maxHeartbeats 64000000
set_option linter.unusedVariables false
set_option linter.unusedSimpArgs false
namespace Go.Proofs.YtbpniahcjbagmaaGreatDoor
section
open Go.RowKit Go.Shelf Num Dec Cpu
def Sp.wg(s:Sp)(n:Nat):Sp:={s with gn:=n}
theorem zZI(s:Sp)(n:Nat):(spC s).setIfInBounds 13 (.slice s.G n s.gc)=spC (s.wg n):=rfl
theorem wW.wg{s:Sp}{w:World}{R L F:List Int}{l:List Fv}(h:wW s w R L F l)(n:Nat)(hn:n≤s.gn):wW (s.wg n) w R L F (l.take n):=⟨h.a,h.b,h.f,h.g.take n hn,h.lv,h.cy⟩
theorem zNN{s:Sp}{w:World}{R L F:List Int}{l:List Fv}(H:wW s w R L F l)(h:gG s l=true)(n:Nat)(hn:n≤s.gn):gG (s.wg n) (l.take n)=true:=by
 have h6:=(pW H.g h).2.2.2.2.2;unfold gG at h⊢;simp only[zC,qK]at h⊢;refine⟨?_,⟨h.2.1.1,by show n≤8;have:=h.2.1.2;omega⟩,h.2.2⟩;unfold okE;rw[jJ];intro f hf;obtain⟨i,hi,rfl⟩:=List.getElem_of_mem (List.mem_of_mem_take (List.mem_of_mem_take hf));exact qY (h6 i hi)
theorem rsS_wg(N:Nat)(s:Sp)(R L:List Int)(l:List Fv)(n:Nat)(hn:n≤l.length):rsS N (s.wg n) R L ((l.take n).map Fv.ev)=(rsS N s R L (l.map Fv.ev)).take n:=by
 unfold rsS;rw[show xO (s.wg n)=xO s from rfl];split
 ·rw[List.map_take];exact UA N s.cy.toNat (l.map Fv.ev) (wU s.q,uB R L) n (by rw[qI];exact hn)
 ·simp
theorem zJO(N:Nat)(s:Sp)(R L:List Int)(l:List (List Ev))(h:xO s=true):(rsS N s R L l).length=l.length:=by
 unfold rsS;rw[zN h,wR]
theorem UD(N:Nat)(s:Sp)(R L:List Int)(l:List (List Ev))(i j:Nat)(r r':cE)(hi:(rsS N s R L l)[i]?=some r)(hj:(rsS N s R L l)[j]?=some r')(h:i≤j)(hk:isE r=true):zJZ r r':=by
 unfold isE at hk;unfold rsS at hi hj;split at hi
 ·rename_i hv
  rw[zN hv]at hj;refine oG N _ l _ i j r r' hi hj h ?_;simp only[Bool.or_eq_true,qK]at hk;omega
 ·cases hi
theorem oD{w:World}{b o:Nat}{cs d:Array Value}(h:w.rangeAt b o cs.toList)(p n:Nat)(e:cs.extract p (p+n)=d):w.rangeAt b (o+p) d.toList:=by
 intro j v hv;rw[←e,qO,jS]at hv;split at hv
 ·rw[qP];exact h (p+j) v (by rw[qO];exact hv)
 ·cases hv
theorem zXY(N:Nat)(CS:vR N)(E0:uP N)(s:Sp){R L F:List Int}{l:List Fv}(k:Nat)(w:World)(H:wW s w R L F l)(hk:k<256)(hL:cQ w):
  Calls Tryz.prog 6 #[.agg (spC s),.int .u8 (k:Int)] w fun e w'=>e=.returned (.bool true)∧Below w.heap.size w w':=by
 have CC:=zW CS;have EE:=zW E0;have LL:=zW hL;have HH:=zW H;have HK:=zW hk;have AW:=zW (fun w h=>iS N CS E0 w h);obtain⟨r,hr⟩:∃r,gG s l=r:=⟨_,rfl⟩;obtain⟨v,hv⟩:∃v,xO s=v:=⟨_,rfl⟩;have FW:=zW (fun u (bu:Below w.heap.size w u)=>hr▸fG s l u (H.step bu));have VA:=zW (fun u=>hv▸aZ s u);have HR:=zW hr;have HV:=zW hv;clear CS E0 hL H hr hv hk;go_enter Tryz.func6,Tryz.ntmps6;go_upto_region 0 with fail;refine zH ?_;refine lE rfl _ (.tmp 0) rfl (spC s) rfl ?_;simp only[Act.put,zQ,zZ,zJ];have K1:=zW (Blk.new w 55 (spC s));have BB:=zW (lV w (.cells (spC s) 55));obtain⟨g1,hg1⟩:∃g,w.heap.size=g:=⟨_,rfl⟩;rw[hg1]at K1⊢;clear hg1;generalize World.alloc w _=w1 at K1 BB⊢;go_upto_region 1 with fail;have LC:=zW (fun x:lA w1=>LL.out.step (BB.out.trans (x.below.mono BB.out.size)));have FC:=zW (fun x:lA w1=>FW.out _ (BB.out.trans (x.below.mono BB.out.size)));have CQ:=zW (lD K1.out);cases r<;>cases v
 rotate_left 3
 all_goals
  refine gD ?_
  repeat(first
   |(refine mN tL CQ.out rfl ?_ (.tmp 2) ?_ ?_ ?_;(focus rfl);(focus rfl);(focus(simp[Act.eval];done));simp only[Act.put,zQ,zZ,zJ])
   |go_big_quiet_step ((first|(go_at_call 15;exact nK (AW.out _ (LC.out _)))|(go_at_call 16;exact nK (FC.out _))|(go_at_call 19;exact nK (VA.out _)))))
  refine zY ?_
  intro _ hw'
  obtain⟨x,rfl⟩:=hw'
  have b1:=x.below
  generalize x.w=w2 at*
  have K1:=zW (K1.out.step b1)
  have BB:=zW (BB.out.trans (b1.mono BB.out.size))
  clear b1 LC FC CQ
 rotate_left 1
 all_goals try
  clear HR HV FW
  go_wp2_with fail
  refine(AW.out _ (LL.out.step BB.out)).mono ?_
  rintro e w3 ⟨rfl,b1⟩
  have BB:=zW (BB.out.trans (b1.mono BB.out.size))
  clear b1
  go_wp2
  go_ret
  exact⟨rfl,BB.out⟩
 have NK:=zW (pW HH.out.g HR.out);clear FW AW;have m8:(s.gn:Int)≤8:=by have:=NK.out;omega
 obtain⟨q,hq⟩:∃q,k%(s.gn+1)=q:=⟨_,rfl⟩;have qle:=zW (show q≤s.gn from by have:=kU k (show 0<s.gn+1 by omega);omega);have w0:IntKind.i64.wrap (k:Int)=(k:Int):=by rw[zU];have:=HK.out;omega
 have w1:IntKind.i64.wrap ((s.gn:Int)+1)=(s.gn:Int)+1:=by rw[zU];omega
 have w2e:IntKind.i64.wrap ((k:Int).tmod ((s.gn:Int)+1))=(q:Int):=by
  rw[iI _ _ (qG _),show(k:Int)%((s.gn:Int)+1)=(q:Int)from by rw[←hq];simp,zU];have:=qle.out;omega
 have z0:¬((s.gn:Int)+1=0):=zGX;have k13:w2.cell? ⟨g1,13,none⟩=some (.slice s.G s.gn s.gc):=(K1.out.cell 13).trans rfl;have hm:(k:Int)%((s.gn:Int)+1)=(q:Int):=by rw[←hq];simp
 have HM:=zW hm;clear hq hm;go_upto_region 4 with fail;rw[HM.out];clear w0 w1 w2e z0 HM;have q8:(q:Int)≤8:=by have:=qle.out;omega
 have qg:(q:Int)≤(s.gn:Int):=by have:=qle.out;omega
 have qc:(q:Int)≤(s.gc:Int):=by have:=qle.out;have:=HH.out.g.cap;omega
 have qcn:q≤s.gc:=by have:=qle.out;have:=HH.out.g.cap;omega
 refine zH ?_;refine lL tL K1.out rfl rfl (.tmp 2) rfl rfl ?_;simp only[Act.put,zQ,zZ,zJ];refine lO (ds:=spC s) tL TC rfl rfl (gZ _) rfl rfl rfl (.tmp 6) (.tmp 34) rfl zGK zGK ?_;simp only[Act.put,zQ,zZ,zJ];have K6:=zW (Blk.new w2 55 (spC s));have bh:=zW (lV w2 (.cells (spC s) 55));obtain⟨g6,hg⟩:∃g,w2.heap.size=g:=⟨_,rfl⟩;have GE:=zW (show w2.heap.size≤g6 from kE hg);rw[hg]at K6⊢;clear hg;generalize World.alloc w2 _=w3 at bh K6⊢;have f5:w3.frozen? ⟨g6,13,none⟩=false:=K6.out.frozen 13;have c5:w3.cell? ⟨g6,13,none⟩=some (.slice s.G s.gn s.gc):=(K6.out.cell 13).trans rfl;have k13:w3.cell? ⟨g1,13,none⟩=some (.slice s.G s.gn s.gc):=(bh.out.cell (p:=⟨g1,13,none⟩) K1.out.lt).trans k13;go_upto_region 6 with fail;have K6:=zW ((K6.out.put 13 (.slice s.G q s.gc)).eq (zZI s q));have bh:=zW (bh.out.setCell (p:=⟨g6,13,none⟩) GE.out (.slice s.G q s.gc));clear f5 c5;generalize World.setCell _ _ _=w4 at bh K6⊢;have bb:=bh.out;have K1:=zW (K1.out.step bb);have BB:=zW (BB.out.trans (bb.mono BB.out.size));clear bb;clear bh GE;clear qcn qc;go_upto_region 6 with fail;refine zH ?_;refine lL tL K1.out rfl rfl (.tmp 2) rfl rfl ?_;simp only[Act.put,zQ,zZ,zJ];go_wp2_with fail;refine(y8 (s) _).mono ?_;rintro e w5 ⟨rfl,bb⟩;have K1:=zW (K1.out.step bb);have BB:=zW (BB.out.trans (bb.mono BB.out.size));have K6:=zW (K6.out.step bb);clear bb;go_wp2_with fail;refine(u6 N CC.out EE.out (s) _ (LL.out.step BB.out) (HH.out.step BB.out) (HR.out)).mono ?_;rintro e w6 ⟨A1,n1,rfl,rd,bb⟩;rw[show erS s=0 from zN HV.out];have K1:=zW (K1.out.step bb);have BB:=zW (BB.out.trans (bb.mono BB.out.size));have K6:=zW (K6.out.step bb);clear bb;have RA:=zW rd;clear rd;simp only[];go_at_K
 iterate 10 go_step
 refine lO (ds:=rsK false (.slice A1 n1 n1)) vD cN rfl rfl (cH _ _ rfl) rfl rfl rfl (.tmp 7) (.tmp 44) rfl zGK zGK ?_;simp only[Act.put,zQ,zZ,zJ];have V7:=zW (Blk.new w6 61 (rsK false (.slice A1 n1 n1)));have bb:=lV w6 (.cells (rsK false (.slice A1 n1 n1)) 61);have K1:=zW (K1.out.step bb);have BB:=zW (BB.out.trans (bb.mono BB.out.size));have K6:=zW (K6.out.step bb);have RA:=zW (RA.out.step bb);clear bb;obtain⟨g7,hg⟩:∃g,w6.heap.size=g:=⟨_,rfl⟩;rw[hg]at V7⊢;clear hg;generalize World.alloc w6 _=w7 at K1 BB K6 RA V7⊢;go_upto_region 7 with fail;refine zH ?_;refine lL tL K6.out rfl rfl (.tmp 6) rfl rfl ?_;simp only[Act.put,zQ,zZ,zJ];go_wp2_with fail;refine(y8 (s.wg q) _).mono ?_;rintro e w8 ⟨rfl,bb⟩;have K1:=zW (K1.out.step bb);have BB:=zW (BB.out.trans (bb.mono BB.out.size));have K6:=zW (K6.out.step bb);have RA:=zW (RA.out.step bb);have V7:=zW (V7.out.step bb);clear bb;go_wp2_with fail;refine(u6 N CC.out EE.out (s.wg q) _ (LL.out.step BB.out) ((HH.out.step BB.out).wg q qle.out) (zNN HH.out HR.out q qle.out)).mono ?_;rintro e w9 ⟨A2,n2,rfl,rd,bb⟩;rw[show erS (s.wg q)=0 from zN HV.out];have K1:=zW (K1.out.step bb);have BB:=zW (BB.out.trans (bb.mono BB.out.size));have K6:=zW (K6.out.step bb);have RA:=zW (RA.out.step bb);have V7:=zW (V7.out.step bb);clear bb;rw[rsS_wg N s R L l q (by rw[HH.out.g.len];exact qle.out)]at rd;have RB22:=zW rd;clear rd;simp only[];go_at_K
 iterate 10 go_step
 refine lO (ds:=rsK false (.slice A2 n2 n2)) vD cN rfl rfl (cH _ _ rfl) rfl rfl rfl (.tmp 9) (.tmp 50) rfl zGK zGK ?_;simp only[Act.put,zQ,zZ,zJ];have V9:=zW (Blk.new w9 61 (rsK false (.slice A2 n2 n2)));have bb:=lV w9 (.cells (rsK false (.slice A2 n2 n2)) 61);have K1:=zW (K1.out.step bb);have BB:=zW (BB.out.trans (bb.mono BB.out.size));have K6:=zW (K6.out.step bb);have RA:=zW (RA.out.step bb);have V7:=zW (V7.out.step bb);have RB22:=zW (RB22.out.step bb);clear bb;obtain⟨g9,hg⟩:∃g,w9.heap.size=g:=⟨_,rfl⟩;rw[hg]at V9⊢;clear hg;generalize World.alloc w9 _=wa at K1 BB K6 RA V7 RB22 V9⊢;obtain⟨rz,hrz⟩:∃rz,rsS N s R L (l.map Fv.ev)=rz:=⟨_,rfl⟩;have RL:=zW (show rz.length=s.gn from by rw[←hrz,zJO N s R L _ HV.out,qI];exact HH.out.g.len);have RS:=zW (show∀i j r r',rz[i]?=some r→rz[j]?=some r'→i≤j→isE r=true→zJZ r r' from fun i j r r' hi hj h hk=>by rw[←hrz]at hi hj;exact UD N s R L _ i j r r' hi hj h hk);rw[hrz]at RA RB22;clear hrz;obtain rfl:s.gn=n1:=RL.out.symm.trans RA.out.len;obtain rfl:q=n2:=by have:=RB22.out.len;rw[qX,RL.out]at this;have:=qle.out;omega
 have k13:wa.cell? ⟨g1,13,none⟩=some (.slice s.G s.gn s.gc):=(K1.out.cell 13).trans rfl;have k7:wa.cell? ⟨g7,1,none⟩=some (.slice A1 s.gn s.gn):=(V7.out.cell 1).trans rfl;have k9:wa.cell? ⟨g9,1,none⟩=some (.slice A2 q q):=(V9.out.cell 1).trans rfl;have L7:=zW V7.out.lt;have L9:=zW V9.out.lt;have C7:=zW V7.out;have RC:=zW (show∀j,j<q→∃a b C,A1=some ⟨a,0,none⟩∧A2=some ⟨b,0,none⟩∧C.size=535∧hH Tryz.prog 45 C∧∀wr,Below wa.heap.size wa wr→wr.rangeAt a (j*535) C.toList∧wr.rangeAt b (j*535) C.toList from fun j hj=>by
  have hl:j<rz.length:=by rw[RL.out];have:=qle.out;omega
  obtain⟨a,ha,la,ra⟩:=RA.out.get hl;obtain⟨b,hb,lb,rb⟩:=RB22.out.get (i:=j) (by rw[RB22.out.len];exact hj);rw[jB]at rb;exact⟨a,b,nQ rz[j],ha,hb,mU _,MY _,fun wr bw=>⟨fun i v hv=>(bw.cell (p:=⟨a,j*535+i,none⟩) la).trans (ra i v hv),fun i v hv=>(bw.cell (p:=⟨b,j*535+i,none⟩) lb).trans (rb i v hv)⟩⟩)
 -- behind the end
 have RE:=zW (show∀(i:Nat) (re:cE),rz[i]?=some re→isE re=true→∃a,A1=some ⟨a,0,none⟩∧a<wa.heap.size∧∀j,i≤j→j<s.gn→∀wr,Below wa.heap.size wa wr→wr.rangeAt a (j*535+531) (xN re.k re.c re.p re.y).toList∧wr.rangeAt a (j*535) (cY re.P).toList∧wr.cell? ⟨a,j*535+512,none⟩=some (.bool re.hi)from fun i re hi hk=>by
  obtain⟨hli,_⟩:=jP.1 hi;obtain⟨a,ha,la,_⟩:=RA.out.get hli;refine⟨a,ha,la,fun j hij hj wr bw=>?_⟩;have hl:j<rz.length:=by rw[RL.out];exact hj
  obtain⟨a',ha',_,ra⟩:=RA.out.get hl;rw[ha]at ha';injection ha' with ha'
  injection ha' with ha'
  subst ha';obtain⟨s1,s2,s3,s4,s5,s6⟩:=RS.out i j re rz[j] hi (zS hl) hij hk;have rw':wr.rangeAt a (j*535) (nQ rz[j]).toList:=fun i v hv=>(bw.cell (p:=⟨a,j*535+i,none⟩) la).trans (ra i v hv);refine⟨oD rw' 531 4 (by rw[M9,s1,s2,s3,s4]),oD rw' 0 512 (by rw[oR,s5]),?_⟩;have:=rw' 512 (.bool rz[j].hi) (by rw[qO,bG _ zGL];rfl);rw[s6]at this;exact this)
 have BA:=zW BB.out
 have EN:=zW (fun u (bu:Below wa.heap.size wa u)=>fR false A1 s.gn s.gn rz u (fun h=>by
  obtain⟨g,e,r⟩:=RA.out.at_ h;exact⟨g,e,r.step bu⟩) RL.out zGX)
 clear RA RB22 RS;go_wp2_with fail;go_loopw [11] (fun i wr=>∃j:Nat,j≤q∧i=.int .i64 (j:Int)∧Below wa.heap.size wa wr) (fun i _=>q-(intOf i).toNat)
 case atStart=>exact⟨0,qW _,rfl,zB _ _⟩
 case round=>
  obtain⟨j,hj,rfl,hb⟩:=hrel
  have BW:=zW hb
  have k7o:=k7
  have k7:=(hb.cell (p:=⟨g7,1,none⟩) L7.out).trans k7
  have k9:=(hb.cell (p:=⟨g9,1,none⟩) L9.out).trans k9
  have BB:=zW (BB.out.trans (hb.mono BB.out.size))
  have KB:=zW hb.size
  clear hb
  by_cases hlt:j<q
  ·obtain⟨a,b,C,rfl,rfl,hC,hS,hr⟩:=RC.out j hlt
   have CE:=zW (zM hC hS)
   have AT:=zW hr
   have JX:=zW hlt
   have ji:(j:Int)<(q:Int):=zGX
   have jg:(j:Int)<(s.gn:Int):=zGX
   have j8:(j:Int)≤8:=zGX
   clear hr hC hS
   have QA:=zW (fun w' (h:∃x:lA wr,w'=x.w)=>show w'.rangeAt a (j*535) C.toList from by obtain⟨x,rfl⟩:=h;exact(AT.out _ (BW.out.trans (x.below.mono KB.out))).1)
   have QB:=zW (fun w' (h:∃x:lA wr,w'=x.w)=>show w'.rangeAt b (j*535) C.toList from by obtain⟨x,rfl⟩:=h;exact(AT.out _ (BW.out.trans (x.below.mono KB.out))).2)
   have q7:=lA.cell k7 (zD L7.out KB.out)
   have q9:=lA.cell k9 (zD L9.out KB.out)
   go_upto_region 13 with fail
   refine m7 zGV zGV ?_
   repeat(first
    |(refine vJ (o:=j*535) vF QA.out CE.out.1 ?_ (.tmp 82) ?_ ?_ ?_;(focus rfl);(focus rfl);(focus(simp[Act.eval];done));simp only[Act.put,zQ,zZ,zJ])
    |(refine vJ (o:=j*535) vF QB.out CE.out.1 ?_ (.tmp 87) ?_ ?_ ?_;(focus rfl);(focus rfl);(focus(simp[Act.eval];done));simp only[Act.put,zQ,zZ,zJ])
    |(refine uY CE.out.2 ?_ (.tmp 83) (.tmp 88) 45 ?_ ?_ ?_ ?_;(focus rfl);(focus rfl);(focus(simp[Act.eval];done));(focus(simp[Act.eval];done));simp only[Act.put,zQ,zZ,zJ])
    |go_big_quiet_step (fail))
   refine zY ?_
   intro _ hw'
   obtain⟨x,rfl⟩:=hw'
   have BW:=zW (BW.out.trans (x.below.mono KB.out))
   generalize x.w=wz at BW⊢
   clear q7 q9 QA QB
   go_wp2
   go_roundw
   case rel=>exact⟨j+1,JX.out,by go_num,BW.out⟩
   case measure=>have:=JX.out;simp[intOf];omega
  ·have ji:¬(j:Int)<(q:Int):=zGX
   have K7:=zW (show Blk g7 61 (rsK false (.slice A1 s.gn s.gn)) wr from(BW.out.block g7 L7.out).trans C7.out)
   go_upto_region 15 with fail
   refine zH ?_
   refine lL vD K7.out rfl rfl (.tmp 7) rfl rfl ?_
   simp only[Act.put,zQ,zZ,zJ]
   clear k7 k9
   go_wp2_with fail
   refine(EN.out wr BW.out).mono ?_
   rintro e wb ⟨v,rfl,hv,bb⟩
   have EV:=zW hv
   have BB:=zW (BB.out.trans (bb.mono BB.out.size))
   have BW:=zW (BW.out.trans (bb.mono KB.out))
   have KB:=zW BW.out.size
   clear hv bb K7 EN
   have k7:=(BW.out.cell (p:=⟨g7,1,none⟩) L7.out).trans k7o
   have hcase:v= -1∨∃(i:Nat) (re:cE),v=(i:Int)∧rz[i]?=some re∧isE re=true:=EV.out.imp (fun h=>h.1) fun⟨i,r,h1,h2,h3,_⟩=>⟨i,r,h1,h2,h3⟩
   clear EV
   rcases hcase with rfl|⟨i,re,rfl,hi,hk⟩
   ·have hmx:max (-1:Int) 0=0:=zGX
    go_wp2_with fail
    go_loopw [13] (fun i wr=>i=.int .i64 0∧Below wa.heap.size wa wr) (fun i _=>0)
    case atStart=>exact⟨rfl,BW.out⟩
    case round=>
     obtain⟨rfl,hb⟩:=hrel
     have k7:=(hb.cell (p:=⟨g7,1,none⟩) L7.out).trans k7o
     have BF:=zW (show Below w.heap.size w wr from BA.out.trans (hb.mono BA.out.size))
     rcases(show(0:Int)<(s.gn:Int)∨¬(0:Int)<(s.gn:Int) by omega)with h0|h0
     all_goals
      go_wp2
      go_returns
      exact⟨rfl,BF.out⟩
   ·have hmx:max (i:Int) 0=(i:Int):=zGX
    obtain⟨a,rfl,la,ha⟩:=RE.out i re hi hk
    have AT:=zW ha
    have IL:=zW (show i<s.gn from by rw[←RL.out];exact(jP.1 hi).1)
    have il:(i:Int)<(s.gn:Int):=by have:=IL.out;omega
    have i0:(0:Int)≤(i:Int):=zGX
    have i8:(i:Int)≤8:=zGX
    have LA:=zW la
    clear ha la hi hk
    obtain⟨SQ,hSQ⟩:∃C,xN re.k re.c re.p re.y=C:=⟨_,rfl⟩
    obtain⟨PQ,hPQ⟩:∃C,cY re.P=C:=⟨_,rfl⟩
    obtain⟨hh,hhh⟩:∃b,re.hi=b:=⟨_,rfl⟩
    have SE:=zW (show SQ.size=4∧hH Tryz.prog 34 SQ from by rw[←hSQ];exact⟨rfl,AY _ _ _ _⟩)
    have PE:=zW (show PQ.size=512∧hH Tryz.prog 42 PQ from by rw[←hPQ];exact⟨tZ _,zYH _⟩)
    rw[hSQ,hPQ,hhh]at AT
    clear hSQ hPQ hhh
    go_wp2_with fail
    go_loopw [13] (fun t wr=>∃j:Nat,i≤j∧j≤s.gn∧t=.int .i64 (j:Int)∧Below wa.heap.size wa wr) (fun t _=>s.gn-(intOf t).toNat)
    case atStart=>exact⟨i,zG _,j7 IL.out,rfl,BW.out⟩
    case round=>
     obtain⟨j,hij,hj,rfl,hb⟩:=hrel
     have BW:=zW hb
     have KB:=zW hb.size
     have k7:=(hb.cell (p:=⟨g7,1,none⟩) L7.out).trans k7o
     have BF:=zW (show Below w.heap.size w wr from BA.out.trans (hb.mono BA.out.size))
     clear hb
     by_cases hlt:j<s.gn
     ·have JX:=zW (zM hlt hij)
      have ji:(j:Int)<(s.gn:Int):=zGX
      have j8:(j:Int)≤8:=zGX
      have q7:=lA.cell k7 (zD L7.out KB.out)
      have QJ:=zW (fun w' (h:∃x:lA wr,w'=x.w)=>show w'.rangeAt a (j*535+531) SQ.toList∧w'.rangeAt a (j*535) PQ.toList∧w'.cell? ⟨a,j*535+512,none⟩=some (.bool hh)from by obtain⟨x,rfl⟩:=h;exact AT.out j hij hlt _ (BW.out.trans (x.below.mono KB.out)))
      have QI:=zW (fun w' (h:∃x:lA wr,w'=x.w)=>show w'.rangeAt a (i*535+531) SQ.toList∧w'.rangeAt a (i*535) PQ.toList∧w'.cell? ⟨a,i*535+512,none⟩=some (.bool hh)from by obtain⟨x,rfl⟩:=h;exact AT.out i (zG _) IL.out _ (BW.out.trans (x.below.mono KB.out)))
      have SJ:=zW (fun w' h=>(QJ.out w' h).1)
      have PJ:=zW (fun w' h=>(QJ.out w' h).2.1)
      have SI:=zW (fun w' h=>(QI.out w' h).1)
      have PI:=zW (fun w' h=>(QI.out w' h).2.1)
      have qj:∀x:lA wr,x.w.cell? ⟨a,j*535+512,none⟩=some (.bool hh):=fun x=>(QJ.out _ ⟨x,rfl⟩).2.2
      have qi:∀x:lA wr,x.w.cell? ⟨a,i*535+512,none⟩=some (.bool hh):=fun x=>(QI.out _ ⟨x,rfl⟩).2.2
      go_upto_region 19 with fail
      refine m7 zGV zGV ?_
      repeat(first
       |(refine vJ (o:=j*535+531) wV SJ.out SE.out.1 ?_ (.tmp 116) ?_ ?_ ?_;(focus rfl);(focus rfl);(focus(simp[Act.eval];done));simp only[Act.put,zQ,zZ,zJ])
       |(refine vJ (o:=i*535+531) wV SI.out SE.out.1 ?_ (.tmp 122) ?_ ?_ ?_;(focus rfl);(focus rfl);(focus(simp[Act.eval];done));simp only[Act.put,zQ,zZ,zJ])
       |(refine vJ (o:=j*535) XA PJ.out PE.out.1 ?_ (.tmp 130) ?_ ?_ ?_;(focus rfl);(focus rfl);(focus(simp[Act.eval];done));simp only[Act.put,zQ,zZ,zJ])
       |(refine vJ (o:=i*535) XA PI.out PE.out.1 ?_ (.tmp 136) ?_ ?_ ?_;(focus rfl);(focus rfl);(focus(simp[Act.eval];done));simp only[Act.put,zQ,zZ,zJ])
       |(refine uY SE.out.2 ?_ (.tmp 117) (.tmp 123) 34 ?_ ?_ ?_ ?_;(focus rfl);(focus rfl);(focus(simp[Act.eval];done));(focus(simp[Act.eval];done));simp only[Act.put,zQ,zZ,zJ])
       |(refine uY PE.out.2 ?_ (.tmp 131) (.tmp 137) 42 ?_ ?_ ?_ ?_;(focus rfl);(focus rfl);(focus(simp[Act.eval];done));(focus(simp[Act.eval];done));simp only[Act.put,zQ,zZ,zJ])
       |go_big_quiet_step (fail))
      refine zY ?_
      intro _ hw'
      obtain⟨x,rfl⟩:=hw'
      have BW:=zW (BW.out.trans (x.below.mono KB.out))
      generalize x.w=wz at BW⊢
      clear q7 qj qi SJ PJ SI PI QJ QI
      go_wp2
      go_roundw
      case rel=>exact⟨j+1,by have:=JX.out.2;omega,JX.out.1,by go_num,BW.out⟩
      case measure=>have:=JX.out.1;simp[intOf];omega
     ·have ji:¬(j:Int)<(s.gn:Int):=zGX
      go_wp2
      go_returns
      exact⟨rfl,BF.out⟩
end
end Go.Proofs.YtbpniahcjbagmaaGreatDoor
