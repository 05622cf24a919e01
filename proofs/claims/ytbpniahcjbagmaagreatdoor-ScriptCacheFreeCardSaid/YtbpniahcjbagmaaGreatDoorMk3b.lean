/- MacBoxK, MacBoxF, MacBoxX, MacBoxY, MacBoxD, MacBoxR, MacNew. -/
import Derived.Test.YtbpniahcjbagmaaGreatDoorMk3a
set_option maxRecDepth 400000
set_option maxHeartbeats 64000000
set_option linter.unusedVariables false
set_option linter.unusedSimpArgs false
namespace Go.Proofs.YtbpniahcjbagmaaGreatDoor
section
open Go.RowKit Num Dec Cpu
def onlyN(M:Act→World→Prop):Exit→Act→World→Prop
 |.normal,a,w=>M a w
 |_,_,_=>False
theorem zQE{P:Program}{c:Code}{Q:Exit→Act→World→Prop}{a:Act}{w:World}(Mid:Act→Act→World→Prop)(h1:c.wp P (onlyN (Mid a)) a w)(h2:∀a' w',Mid a a' w'→Q .normal a' w'):c.wp P Q a w:=
 Code.wp_mono (fun e a' w' h=>by
  cases e
  all_goals first
   |exact h2 _ _ h
   |exact absurd h id) h1
theorem pQ(s:mR)(b p mp:Nat)(k c pc y:Int):lP (mcc s b p mp) 11 (xN k c pc y)=mcc {s with k:=k,c:=c,p:=pc,y:=y} b p mp:=rfl
theorem E5:Tryz.prog.built 34 [(0,.int .i64 0)]=some (xN 0 0 0 0):=by kernel_rfl
theorem zXB(ks:List Ev)(e:Ev):∀j,j<16→ap (dnA ks) e j=dnA (ks++[e]) j:=fun j hj=>by
 rw[←zH4 _ j hj,zHX,zWY,IY];unfold ap;split
 ·rfl
 ·exact(zH4 _ j hj).symm
theorem MP.both{base mb b m g p mp h k:Nat}{pg:Nat→Option Nat}{v:Value}{en:Bool}{l:nB}{s s':mR}{a a':AS}{w w':World}(H:MP base mb b m g p mp pg v en l h k s a w)(hk:lS (fun j=>j=mb∨vH b m g v j) w w')(hb:Blk mb 101 (mcc s' b p mp) w')(hr:RC base ⟨0,a'.M⟩ b m g v a' w')(eM:a'.M=a.M)(eq:s'.q=s.q)(ex:s'.ex=s.ex)(ho:OkM s' a'):MP base mb b m g p mp pg v en l h k s' a' w':=by
 obtain⟨n,D,hm⟩:=H.fl;refine⟨hb,hr,?_,⟨n,D,vC hm (hk.block mp hm.lt fun c=>c.elim H.mp_no.1 H.mp_no.2.2)⟩,ho,H.low⟩;rw[eM,eq];exact H.co.kept hk fun j hj c=>by
  rcases c with rfl|c
  ·exact H.mb_ic hj
  ·exact H.own_ic j hj c
theorem JU{base mb b m g p mp h k:Nat}{pg:Nat→Option Nat}{v:Value}{en:Bool}{l:nB}{s:mR}{a:AS}{w:World}(H:MP base mb b m g p mp pg v en l h k s a w)(e:Ev)(hks:a.ks.length<1000):
  Calls Tryz.prog 26 #[.pointer (some ⟨mb,0,none⟩),.agg (ec e)] w fun x w'=>x=.returned (.tuple #[])∧MP base mb b m g p mp pg v en l h k (uE s a e) (wZ s a e) w'∧lS (rA mb b m g p mp pg v) w w':=by
 have OK:=zW (zLV H.ok e hks);have HR:=zW H.ok.rg;obtain⟨K1,hK1⟩:∃K,ap (dnA a.ks) e=K:=⟨_,rfl⟩;obtain⟨rl,hrl⟩:∃b,rel (dnA a.ks) e=b:=⟨_,rfl⟩;have RL:=zW hrl;have KN:=zW (show∀j,j<16→K1 j=dnA (a.ks++[e]) j from fun j hj=>by rw[←hK1];exact zXB _ _ j hj);have AP:=zW (fun u=>show Calls Tryz.prog 38 #[.agg (kc (dnA a.ks)),.agg (ec e)] u fun x w'=>x=.returned (.tuple #[.agg (kc K1),.bool rl])∧Below u.heap.size u w' from by rw[←hK1,←hrl];exact zZV _ e u);have HH:=zW H;clear H hks hK1 hrl;go_enter Tryz.func26,Tryz.ntmps26;go_upto_region 0 with fail;refine zH ?_;refine lE rfl _ (.tmp 1) rfl (ec e) rfl ?_;simp only[Act.put,zQ,zZ,zJ];refine wpList_nil ?_;have NQ:=zW (show w.heap.size≠b∧w.heap.size≠mb from⟨by have:=(HH.out.rc.lt b (.inl rfl)).2;omega,by have:=HH.out.bk.lt;omega⟩);have HH:=zW (HH.out.step (lV w (.cells (ec e) 69)));have EV:=zW (Blk.new w 69 (ec e));have BB:=zW (lV w (.cells (ec e) 69));obtain⟨q,hq⟩:∃q,w.heap.size=q:=⟨_,rfl⟩;rw[hq]at EV NQ⊢;clear hq;generalize World.alloc _ _=w1 at HH EV BB⊢;have c10:w1.cell? ⟨mb,10,none⟩=some (.pointer (some ⟨b,0,none⟩)):=(HH.out.bk.cell 10).trans rfl;go_wp2_with fail;refine(u9 HH.out.bk).mono ?_;rintro x w' ⟨rfl,rfl⟩;go_upto_region 3 with fail;refine wF (fun A a' w'=>∃gk,a'=(((((((((((A.put (some 15) (.pointer (some ⟨b,0,none⟩))).put (some 16) (.pointer (some ⟨b,0,none⟩))).put (some 17) (.pointer (some ⟨b,550,none⟩))).put (some 18) (.agg (kc (dnA a.ks)))).put (some 19) (.agg (ec e))).put (some 20) (.tuple #[.agg (kc K1),.bool rl])).put (some 14) (.tuple #[.agg (kc K1),.bool rl])).put (some 21) (.agg (kc K1))).put (some 22) (.bool rl)).put (some 5) (.pointer (some ⟨gk,0,none⟩))).put (some 6) (.bool rl))∧Blk gk 74 (kc K1) w'∧Below w1.heap.size w1 w') ?_ ?_
 refine nU (C:=fun w'=>∃u:lA w1,w'=u.w) (.branch [0,1,2,3,4] [5,9] (fun c=>if c=5 then .branch [6,7,8] [9] (fun c=> .branch [] [10] (fun c=> .last [11]))else .branch [] [5] (fun c=> .branch [6,7,8] [10] (fun c=> .last [11])))) zGV zGV (fun _ _ d _ _ h=>by cases h.1) ⟨⟨w1.drew,(zB _ _).drew⟩,rfl⟩ ?_
 intro wd hwd;have CB:=zW (show Below w1.heap.size w1 wd by rw[hwd];exact(zB _ _).drew);clear hwd;generalize wd=wn at CB⊢;have FE:=zW (fun(w':World) (h:∃u:lA w1,w'=u.w)=>(show Blk q 69 (ec e) w' from by obtain⟨u,rfl⟩:=h;exact EV.out.step u.below));have FS:=zW (fun(w':World) (h:∃u:lA w1,w'=u.w)=>(show Blk b 89 (stC a m g) w' from by obtain⟨u,rfl⟩:=h;exact HH.out.rc.st.step u.below));repeat' (first
  |exact fun _ h=>absurd h qT
  |with_reducible refine List.forall_mem_cons.2 ⟨?_,?_⟩
  |with_reducible show vA _ _ _ _ 5 _ _ _
   refine mB zGY zGM ?_
   intro K7 hK
   refine mK (g:=38) (caps:=#[]) (args:=#[.agg (kc (dnA a.ks)),.agg (ec e)]) (.func 38) #[.tmp 18,.tmp 19] _ rfl (enters_of Tryz.func38 zGV rfl) rfl zGK ?_
   refine(AP.out _).mono ?_
   rintro x wm ⟨rfl,bm⟩
   refine⟨_,rfl,?_⟩
   try have GK:=zW (GK.out.step bm)
   have CB:=zW (CB.out.trans (bm.mono CB.out.size))
   clear bm
   generalize wm=wn at*
   refine hK _ _ ⟨⟨_,CB.out⟩,rfl⟩ ?_
   clear hK K7
   try simp only[Act.put,zQ,zZ,zJ]
  |with_reducible show vA _ _ _ _ 9 _ _ _
   refine mB zGY zGM ?_
   intro K7 hK
   refine nJ F3 rfl ?_
   have GK:=zW (Blk.new wn 74 (kc up))
   have NG:=zW CB.out.size
   have CB:=zW (CB.out.trans ((lV wn (.cells (kc up) 74)).mono CB.out.size))
   obtain⟨gk,hgk⟩:∃q,wn.heap.size=q:=⟨_,rfl⟩
   rw[hgk]at GK NG⊢
   generalize World.alloc _ _=wn at*
   clear hgk
   refine hK _ _ ⟨⟨_,CB.out⟩,rfl⟩ ?_
   clear hK K7
   try simp only[Act.put,zQ,zZ,zJ]
  |with_reducible show vA _ _ _ _ 10 _ _ _
   refine mB zGY zGM ?_
   intro K7 hK
   refine nY (ds:=kc K1) tR GK.out (vB _) (vB _) (NA _) (.tmp 5) (.tmp 21) rfl zGK zGK ?_
   have GK:=zW (GK.out.store (kc K1))
   have CB:=zW (lU CB.out NG.out (kc K1))
   generalize World.setRow _ _ _=wn at*
   refine hK _ _ ⟨⟨_,CB.out⟩,rfl⟩ ?_
   clear hK K7
   try simp only[Act.put,zQ,zZ,zJ]
  |with_reducible show xV _ _ _ _ _ _ _
   refine vO zGW ?_
   repeat(go_big_quiet_step (rfl))
   refine zY ?_
   exact⟨rfl,gk,rfl,GK.out,CB.out⟩
  |with_reducible show xV _ _ _ _ _ _ _
   refine mF zGW ?_
   repeat(first
    |(refine lR (o:=550) tR FS.out zGG ?_ (.tmp 17) ?_ ?_ ?_;(focus rfl);(focus rfl);(focus(simp[Act.eval,Act.put];done));rw[AZ];simp only[Act.put,zQ,zZ,zJ])
    |(refine mN zH7 FE.out (zNT e) ?_ (.tmp 3) ?_ ?_ ?_;(focus rfl);(focus rfl);(focus(simp[Act.eval,Act.put];done));simp only[Act.put,zQ,zZ,zJ])
    |go_big_quiet_step (rfl))
   refine zY ?_)
 rintro _ w2 ⟨gk,rfl,gK,cB⟩
 have GK:=zW gK;have HH:=zW (HH.out.step cB);have EV:=zW (EV.out.step cB);have BB:=zW (BB.out.trans (cB.mono BB.out.size));clear gK cB;simp only[Act.put,zQ,zZ,zJ];go_upto_region 4 with fail;refine zH ?_;iterate 3 go_step
 refine lL tR GK.out (vB _) rfl (.tmp 5) rfl rfl ?_;simp only[Act.put,zQ,zZ,zJ];iterate 6 go_step
 refine nN (o:=550) (ds:=kc K1) tR HH.out.rc.st (vB _) zGG (NA _) rfl (.tmp 26) (.tmp 24) rfl rfl rfl ?_;simp only[Act.put,zQ,zZ,zJ];obtain⟨a2,ha2⟩:∃a2:AS,{a with ks:=a.ks++[e]}=a2:=⟨_,rfl⟩;have AA:=zW ha2;have R3:=zW (show RC base ⟨0,a2.M⟩ b m g v a2 (w2.setRow b (lP (stC a m g) 550 (kc K1)))from by rw[←ha2];exact HH.out.rc.row (T7 a m g (a.ks++[e]) KN.out) rfl rfl rfl HH.out.rc.res);have K3:=zW (show lS (fun j=>j=mb∨vH b m g v j) w2 (w2.setRow b (lP (stC a m g) 550 (kc K1)))from xR (.inr (.inl rfl)));have B3:=zW (show Blk mb 101 (mcc s b p mp) (w2.setRow b (lP (stC a m g) 550 (kc K1)))from(qQ _ _ _ _ fun c=>HH.out.mb_own (.inl c)).trans HH.out.bk);have E3:=zW (show Blk q 69 (ec e) (w2.setRow b (lP (stC a m g) 550 (kc K1)))from(qQ _ _ _ _ NQ.out.1).trans EV.out);clear ha2 EV GK;generalize World.setRow w2 b _=w3 at R3 K3 B3 E3⊢;have c11:w3.cell? ⟨mb,11,none⟩=some (.int .i64 s.k):=(B3.out.cell 11).trans rfl;have FIN:=zW (fun w' (h:lS (fun j=>j=mb∨vH b m g v j) w2 w')=>(show lS (rA mb b m g p mp pg v) w w' from(((lS.of_below BB.out).trans h fun k h=> .inl h).mono fun k _ h=>h.elim .inl fun h=> .inr (.inr (.inr h)))));have key:rl=false∨s.k≠1∨(rl=true∧s.k=1):=by cases rl<;>simp;omega
 rcases key with h|h|⟨h,h2⟩
 ·have NN:=zW (show rlM s a e=false by unfold rlM;rw[RL.out,h];rfl);have NE:=zW (show uE s a e=s∧wZ s a e=a2 by unfold uE wZ;rw[NN.out,←AA.out];exact⟨rfl,rfl⟩);have EM:=zW (show a2.M=a.M by rw[←AA.out]);subst h;exact zB1
 ·have hk':(s.k==1)=false:=by simpa using h
  have NN:=zW (show rlM s a e=false by unfold rlM;rw[zO h,Bool.and_false]);have NE:=zW (show uE s a e=s∧wZ s a e=a2 by unfold uE wZ;rw[NN.out,←AA.out];exact⟨rfl,rfl⟩);have EM:=zW (show a2.M=a.M by rw[←AA.out]);cases rl
  ·exact zB1
  ·exact zB1
 ·have hk':(s.k==1)=true:=by simp[h2]
  have YY:=zW (show rlM s a e=true by unfold rlM;rw[RL.out,h,h2];rfl);have EK:=zW (show 0≤e.k∧e.k≤15 by
   have h3:=RL.out;rw[h]at h3;unfold rel at h3;rw[zC,qK]at h3;exact h3.1)
  subst h;obtain⟨r,hr⟩:∃r:Nat,s.rg=(r:Int):=⟨s.rg.toNat,by have:=HR.out;omega⟩;have HG:=zW (show r<16 by have:=HR.out;omega);obtain⟨kk,hkk⟩:∃k:Nat,e.k=(k:Int):=⟨e.k.toNat,by have:=EK.out;omega⟩;have HKK:=zW (show kk<256 by have:=EK.out;omega);have NE:=zW (show uE s a e={s with k:=0,c:=0,p:=0,y:=0}∧wZ s a e={a2 with v:=Cpu.upd a2.v r kk} by unfold uE wZ;rw[YY.out,←AA.out,hr,hkk];exact⟨rfl,rfl⟩);have EM:=zW (show a2.M=a.M by rw[←AA.out]);have c15:w3.cell? ⟨mb,15,none⟩=some (.int .i64 (r:Int)):=(B3.out.cell 15).trans (by rw[←hr];rfl);have e0:w3.cell? ⟨q,0,none⟩=some (.int .i64 (kk:Int)):=(E3.out.cell 0).trans (by rw[←hkk];rfl);have wk:IntKind.u8.wrap (kk:Int)=(kk:Int):=by have:=HKK.out;rw[lZ];omega
  have fr:=R3.out.st.frozen r;have cr:=(R3.out.st.cell r).trans (mO a2 m g (j:=r) (by have:=HG.out;omega));have r0:(0:Int)≤(r:Int):=qG _;have r1:(r:Int)<16:=by have:=HG.out;omega
  clear hkk hr;go_upto_region 6 with fail;obtain⟨Mid,hMid⟩:∃M:Act→Act→World→Prop,M=(fun A a' w'=>a'=((((((((((((A.put (some 37) (.pointer (some ⟨b,0,none⟩))).put (some 38) (.pointer (some ⟨mb,0,none⟩))).put (some 39) (.pointer (some ⟨mb,0,none⟩))).put (some 40) (.pointer (some ⟨mb,10,none⟩))).put (some 41) (.pointer (some ⟨mb,15,none⟩))).put (some 42) (.int .i64 (r:Int))).put (some 43) (.pointer (some ⟨q,0,none⟩))).put (some 44) (.int .i64 (kk:Int))).put (some 45) (.int .u8 (kk:Int))).put (some 46) (.pointer (some ⟨b,0,none⟩))).put (some 47) (.pointer (some ⟨b,0,none⟩))).put (some 48) (.pointer (some ⟨b,r,none⟩)))∧w'=(w3.setCell ⟨b,r,none⟩ (.int .u8 (kk:Int))).drew):=⟨_,rfl⟩;have HMid:=zW hMid;clear hMid;refine zQE Mid ?_ ?_
  ·go_region_with (fail)
   all_goals (show Mid _ _ _;rw[HMid.out];refine⟨?_,rfl⟩;simp only[Act.put,zQ,zZ,zJ])
  intro a4 w4 h4;rw[HMid.out]at h4;obtain⟨rfl,h4⟩:=h4;clear HMid;have R4:=zW (show RC base ⟨0,a2.M⟩ b m g v {a2 with v:=Cpu.upd a2.v r kk} w4 from by
   rw[h4];exact RC.step (R3.out.put r _ (tE a2 m g r kk HG.out) rfl rfl rfl R3.out.res) (zB _ _).drew)
  have K4:=zW (show lS (fun j=>j=mb∨vH b m g v j) w2 w4 from by
   rw[h4];exact(K3.out.trans (yO (.inr (.inl rfl))) fun k h=> .inl h).trans (lS.of_below (zB _ _).drew) fun k h=> .inl h)
  have B4:=zW (show Blk mb 101 (mcc s b p mp) w4 from by
   rw[h4];exact(qD w3 ⟨b,r,none⟩ _ mb fun c=>HH.out.mb_own (.inl c)).trans B3.out)
  clear h4 c15 e0 wk fr cr c11 R3 K3 B3 E3;simp only[Act.put,zQ,zZ,zJ];go_upto_region 7 with fail;refine zH ?_;iterate 3 go_step
  refine lC (cs:=xN 0 0 0 0) rfl rfl (by simp[Act.eval];exact E5) ?_;simp only[Act.put,zQ,zZ,zJ];iterate 9 go_step
  refine nN (o:=11) (ds:=xN 0 0 0 0) wV B4.out rfl zG7 (dV _ _ _ _) rfl (.tmp 53) (.tmp 50) rfl rfl rfl ?_;simp only[Act.put,zQ,zZ,zJ];rw[pQ];have R5:=zW (R4.out.away B4.out ⟨by decide,by decide,by decide,by decide,by decide⟩ (w':=w4.setRow mb (mcc {s with k:=0,c:=0,p:=0,y:=0} b p mp)) (by simp[World.setRow]) (fun k hk=>qQ _ _ _ _ hk));have K5:=zW (show lS (fun j=>j=mb∨vH b m g v j) w2 (w4.setRow mb (mcc {s with k:=0,c:=0,p:=0,y:=0} b p mp))from K4.out.trans (xR (.inl rfl)) fun k h=> .inl h);have B5:=zW (B4.out.store (mcc {s with k:=0,c:=0,p:=0,y:=0} b p mp));clear R4 K4 B4;generalize World.setRow _ _ _=w5 at R5 K5 B5⊢;go_wp2;go_returns;rw[NE.out.1,NE.out.2]at OK⊢;exact⟨rfl,HH.out.both K5.out B5.out R5.out EM.out rfl rfl OK.out,FIN.out _ K5.out⟩
def flE(m:mR)(pc x y:Int)(e:Ef):mR:=
 if e.c≠0 then{m with k:=3,c:=e.c,p:=pc,y:=y}else
 if e.halt=true then{m with k:=2,c:=0,p:=pc,y:=y}else
 if e.wait=true then{m with k:=1,c:=0,p:=0,y:=0,rg:=x}else m
theorem zNL(m:mR)(pc x:Int)(e:Ef)(h:m.k=0∧m.c=0∧m.p=0∧m.y=0):flE {m with ex:=m.ex+1} pc x m.ex e=nmE m pc x e:=by
 unfold flE nmE;split
 ·rfl
 split
 ·rfl
 split
 ·rfl
 obtain⟨q,k,c,p,y,rg,ex⟩:=m;obtain⟨h1,h2,h3,h4⟩:=h;simp only at h1 h2 h3 h4;subst h1 h2 h3 h4;rfl
theorem E7:Tryz.prog.built 34 [(0,.int .i64 1)]=some (xN 1 0 0 0):=by kernel_rfl
theorem N4{mb b p mp q r:Nat}{s:mR}{pc y:Int}{e:Ef}{I:Ins}{w:World}(H:Blk mb 101 (mcc s b p mp) w)(H1:Blk q 3 #[.int .i64 pc] w)(H2:Blk r 3 #[.int .i64 y] w):
  Calls Tryz.prog 55 #[.pointer (some ⟨mb,0,none⟩),.agg (efc e),.agg (lB I),.func (.func 65) #[] #[.pointer (some ⟨q,0,none⟩),.pointer (some ⟨r,0,none⟩)]] w fun x w'=>x=.returned (.tuple #[])∧Blk mb 101 (mcc (flE s pc I.x y e) b p mp) w'∧lS (fun j=>j=mb) w w':=by
 have L0:=H.lt;have M1:=zW (((H.alloc (.cells (efc e) 133)).alloc (.cells (lB I) 128)));have Q1:=zW (((H1.alloc (.cells (efc e) 133)).alloc (.cells (lB I) 128)));have Q2:=zW (((H2.alloc (.cells (efc e) 133)).alloc (.cells (lB I) 128)));have E1:=zW ((Blk.new w 133 (efc e)).alloc (.cells (lB I) 128));have I1:=zW (Blk.new (w.alloc (.cells (efc e) 133)) 128 (lB I));have BB:=zW (show Below w.heap.size w ((w.alloc (.cells (efc e) 133)).alloc (.cells (lB I) 128))from((zB _ _).alloc (zG _) _).alloc zGN _);have NG:=zW (show w.heap.size+1≠mb by omega);clear H H1 H2 L0;go_enter Tryz.func55,Tryz.ntmps55;go_upto_region 0 with fail;refine zH ?_;refine lE rfl _ (.tmp 1) rfl (efc e) rfl ?_;simp only[Act.put,zQ,zZ,zJ];refine lE rfl _ (.tmp 2) rfl (lB I) rfl ?_;simp only[Act.put,zQ,zZ,zJ];refine wpList_nil ?_;simp only[zT]at I1⊢;obtain⟨g,hg⟩:∃g,w.heap.size=g:=⟨_,rfl⟩;rw[hg]at E1 I1 NG⊢;clear hg;generalize World.alloc (World.alloc _ _) _=w1 at M1 Q1 Q2 E1 I1 BB⊢;have e0:w1.cell? ⟨g,0,none⟩=some (.int .i64 e.c):=(E1.out.cell 0).trans rfl;have e1:w1.cell? ⟨g,1,none⟩=some (.bool e.halt):=(E1.out.cell 1).trans rfl;have e2:w1.cell? ⟨g,2,none⟩=some (.bool e.wait):=(E1.out.cell 2).trans rfl;have i1:w1.cell? ⟨g+1,1,none⟩=some (.int .i64 I.x):=(I1.out.cell 1).trans rfl;have KB:=zW (show lS (fun j=>j=mb) w w1 from lS.of_below BB.out);have SZ:=zW BB.out.size;by_cases hc:e.c=0
 ·by_cases hh:e.halt=true
  ·have FE:=zW (show flE s pc I.x y e={s with k:=2,c:=0,p:=pc,y:=y} by unfold flE;rw[zL (fun c=>c hc),zN hh]);have EN:=zW (J2 2 0 pc y q r w1 Q1.out Q2.out);rw[hh]at e1;rw[hc]at e0;go_wp2_with fail;refine EN.out.mono ?_;rintro x w2 ⟨rfl,b2⟩;have M2:=zW (M1.out.step b2);have K2:=zW (KB.out.trans (lS.of_below (O:=fun j=>j=mb) b2) fun k h=> .inl h);clear b2 EN e0 e1 e2 i1;simp only[];go_at_K
   iterate 10 go_step
   refine nN (o:=11) (ds:=xN 2 0 pc y) wV M2.out rfl zG7 (dV _ _ _ _) rfl (.tmp 28) (.tmp 25) rfl rfl rfl ?_;simp only[Act.put,zQ,zZ,zJ];rw[pQ];have M3:=zW (M2.out.store (mcc {s with k:=2,c:=0,p:=pc,y:=y} b p mp));have K3:=zW (K2.out.trans (uH (b:=mb) (cs:=mcc {s with k:=2,c:=0,p:=pc,y:=y} b p mp) (w:=w2)) fun k h=> .inl h);exact zRT
  ·have hh:e.halt=false:=by simpa using hh
   rw[hh]at e1;rw[hc]at e0;by_cases hw:e.wait=true
   ·have FE:=zW (show flE s pc I.x y e={{s with k:=1,c:=0,p:=0,y:=0}with rg:=I.x} by unfold flE;rw[zL (fun c=>c hc),zL (by rw[hh];decide),zN hw]);rw[hw]at e2;go_upto_region 6 with fail;refine zH ?_;iterate 3 go_step
    refine lC (cs:=xN 1 0 0 0) rfl rfl (by simp[Act.eval];exact E7) ?_;simp only[Act.put,zQ,zZ,zJ];iterate 9 go_step
    refine nN (o:=11) (ds:=xN 1 0 0 0) wV M1.out rfl zG7 (dV _ _ _ _) rfl (.tmp 36) (.tmp 33) rfl rfl rfl ?_;simp only[Act.put,zQ,zZ,zJ];rw[pQ];have M3:=zW (M1.out.store (mcc {s with k:=1,c:=0,p:=0,y:=0} b p mp));have I3:=zW (show Blk (g+1) 128 (lB I) (w1.setRow mb (mcc {s with k:=1,c:=0,p:=0,y:=0} b p mp))from(qQ _ _ _ _ NG.out).trans I1.out);have K3:=zW (KB.out.trans (uH (b:=mb) (cs:=mcc {s with k:=1,c:=0,p:=0,y:=0} b p mp) (w:=w1)) fun k h=> .inl h);clear e0 e1 e2 i1;generalize World.setRow _ _ _=w3 at M3 I3 K3⊢;have i1:w3.cell? ⟨g+1,1,none⟩=some (.int .i64 I.x):=(I3.out.cell 1).trans rfl;have c15:w3.cell? ⟨mb,15,none⟩=some (.int .i64 s.rg):=(M3.out.cell 15).trans rfl;have f15:=M3.out.frozen 15;go_wp2;go_returns;exact⟨rfl,by rw[FE.out];exact(M3.out.put 15 _).eq rfl,K3.out.trans (yO (O:=fun j=>j=mb) rfl) fun k h=> .inl h⟩
   ·have hw:e.wait=false:=by simpa using hw
    have FE:=zW (show flE s pc I.x y e=s by unfold flE;rw[zL (fun c=>c hc),zL (by rw[hh];decide),zL (by rw[hw];decide)]);rw[hw]at e2;go_wp2;go_returns;exact⟨rfl,by rw[FE.out];exact M1.out,KB.out⟩
 ·have FE:=zW (show flE s pc I.x y e={s with k:=3,c:=e.c,p:=pc,y:=y} by unfold flE;rw[zN hc]);have EN:=zW (J2 3 e.c pc y q r w1 Q1.out Q2.out);have h1:(e.c !=0)=true:=zG6;have h2:(e.c==0)=false:=zG6;go_wp2_with fail;refine EN.out.mono ?_;rintro x w2 ⟨rfl,b2⟩;have M2:=zW (M1.out.step b2);have K2:=zW (KB.out.trans (lS.of_below (O:=fun j=>j=mb) b2) fun k h=> .inl h);clear b2 EN e0 e1 e2 i1;simp only[];go_at_K
  iterate 10 go_step
  refine nN (o:=11) (ds:=xN 3 e.c pc y) wV M2.out rfl zG7 (dV _ _ _ _) rfl (.tmp 19) (.tmp 16) rfl rfl rfl ?_;simp only[Act.put,zQ,zZ,zJ];rw[pQ];have M3:=zW (M2.out.store (mcc {s with k:=3,c:=e.c,p:=pc,y:=y} b p mp));have K3:=zW (K2.out.trans (uH (b:=mb) (cs:=mcc {s with k:=3,c:=e.c,p:=pc,y:=y} b p mp) (w:=w2)) fun k h=> .inl h);exact zRT
theorem zQ6(c:Int):Tryz.prog.built 133 [(0,.int .i64 c)]=some (efc ⟨c,false,false,false⟩):=by kernel_rfl
theorem N6{base mb b m g p mp h k:Nat}{pg:Nat→Option Nat}{v:Value}{en:Bool}{l:nB}{s:mR}{a:AS}{w:World}(H:MP base mb b m g p mp pg v en l h k s a w)(I:Ins)(hl:0≤I.len∧I.len≤4)(c:Int)(hc:chk a.pc I.len s.q.fa=c)(h0:c≠0):
  Calls Tryz.prog 52 #[.pointer (some ⟨mb,0,none⟩),.agg (lB I)] w fun e w'=>e=.returned (.agg (efc ⟨c,false,false,false⟩))∧Below w.heap.size w w':=by
 have CK:=zW (fun u=>show Calls Tryz.prog 66 #[.int .i64 a.pc,.int .i64 I.len,.bool s.q.fa] u fun e w'=>e=.returned (.int .i64 c)∧u=w' from by rw[←hc];exact rX a.pc I.len s.q.fa u H.ok.ok.o.pc.1 H.ok.ok.o.pc.2 hl.1 zGX);have BB:=zW (show Below w.heap.size w ((w.alloc (.cells (lB I) 128)).alloc (.cells (efc ⟨0,false,false,false⟩) 133))from((zB _ _).alloc (zG _) _).alloc zGN _);have HH:=zW (H.step BB.out);have I1:=zW ((Blk.new w 128 (lB I)).alloc (.cells (efc ⟨0,false,false,false⟩) 133));have R1:=zW (Blk.new (w.alloc (.cells (lB I) 128)) 133 (efc ⟨0,false,false,false⟩));have h1:(c !=0)=true:=by simpa using h0
 have h2:(c==0)=false:=by simpa using h0
 clear H hl hc;go_enter Tryz.func52,Tryz.ntmps52;go_upto_region 0 with fail;refine zH ?_;refine lE rfl _ (.tmp 1) rfl (lB I) rfl ?_;simp only[Act.put,zQ,zZ,zJ];refine qZ rfl fun K hK=>nJ iY rfl (hK _ _ ?_);clear hK K;simp only[Act.put,zQ,zZ,zJ];refine wpList_nil ?_;simp only[zT]at R1⊢;obtain⟨q,hq⟩:∃q,w.heap.size=q:=⟨_,rfl⟩;have AT:=zW (show w.heap.size≤q+1 by omega);rw[hq]at I1 R1⊢;clear hq;generalize World.alloc (World.alloc _ _) _=w1 at BB HH I1 R1⊢;have c10:w1.cell? ⟨mb,10,none⟩=some (.pointer (some ⟨b,0,none⟩)):=(HH.out.bk.cell 10).trans rfl;have c7:w1.cell? ⟨mb,7,none⟩=some (.bool s.q.fa):=(HH.out.bk.cell 7).trans rfl;have s17:w1.cell? ⟨b,17,none⟩=some (.int .i64 a.pc):=(HH.out.rc.st.cell 17).trans ((mO a m g (j:=17) zGX).trans rfl);have i6:w1.cell? ⟨q,6,none⟩=some (.int .i64 I.len):=(I1.out.cell 6).trans rfl;have k10:=lA.cell c10 HH.out.bk.lt;have k7:=lA.cell c7 HH.out.bk.lt;have k17:=lA.cell s17 HH.out.rc.st.lt;have k6:=lA.cell i6 I1.out.lt;clear c10 c7 s17 i6;go_upto_region 1 with fail;refine m7 zGV zGV ?_;repeat(go_big_quiet_step ((go_at_call 66;exact cJ (CK.out _))))
 refine zY ?_;intro _ hw';obtain⟨x',rfl⟩:=hw';have b2:=zW x'.below;generalize x'.w=w2 at*;have R1:=zW (R1.out.step b2.out);have BB:=zW (BB.out.trans (b2.out.mono BB.out.size));clear b2 k10 k7 k17 k6 CK HH I1;go_upto_region 3 with fail;refine zH ?_;iterate 3 go_step
 refine lC (cs:=efc ⟨c,false,false,false⟩) rfl rfl (by simp[Act.eval];exact zQ6 c) ?_;simp only[Act.put,zQ,zZ,zJ];refine lM (ds:=efc ⟨c,false,false,false⟩) fI R1.out rfl rfl (pM _) rfl (.tmp 4) (.tmp 25) rfl rfl rfl ?_;simp only[Act.put,zQ,zZ,zJ];have RW:=zW (R1.out.store (efc ⟨c,false,false,false⟩));have BW:=zW (lU BB.out AT.out (efc ⟨c,false,false,false⟩));clear R1 BB;generalize World.setRow _ _ _=w3 at RW BW⊢;go_wp2_with fail;iterate 4 (try go_step)
 exact zP (zE rfl _ _ (q+1) _ _ _ _ rfl RW.out Tryz.underlying133 rfl (by rw[fI.i];rfl)) rfl ⟨rfl,BW.out⟩
structure MxW(mb q:Nat)(cs ds:Array Value) where
 w:World
 m:Blk mb 101 cs w
 i:Blk q 128 ds w
theorem N7(N:Nat)(E0:uP N){base mb b m g p mp h k:Nat}{pg:Nat→Option Nat}{v:Value}{en:Bool}{l:nB}{s:mR}{a:AS}{w:World}(H:MP base mb b m g p mp pg v en l h k s a w)(L:cQ w)(op:Int)(x y n nn:Nat)(ad len:Int)(hc:chk a.pc len s.q.fa=0)(hd:QP ⟨op,x,y,n,nn,ad,len⟩ s.q.lv)(h1:0≤op∧op≤51)(h2:x<16)(h3:y<16)(h4:n<16)(h5:nn<256)(h6:0≤ad∧ad≤65535)(hl:0≤len∧len≤4)(hb:base≤w.heap.size):
  Calls Tryz.prog 52 #[.pointer (some ⟨mb,0,none⟩),.agg (lB ⟨op,x,y,n,nn,ad,len⟩)] w fun e w'=>e=.returned (.agg (efc (efA a op x y n s.q)))∧∃v',RC base ((⟨0,a.M⟩:Lg)+lgE op) b m g v' (stA N a op x y n nn ad len s.q) w'∧lS (vH b m g v) w w'∧(v'.ownBlock=v.ownBlock∨∃k,v'.ownBlock=some k∧w.heap.size≤k):=by
 obtain⟨I,hI⟩:∃I:Ins,⟨op,x,y,n,nn,ad,len⟩=I:=⟨_,rfl⟩;have hlen:I.len=len:=by rw[←hI]
 have XEX:=zW (fun u (bu:Below w.heap.size w u)=>(hI▸E0 base ⟨0,a.M⟩ b m g v a op x y n nn ad len s.q u (H.rc.step bu) H.ok.ok (qW 900) h1 h2 h3 h4 h5 h6 hl (zR hb bu.size)));have OW:=zW (fun k hk=>(H.rc.lt k hk).2);rw[hI];have CK:=zW (fun u=>show Calls Tryz.prog 66 #[.int .i64 a.pc,.int .i64 I.len,.bool s.q.fa] u fun e w'=>e=.returned (.int .i64 0)∧u=w' from by rw[hlen,←hc];exact rX a.pc len s.q.fa u H.ok.ok.o.pc.1 H.ok.ok.o.pc.2 hl.1 zGX);have BB:=zW (show Below w.heap.size w ((w.alloc (.cells (lB I) 128)).alloc (.cells (efc ⟨0,false,false,false⟩) 133))from((zB _ _).alloc (zG _) _).alloc zGN _);have HH:=zW (H.step BB.out);have I1:=zW ((Blk.new w 128 (lB I)).alloc (.cells (efc ⟨0,false,false,false⟩) 133));have R1:=zW (Blk.new (w.alloc (.cells (lB I) 128)) 133 (efc ⟨0,false,false,false⟩));clear H hl hc hd h1 h2 h3 h4 h5 h6 hb L hI hlen;go_enter Tryz.func52,Tryz.ntmps52;go_upto_region 0 with fail;refine zH ?_;refine lE rfl _ (.tmp 1) rfl (lB I) rfl ?_;simp only[Act.put,zQ,zZ,zJ];refine qZ rfl fun K hK=>nJ iY rfl (hK _ _ ?_);clear hK K;simp only[Act.put,zQ,zZ,zJ];refine wpList_nil ?_;simp only[zT]at R1⊢;obtain⟨q,hq⟩:∃q,w.heap.size=q:=⟨_,rfl⟩;have AT:=zW (show w.heap.size≤q+1 by omega);have AQ:=zW (show w.heap.size≤q by omega);rw[hq]at I1 R1⊢;clear hq;generalize World.alloc (World.alloc _ _) _=w1 at BB HH I1 R1⊢;have c10:w1.cell? ⟨mb,10,none⟩=some (.pointer (some ⟨b,0,none⟩)):=(HH.out.bk.cell 10).trans rfl;have c7:w1.cell? ⟨mb,7,none⟩=some (.bool s.q.fa):=(HH.out.bk.cell 7).trans rfl;have s17:w1.cell? ⟨b,17,none⟩=some (.int .i64 a.pc):=(HH.out.rc.st.cell 17).trans ((mO a m g (j:=17) zGX).trans rfl);have i6:w1.cell? ⟨q,6,none⟩=some (.int .i64 I.len):=(I1.out.cell 6).trans rfl;have k10:=lA.cell c10 HH.out.bk.lt;have k7:=lA.cell c7 HH.out.bk.lt;have k17:=lA.cell s17 HH.out.rc.st.lt;have k6:=lA.cell i6 I1.out.lt;clear c10 c7 s17 i6;go_upto_region 1 with fail;refine m7 zGV zGV ?_;repeat(go_big_quiet_step ((go_at_call 66;exact cJ (CK.out _))))
 refine zY ?_;intro _ hw';obtain⟨x',rfl⟩:=hw';have b2:=zW x'.below;generalize x'.w=w2 at*;have R1:=zW (R1.out.step b2.out);have I1:=zW (I1.out.step b2.out);have HH:=zW (HH.out.step b2.out);have BB:=zW (BB.out.trans (b2.out.mono BB.out.size));clear b2 k10 k7 k17 k6 CK;have k10:∀u:MxW mb q (mcc s b p mp) (lB I),u.w.cell? ⟨mb,10,none⟩=some (.pointer (some ⟨b,0,none⟩)):=fun u=>(u.m.cell 10).trans rfl;go_upto_region 4 with fail;refine nU (C:=fun w'=>∃u:MxW mb q (mcc s b p mp) (lB I),w'=u.w) (.branch [0,1,2,3,4,5,6,7,8,9] [10] (fun c=> .branch [] [11] (fun c=> .last []))) zGV zGV (fun _ _ d _ _ h=>by cases d<;>exact h) ⟨⟨w2.drew,HH.out.bk.drew,I1.out.drew⟩,rfl⟩ ?_;intro wd hwd;have CB:=zW (show Below w2.heap.size w2 wd by rw[hwd];exact(zB _ _).drew);clear hwd;have FE:=zW (fun(w':World) (h:∃u:MxW mb q (mcc s b p mp) (lB I),w'=u.w)=>(show Blk q 128 (lB I) w' from by obtain⟨u,rfl⟩:=h;exact u.i));have FP:=zW (fun(w':World) (h:∃u:MxW mb q (mcc s b p mp) (lB I),w'=u.w)=>(show Blk mb 101 (mcc s b p mp) w' from by obtain⟨u,rfl⟩:=h;exact u.m));refine mF zGW ?_;repeat(first
  |(refine mN dJ FE.out rfl ?_ (.tmp 3) ?_ ?_ ?_;(focus rfl);(focus rfl);(focus(simp[Act.eval,Act.put];done));simp only[Act.put,zQ,zZ,zJ])
  |(refine lR (o:=0) tM FP.out (by show 0+8≤17;decide) ?_ (.tmp 34) ?_ ?_ ?_;(focus rfl);(focus rfl);(focus(simp[Act.eval,Act.put];done));rw[show(mcc s b p mp).extract 0 (0+8)=prc s.q from rfl];simp only[Act.put,zQ,zZ,zJ])
  |go_big_quiet_step (rfl))
 refine zY ?_
 refine List.forall_mem_cons.2 ⟨?_,fun _ h=>absurd h qT⟩;refine mB zGY zGM ?_;intro K7 hK;refine mK (g:=67) (caps:=#[]) (args:=#[.pointer (some ⟨b,0,none⟩),.agg (lB I),.agg (prc s.q)]) (.func 67) #[.tmp 30,.tmp 31,.tmp 35] _ rfl (enters_of Tryz.func67 zGV rfl) rfl zGK ?_;have BD:=zW (BB.out.trans (CB.out.mono BB.out.size));refine(XEX.out wd BD.out).mono ?_;rintro e w3 ⟨rfl,v',rc,kk,vv⟩;refine⟨_,rfl,?_⟩;have M3:=zW (show Blk mb 101 (mcc s b p mp) w3 from(kk.block mb (HH.out.bk.step CB.out).lt HH.out.mb_own).trans (HH.out.bk.step CB.out));have I3:=zW (show Blk q 128 (lB I) w3 from(kk.block q (I1.out.step CB.out).lt fun c=>by have:=OW.out q c;have:=AQ.out;omega).trans (I1.out.step CB.out));have R3:=zW (show Blk (q+1) 133 (efc ⟨0,false,false,false⟩) w3 from(kk.block (q+1) (R1.out.step CB.out).lt fun c=>by have:=OW.out (q+1) c;have:=AT.out;omega).trans (R1.out.step CB.out));have C3:=zW rc;have K3:=zW ((lS.of_below (O:=vH b m g v) BD.out).trans kk fun k h=> .inl h);have V3:=zW (show v'.ownBlock=v.ownBlock∨∃k,v'.ownBlock=some k∧w.heap.size≤k from vv.imp id fun⟨k,e1,e2⟩=>⟨k,e1,zR BD.out.size e2⟩);clear rc kk vv XEX;refine hK _ _ ⟨⟨w3,M3.out,I3.out⟩,rfl⟩ ?_;clear hK K7;simp only[Act.put,zQ,zZ,zJ];refine mF zGF ?_;refine zY ?_;refine List.forall_mem_cons.2 ⟨?_,fun _ h=>absurd h qT⟩;refine mB zGY zGM ?_;intro K7 hK;refine nY (ds:=efc (efA a op x y n s.q)) fI R3.out rfl rfl (pM _) (.tmp 4) (.tmp 36) rfl zGK zGK ?_;have M4:=zW (show Blk mb 101 (mcc s b p mp) (w3.setRow (q+1) (efc (efA a op x y n s.q)))from(qQ _ _ _ _ (fun c=>by have h1:=R3.out;have h2:=M3.out;rw[c]at h2;exact absurd (gF h2 h1) zGL)).trans M3.out);have I4:=zW (show Blk q 128 (lB I) (w3.setRow (q+1) (efc (efA a op x y n s.q)))from(qQ _ _ _ _ zGX).trans I3.out);have R4:=zW (R3.out.store (efc (efA a op x y n s.q)));have C4:=zW (C3.out.away R3.out ⟨by decide,by decide,by decide,by decide,by decide⟩ (w':=w3.setRow (q+1) (efc (efA a op x y n s.q))) (by simp[World.setRow]) (fun k hk=>qQ _ _ _ _ hk));have K4:=zW (K3.out.trans (uH (b:=q+1) (cs:=efc (efA a op x y n s.q)) (w:=w3)) fun k h=> .inr (by rw[h];exact AT.out));clear M3 I3 R3 C3 K3;generalize World.setRow _ _ _=w4 at M4 I4 R4 C4 K4⊢;refine hK _ _ ⟨⟨w4,M4.out,I4.out⟩,rfl⟩ ?_;clear hK K7;simp only[Act.put,zQ,zZ,zJ];refine vO zGF ?_;refine zY ?_;go_wp2_with fail;iterate 4 (try go_step)
 exact zP (zE rfl _ _ (q+1) _ _ _ _ rfl R4.out Tryz.underlying133 rfl (by rw[fI.i];rfl)) rfl ⟨rfl,v',C4.out,K4.out,V3.out⟩
theorem zYL(S:List (Int×Int)):(spV S).length=S.length*2:=by
 induction S with
 |nil=>rfl
 |cons s t ih=>simp[spV]at ih⊢;omega
theorem MX:∀(S:List (Int×Int)) (i:Nat) (hi:i<S.length),(spV S)[i*2]?=some (.int .i64 S[i].1)∧(spV S)[i*2+1]?=some (.int .i64 S[i].2)
 |[],i,hi=>absurd hi (Nat.not_lt_zero _)
 |s::t,0,_=>⟨rfl,rfl⟩
 |s::t,i+1,hi=>by
  obtain⟨h1,h2⟩:=MX t i (by simpa using hi);have e1:spV (s::t)=.int .i64 s.1:: .int .i64 s.2::spV t:=rfl;rw[e1,show(i+1)*2=i*2+1+1 by omega,zK,zK,show i*2+1+1+1=(i*2+1)+1+1 by omega,zK,zK];exact⟨h1,h2⟩
theorem QX.spans{base:Nat}{lg:Lg}{M:List Int}{v:Value}{w:World}(h:QX base lg M v w):∃A c,∃S:List (Int×Int),v=.slice A S.length c∧S.length≤lg.n∧(∀s∈S,0≤s.1∧s.1≤65535∧0≤s.2∧s.2≤65536)∧(∀j:Nat,j<65536→(∀s∈S,¬((j:Int)-s.1)%65536<s.2)→M[j]?=lg.Z[j]?)∧
  ∀O:Nat→Prop,(∀k,v.ownBlock=some k→¬O k)→RgR w A S O:=by
 obtain⟨n,xs,o,hn,h0,_,S,rfl,hs,hd⟩:=h;have hl:=o.1;rw[zYL]at hl;have hn2:n=S.length:=zGX;subst hn2;rcases o.2 with⟨e,e0⟩|⟨g,cap,cur,e,_,hh,_⟩
 ·subst e;refine⟨none,0,S,by rw[e0],by omega,hs,hd,fun O _ i hi=>absurd hi zGX⟩
 ·subst e;refine⟨some ⟨g,0,none⟩,cap,S,rfl,hn,hs,hd,fun O hO i hi=>⟨g,0,rfl,(qM.1 hh).1,hO g rfl,?_,?_⟩⟩
  ·rw[qL];have h:=o.cells (g:=g) rfl (i*2) _ (MX S i hi).1;rw[pU,qL]at h;exact h
  ·rw[qL];have h:=o.cells (g:=g) rfl (i*2+1) _ (MX S i hi).2;rw[pU,qL]at h;exact h
theorem WC{base:Nat}{lg:Lg}{b m g:Nat}{v:Value}{a:AS}{w:World}(H:RC base lg b m g v a w)(hM:a.M.length=65536):
  Calls Tryz.prog 54 #[.pointer (some ⟨m,0,none⟩)] w fun e w'=>e=.returned v∧RC base ⟨0,a.M⟩ b m g (.slice none 0 0) a w'∧lS (fun k=>k=m) w w':=by
 obtain⟨A,c,S,ev,_⟩:=H.log.spans;have hm:=H.mem;rw[ev]at hm;refine(zQG m a.M A S.length c w hM hm).mono ?_;rintro e w' ⟨rfl,mm,ap⟩;have kk:lS (fun k=>k=m) w w':=(lS.of_apart (ap none)).mono fun k _ h=>h.elim id fun h=>(by cases h);refine⟨by rw[ev],⟨(kk.block b H.st.lt H.ne.1).trans H.st,mm,NF _ _ _,?_,H.res,H.bb,H.bm⟩,kk⟩;obtain⟨A,c,hb,o⟩:=H.rnd.held;refine⟨H.rnd.low,A,c,(kk.block g H.rnd.lt (fun e=>H.ne.2.2.1 e.symm)).trans hb,cV o kk ?_⟩;exact fun j ej e=>H.row_off o ⟨by decide,by decide,by decide,by decide⟩ j ej (.inr (.inl e))
theorem oE{H:Type}{P:Program}{e:TypeId}(he:P.underlying e=some .bool){v:Value}{z:DataW H×List MemPlace}(h:plainElem P e v=some z):∃x,v=.bool x:=by
 unfold plainElem at h;rw[he]at h;cases v<;>simp at h
 exact⟨_,rfl⟩
theorem MP.look{base mb b m g p mp h k:Nat}{pg:Nat→Option Nat}{v:Value}{en:Bool}{l:nB}{s:mR}{a:AS}{w:World}(H:MP base mb b m g p mp pg v en l h k s a w)(ex:0≤s.ex∧s.ex≤1000000000):∃x:Bool,∀u:World,u.heap[mp]?=w.heap[mp]?→(Instr.lookup 99 (.map (some mp)) (.int .i64 s.ex) false).run Tryz.prog u=.ok (.bool x) u:=by
 obtain⟨n,D,hm⟩:=H.fl;have hk:keyOf Tryz.prog 3 (.int .i64 s.ex)=some (.int .i64 s.ex):=rZ s.ex (by simp only[Lit.wf,zC,qK];simp[IntKind.min,IntKind.max,IntKind.bits];omega);have key:∀u:World,u.heap[mp]?=w.heap[mp]?→∃x:Bool,(Instr.lookup 99 (.map (some mp)) (.int .i64 s.ex) false).run Tryz.prog u=.ok (.bool x) u∧D.atKey (.int .i64 s.ex) (.lit (.bool false))=.lit (.bool x):=fun u hu=>by
  obtain⟨y,ps,hr,hv⟩:=(vC hm hu).lookup uG Tryz.underlying99 (z:=.bool false) rfl (plainElem_bool Tryz.underlying4 false) hk;obtain⟨x,rfl⟩:=oE Tryz.underlying4 hv;rw[plainElem_bool Tryz.underlying4]at hv;injection hv with hv
  injection hv with hv _
  exact⟨x,hr,hv.symm⟩
 obtain⟨x,_,e⟩:=key w rfl;refine⟨x,fun u hu=>?_⟩;obtain⟨y,hr,e2⟩:=key u hu;rw[e]at e2;injection e2 with e2
 injection e2 with e2
 rw[hr,e2]
theorem own_ic{base:Nat}{lg:Lg}{b m g p h k:Nat}{pg:Nat→Option Nat}{v:Value}{lv:Int}{en:Bool}{l:nB}{M:List Int}{a:AS}{w:World}(C:CoC pg p lv en l h k M w)(R:RC base lg b m g v a w):∀j,icO pg p j→¬vH b m g v j:=fun j c d=>by
 obtain⟨cs,T,hb,hT⟩:=C.tag j c;obtain⟨ds,U,fr,h2,hU⟩:=R.tag j d;have e:=gF hb h2;subst e;rcases hT with rfl|rfl<;>(rcases hU with e|e|e|e<;>exact absurd e zGL)
theorem mb_own{base:Nat}{lg:Lg}{b m g mb:Nat}{v:Value}{a:AS}{cs:Array Value}{w:World}(B:Blk mb 101 cs w)(R:RC base lg b m g v a w):¬vH b m g v mb:=fun d=>by
 obtain⟨ds,U,fr,h2,hU⟩:=R.tag mb d;have e:=gF B h2;subst e;rcases hU with e|e|e|e<;>exact absurd e zGL
theorem mb_ic{p h k mb:Nat}{pg:Nat→Option Nat}{lv:Int}{en:Bool}{l:nB}{M:List Int}{cs:Array Value}{w:World}(B:Blk mb 101 cs w)(C:CoC pg p lv en l h k M w):¬icO pg p mb:=fun d=>by
 obtain⟨cs,T,hb,hT⟩:=C.tag mb d;have e:=gF B hb;subst e;rcases hT with e|e<;>exact absurd e zGL
theorem RC.down{base base2:Nat}{lg:Lg}{b m g:Nat}{v:Value}{a:AS}{w:World}(h:RC base lg b m g v a w)(hb:base2≤base):RC base2 lg b m g v a w:=
 ⟨h.st,h.mem,(by obtain⟨n,xs,o,r⟩:=h.log;exact⟨n,xs,bR o hb,r⟩),h.rnd.mono hb,h.res,zR hb h.bb,zR hb h.bm⟩
theorem ZU{q:Nat}{T:TypeId}{cs:Array Value}{w:World}(h:Blk q T cs w)(hT:T≠5)(ds:Array Value)(fr:Nat×Nat):w.heap[q]?≠some (.cells ds 5 fr):=fun e=>hT (gF h e)
theorem RC.keep{base:Nat}{lg:Lg}{b m g:Nat}{v:Value}{a:AS}{w w':World}{O:Nat→Prop}(h:RC base lg b m g v a w)(k:lS O w w')(hd:∀j,vH b m g v j→¬O j)(hu:∀j,O j→∀cs fr,w.heap[j]?≠some (.cells cs 5 fr)):RC base lg b m g v a w':=by
 have blk:∀j,vH b m g v j→w'.heap[j]?=w.heap[j]?:=fun j hj=>k.block j (h.lt j hj).2 (hd j hj);refine⟨(blk b (.inl rfl)).trans h.st,(blk m (.inr (.inl rfl))).trans h.mem,?_,?_,h.res,h.bb,h.bm⟩
 ·obtain⟨n,xs,o,r⟩:=h.log;exact⟨n,xs,cV o k fun j ej=>hd j (.inr (.inr (.inr ej))),r⟩
 ·obtain⟨A,c,hb,o⟩:=h.rnd.held;refine⟨h.rnd.low,A,c,(blk g (.inr (.inr (.inl rfl)))).trans hb,cV o k fun j ej hj=>?_⟩;rcases o.2 with⟨e1,_⟩|⟨g',cap,cur,e1,_,h2,_⟩
  ·rw[e1]at ej;cases ej
  ·rw[e1]at ej;cases ej
   exact hu _ hj _ _ h2
theorem MP.map{base mb b m g p mp h k:Nat}{pg:Nat→Option Nat}{v:Value}{en:Bool}{l:nB}{s:mR}{a:AS}{w w':World}(H:MP base mb b m g p mp pg v en l h k s a w)(kk:lS (fun j=>j=mp) w w'){n:Nat}{D:DataW Unit}(hm:w'.ownsMap Tryz.prog 3 (plainElem Tryz.prog 4) mp n D):MP base mb b m g p mp pg v en l h k s a w':=by
 refine⟨(kk.block mb H.bk.lt fun e=>H.mp_no.1 e.symm).trans H.bk,H.rc.keep kk (fun j hj e=>H.mp_no.2.2 (e▸hj)) (fun j e cs fr c=>?_),H.co.kept kk fun j hj e=>H.mp_no.2.1 (e▸hj),⟨n,D,hm⟩,H.ok,H.low⟩;obtain⟨n,D,es,clock,hb,_⟩:=H.fl;subst e;rw[hb]at c;cases c
structure MR(base:Nat)(O:Nat→Prop)(w0:World)(lg:Lg)(mb b m g p mp:Nat)(pg:Nat→Option Nat)(v:Value)(en:Bool)(l:nB)(h k:Nat)(M:List Int)(s:mR)(a:AS)(w:World):Prop where
 bk:Blk mb 101 (mcc s b p mp) w
 rc:RC base lg b m g v a w
 co:CoC pg p s.q.lv en l h k M w
 fl:∃n,∃D:DataW Unit,w.ownsMap Tryz.prog 3 (plainElem Tryz.prog 4) mp n D
 low:base≤mb∧base≤mp∧∀j,icO pg p j→base≤j
 kp:lS O w0 w
 gr:vK O (rA mb b m g p mp pg v) w0.heap.size
 bs:base≤w0.heap.size
section
variable {base:Nat} {O:Nat→Prop} {w0:World} {lg:Lg} {mb b m g p mp h k:Nat} {pg:Nat→Option Nat} {v:Value} {en:Bool} {l:nB} {M:List Int} {s:mR} {a:AS} {w w':World}
theorem MP.mr(H:MP base mb b m g p mp pg v en l h k s a w)(hb:base≤w.heap.size):MR base (rA mb b m g p mp pg v) w ⟨0,a.M⟩ mb b m g p mp pg v en l h k a.M s a w:=
 ⟨H.bk,H.rc,H.co,H.fl,H.low,lS.refl,vK.refl,hb⟩
theorem MR.mp_no(H:MR base O w0 lg mb b m g p mp pg v en l h k M s a w):mp≠mb∧¬icO pg p mp∧¬vH b m g v mp:=by
 exact zBO
theorem MR.flk(H:MR base O w0 lg mb b m g p mp pg v en l h k M s a w){O':Nat→Prop}(kk:lS O' w w')(hn:¬O' mp):∃n,∃D:DataW Unit,w'.ownsMap Tryz.prog 3 (plainElem Tryz.prog 4) mp n D:=by
 obtain⟨n,D,hm⟩:=H.fl;exact⟨n,D,vC hm (kk.block mp hm.lt hn)⟩
theorem MR.step(H:MR base O w0 lg mb b m g p mp pg v en l h k M s a w)(hb:Below w.heap.size w w'):MR base O w0 lg mb b m g p mp pg v en l h k M s a w':=
 ⟨H.bk.step hb,H.rc.step hb,H.co.step hb,H.flk (O':=fun _=>False) (lS.of_below hb) id,H.low,H.kp.trans (lS.of_below (O:=fun _=>False) hb) (fun _ c=>c.elim),H.gr,H.bs⟩
theorem CoC.u8{lv:Int}(C:CoC pg p lv en l h k M w):∀j,icO pg p j→∀cs fr,w.heap[j]?≠some (.cells cs 5 fr):=fun j hj=>by
 obtain⟨cs,T,hb,hT⟩:=C.tag j hj;exact ZU hb (by rcases hT with rfl|rfl<;>decide)
theorem MR.ic(H:MR base O w0 lg mb b m g p mp pg v en l h k M s a w){pg':Nat→Option Nat}{l':nB}{h' k':Nat}{M':List Int}(C:CoC pg' p s.q.lv en l' h' k' M' w')(kk:lS (icO pg p) w w')(G:vK (icO pg p) (icO pg' p) w.heap.size):MR base O w0 lg mb b m g p mp pg' v en l' h' k' M' s a w':=by
 refine⟨(kk.block mb H.bk.lt (mb_ic H.bk H.co)).trans H.bk,H.rc.keep kk (fun j hj hi=>own_ic H.co H.rc j hi hj) H.co.u8,C,H.flk kk H.mp_no.2.1,⟨H.low.1,H.low.2.1,fun j hj=>?_⟩,H.kp.trans kk fun j hj=>H.gr j (.inr (.inr (.inl hj))),fun j hj=>?_,H.bs⟩
 ·rcases G j hj with h1|h1
  ·exact H.low.2.2 j h1
  ·exact zR (zR H.bs H.kp.size) h1
 ·rcases hj with e|e|e|e
  ·exact H.gr j (.inl e)
  ·exact H.gr j (.inr (.inl e))
  ·rcases G j e with h1|h1
   ·exact H.gr j (.inr (.inr (.inl h1)))
   ·exact .inr (zR H.kp.size h1)
  ·exact H.gr j (.inr (.inr (.inr e)))
theorem MR.st(H:MR base O w0 lg mb b m g p mp pg v en l h k M s a w){lg':Lg}{v':Value}{a':AS}{O':Nat→Prop}(R:RC base lg' b m g v' a' w')(kk:lS O' w w')(ho:∀j,O' j→vH b m g v j)(hv:v'.ownBlock=v.ownBlock∨∀j,v'.ownBlock=some j→w.heap.size≤j):MR base O w0 lg' mb b m g p mp pg v' en l h k M s a' w':=by
 have kk:lS (vH b m g v) w w':=kk.mono fun j _=>ho j;refine⟨(kk.block mb H.bk.lt (mb_own H.bk H.rc)).trans H.bk,R,H.co.kept kk (own_ic H.co H.rc),H.flk kk H.mp_no.2.2,H.low,H.kp.trans kk fun j hj=>H.gr j (.inr (.inr (.inr hj))),fun j hj=>?_,H.bs⟩;rcases hj with e|e|e|e|e|e|e
 ·exact H.gr j (.inl e)
 ·exact H.gr j (.inr (.inl e))
 ·exact H.gr j (.inr (.inr (.inl e)))
 ·exact H.gr j (.inr (.inr (.inr (.inl e))))
 ·exact H.gr j (.inr (.inr (.inr (.inr (.inl e)))))
 ·exact H.gr j (.inr (.inr (.inr (.inr (.inr (.inl e))))))
 ·rcases hv with h1|h1
  ·exact H.gr j (.inr (.inr (.inr (.inr (.inr (.inr (h1▸e)))))))
  ·exact .inr (zR H.kp.size (h1 j e))
theorem MR.own_mb(H:MR base O w0 lg mb b m g p mp pg v en l h k M s a w){s':mR}(B:Blk mb 101 (mcc s' b p mp) w')(kk:lS (fun j=>j=mb) w w')(e:s'.q=s.q):MR base O w0 lg mb b m g p mp pg v en l h k M s' a w':=by
 refine⟨B,H.rc.keep kk (fun j hj c=>mb_own H.bk H.rc (c▸hj)) (fun j c=>c▸ZU H.bk zGL),?_,H.flk kk H.mp_no.1,H.low,H.kp.trans kk fun j hj=>H.gr j (.inl hj),H.gr,H.bs⟩;rw[e];exact H.co.kept kk fun j hj c=>mb_ic H.bk H.co (c▸hj)
theorem MR.off(H:MR base O w0 lg mb b m g p mp pg v en l h k M s a w){q:Nat}{T:TypeId}{cs:Array Value}(hq:Blk q T cs w)(hT:T≠89∧T≠144∧T≠148∧T≠168∧T≠159∧T≠190∧T≠101):¬rA mb b m g p mp pg v q:=by
 rintro(e|e|e|e)
 ·exact rF hq H.bk hT.2.2.2.2.2.2 e
 ·obtain⟨n,D,es,clock,hb,_⟩:=H.fl;have hq:w.heap[q]?=some (.cells cs T (0,0)):=hq;rw[e,hb]at hq;cases hq
 ·obtain⟨ds,U,hb,hU⟩:=H.co.tag q e;rcases hU with rfl|rfl
  ·exact rF hq hb hT.2.2.2.2.1 rfl
  ·exact rF hq hb hT.2.2.2.2.2.1 rfl
 ·obtain⟨ds,U,fr,h2,hU⟩:=H.rc.tag q e;have e2:=gF hq h2;subst e2;rcases hU with e|e|e|e
  ·exact hT.1 e
  ·exact hT.2.1 e
  ·exact hT.2.2.1 e
  ·exact hT.2.2.2.1 e
theorem MR.blk(H:MR base O w0 lg mb b m g p mp pg v en l h k M s a w){O':Nat→Prop}{q:Nat}{T:TypeId}{cs:Array Value}(hq:Blk q T cs w)(hT:T≠89∧T≠144∧T≠148∧T≠168∧T≠159∧T≠190∧T≠101)(kk:lS O' w w')(ho:∀j,O' j→rA mb b m g p mp pg v j):Blk q T cs w':=
 (kk.block q hq.lt fun c=>H.off hq hT (ho q c)).trans hq
theorem MR.row(H:MR base O w0 lg mb b m g p mp pg v en l h k M s a w){q:Nat}{T:TypeId}{cs:Array Value}(hq:Blk q T cs w)(hT:T≠89∧T≠144∧T≠148∧T≠168∧T≠159∧T≠190∧T≠101)(h8:T≠5)(hw:w0.heap.size≤q)(ds:Array Value):MR base O w0 lg mb b m g p mp pg v en l h k M s a (w.setRow q ds):=by
 have kk:lS (fun j=>j=q) w (w.setRow q ds):=uH;have no:∀j,rA mb b m g p mp pg v j→¬j=q:=fun j hj e=>H.off hq hT (e▸hj);exact⟨(kk.block mb H.bk.lt (no mb (.inl rfl))).trans H.bk,H.rc.keep kk (fun j hj=>no j (.inr (.inr (.inr hj)))) (fun j e=>e▸ZU hq h8),H.co.kept kk fun j hj=>no j (.inr (.inr (.inl hj))),H.flk kk (no mp (.inr (.inl rfl))),H.low,H.kp.trans kk fun j e=> .inr (e▸hw),H.gr,H.bs⟩
theorem MR.to_mp(H:MR base O w0 ⟨0,a.M⟩ mb b m g p mp pg v en l h k a.M s a w)(ok:OkM s a):MP base mb b m g p mp pg v en l h k s a w:=⟨H.bk,H.rc,H.co,H.fl,ok,H.low⟩
end
def cfC(r l f:Value)(q:Pr)(en:Bool):Array Value:=#[r,l,.int .i64 q.lv,.bool q.sh,.bool q.ki,.bool q.jx,.bool q.lr,.bool q.cl,.bool q.dw,.bool q.fa,.bool en,f]
def snC(s:mR)(b:Nat):Array Value:=#[.pointer (some ⟨b,0,none⟩),.int .i64 s.k,.int .i64 s.c,.int .i64 s.p,.int .i64 s.y,.int .i64 s.rg,.int .i64 s.ex]
theorem aggCf:vZ Tryz.prog 95 12:=⟨⟨_,Tryz.underlying95,rfl⟩,by kernel_rfl⟩
theorem aggSn:vZ Tryz.prog 97 7:=⟨⟨_,Tryz.underlying97,rfl⟩,by kernel_rfl⟩
theorem ZP(s:mR)(b p mp:Nat):Tryz.prog.built 101 [(0,.agg (prc s.q)),(1,.pointer (some ⟨p,0,none⟩)),(2,.map (some mp)),(3,.agg (snC s b))]=some (mcc s b p mp):=by unfold prc snC;kernel_rfl
theorem iE{P:Program}{Q:Exit→Act→World→Prop}{o:Oper}{a:Act}{w:World}{K:Act→World→Prop}(ty:TypeId)(ho:o.op=.makeMap ty none)(h:K (a.put o.dst (.map (some w.heap.size))) (w.alloc (.map #[] 0))):o.wp P a w K Q:=by
 unfold Oper.wp execOp;simp only[ho,zA,run_makeMap,Result.andThen_ok,Sem.run_pure,Option.map_none];exact h
def Fls(w:World)(A:Option Addr)(F:List Int):Prop:=Row (Value.int .i64) w A F∧F.length≤1000∧∀x∈F,-9223372036854775808≤x∧x≤9223372036854775807
theorem Fls.nil(w:World)(A:Option Addr):Fls w A []:=⟨Row.nil,qW _,fun x h=>absurd h qT⟩
theorem RU{base b m g:Nat}{v:Value}{s:mR}{a:AS}{w:World}(R:RC base ⟨0,a.M⟩ b m g v a w)(OK:OkM s a)(hb:base≤w.heap.size)(r l:Value)(en:Bool)(A:Option Addr)(n c:Nat)(F:List Int)(hF:Fls w A F)(hn:F.length=n):
  Calls Tryz.prog 37 #[.agg (cfC r l (.slice A n c) s.q en),.agg (snC s b)] w fun e w'=>∃mb p mp,e=.returned (.pointer (some ⟨mb,0,none⟩))∧MP base mb b m g p mp (fun _=>none) v en [] 0 0 s a w'∧Below w.heap.size w w':=by
 have OO:=zW OK;have HB:=zW hb;have RR:=zW R;have FF:=zW hF;have HN:=zW hn;clear OK hb R hF hn;go_enter Tryz.func37,Tryz.ntmps37;go_upto_region 0 with fail;refine zH ?_;refine lE rfl _ (.tmp 0) rfl (cfC r l (.slice A n c) s.q en) rfl ?_;simp only[Act.put,zQ,zZ,zJ];have C1:=zW (Blk.new w 95 (cfC r l (.slice A n c) s.q en));have b1:=lV w (.cells (cfC r l (.slice A n c) s.q en) 95);obtain⟨g1,hg1⟩:∃k,w.heap.size=k:=⟨_,rfl⟩;rw[hg1]at C1⊢;clear hg1;generalize World.alloc w _=w1 at C1 b1⊢;refine lE rfl _ (.tmp 1) rfl (snC s b) rfl ?_;simp only[Act.put,zQ,zZ,zJ];have C2:=zW (Blk.new w1 97 (snC s b));have b2:=lV w1 (.cells (snC s b) 97);obtain⟨g2,hg2⟩:∃k,w1.heap.size=k:=⟨_,rfl⟩;rw[hg2]at C2⊢;clear hg2;generalize World.alloc w1 _=w2 at C2 b2⊢;have C1:=zW (C1.out.step b2);have BB:=zW (b1.trans (b2.mono b1.size));clear b1 b2;go_upto_region 1 with fail;refine wF (fun A' a' w'=>∃p mp mb,a'=(((((((((((((A'.put (some 8) (.pointer (some ⟨g1,2,none⟩))).put (some 9) (.agg (prc s.q))).put (some 10) (.pointer (some ⟨g1,2,none⟩))).put (some 11) (.pointer (some ⟨g1,2,none⟩))).put (some 12) (.int .i64 s.q.lv)).put (some 13) (.pointer (some ⟨g1,10,none⟩))).put (some 14) (.bool en)).put (some 15) (.pointer (some ⟨p,0,none⟩))).put (some 16) (.map (some mp))).put (some 17) (.agg (snC s b))).put (some 18) (.agg (mcc s b p mp))).put (some 19) (.pointer (some ⟨mb,0,none⟩))).put (some 5) (.pointer (some ⟨mb,0,none⟩)))∧Below w.heap.size w w'∧Blk g1 95 (cfC r l (.slice A n c) s.q en) w'∧w'.ownsMap Tryz.prog 3 (plainElem (H:=Unit) Tryz.prog 4) mp 0 (.map [])∧CoC (fun _=>none) p s.q.lv en [] 0 0 a.M w'∧Blk mb 101 (mcc s b p mp) w'∧w.heap.size≤p∧w.heap.size≤mp∧w.heap.size≤mb) ?_ ?_
 ·refine nU (C:=fun w'=>∃u:lA w2,w'=u.w) (.branch [0,1,2,3,4,5,6,9] [7,8] (fun c=>if c=7 then .branch [] [8] (fun _=> .branch [10] [11] (fun _=> .last [12]))else .branch [] [7] (fun _=> .branch [10] [11] (fun _=> .last [12])))) zGV zGV (fun _ _ d _ _ h=>by cases h.1) ⟨⟨w2.drew,(zB _ _).drew⟩,rfl⟩ ?_;intro wd hwd;have CB:=zW (show Below w2.heap.size w2 wd by rw[hwd];exact(zB _ _).drew);clear hwd;have F1:=zW (fun(w':World) (h:∃u:lA w2,w'=u.w)=>(show Blk g1 95 (cfC r l (.slice A n c) s.q en) w' from by obtain⟨u,rfl⟩:=h;exact C1.out.step u.below));have F2:=zW (fun(w':World) (h:∃u:lA w2,w'=u.w)=>(show Blk g2 97 (snC s b) w' from by obtain⟨u,rfl⟩:=h;exact C2.out.step u.below));have k2:=lA.cell (show w2.cell? ⟨g1,2,none⟩=some (.int .i64 s.q.lv)from(C1.out.cell 2).trans rfl) C1.out.lt;have k10:=lA.cell (show w2.cell? ⟨g1,10,none⟩=some (.bool en)from(C1.out.cell 10).trans rfl) C1.out.lt;refine mF zGW ?_;repeat(first
   |(refine lR (o:=2) tM F1.out (by show 2+8≤12;decide) ?_ (.tmp 8) ?_ ?_ ?_;(focus rfl);(focus rfl);(focus(simp[Act.eval,Act.put];done));rw[show(cfC r l (.slice A n c) s.q en).extract 2 (2+8)=prc s.q from rfl];simp only[Act.put,zQ,zZ,zJ])
   |(refine mN aggSn F2.out rfl ?_ (.tmp 3) ?_ ?_ ?_;(focus rfl);(focus rfl);(focus(simp[Act.eval,Act.put];done));simp only[Act.put,zQ,zZ,zJ])
   |go_big_quiet_step (rfl))
  refine zY ?_
  clear k2 k10;refine List.forall_mem_cons.2 ⟨?_,List.forall_mem_cons.2 ⟨?_,fun _ h=>absurd h qT⟩⟩
  ·refine mB zGY zGM ?_;intro K7 hK;refine mK (g:=48) (caps:=#[]) (args:=#[.int .i64 s.q.lv,.bool en]) (.func 48) #[.tmp 12,.tmp 14] _ rfl (enters_of Tryz.func48 zGV rfl) rfl zGK ?_;refine(JT s.q.lv en wd).mono ?_;rintro e wx ⟨rfl,hwx⟩;refine⟨_,rfl,?_⟩;have CC:=zW (show CoC (fun _=>none) wd.heap.size s.q.lv en [] 0 0 a.M wx from hwx▸aL s.q.lv en a.M wd zGU);have bx:=show Below wd.heap.size wd wx from hwx▸lV wd _;have PG:=zW CB.out.size;have CB:=zW (CB.out.trans (bx.mono CB.out.size));clear bx hwx;obtain⟨p,hp⟩:∃p,wd.heap.size=p:=⟨_,rfl⟩;rw[hp]at CC PG⊢;clear hp;generalize wx=wd at*;refine hK _ _ ⟨⟨wd,CB.out⟩,rfl⟩ ?_;clear hK K7;simp only[Act.put,zQ,zZ,zJ];refine mF zGF ?_;refine zY ?_;refine List.forall_mem_cons.2 ⟨?_,fun _ h=>absurd h qT⟩;refine mB zGY zGM ?_;intro K7 hK;refine iE _ rfl ?_;have MM:=zW (World.ownsMap_made wd Tryz.prog 3 (plainElem (H:=Unit) Tryz.prog 4));have bx:=lV wd (.map #[] 0);have MG:=zW CB.out.size;have CC:=zW (CC.out.step bx);have CB:=zW (CB.out.trans (bx.mono CB.out.size));clear bx;obtain⟨mp,hmp⟩:∃p,wd.heap.size=p:=⟨_,rfl⟩;rw[hmp]at MM MG⊢;clear hmp;generalize World.alloc _ _=wd at*;exact zBD
  ·refine mB zGY zGM ?_;intro K7 hK;refine iE _ rfl ?_;have MM:=zW (World.ownsMap_made wd Tryz.prog 3 (plainElem (H:=Unit) Tryz.prog 4));have bx:=lV wd (.map #[] 0);have MG:=zW CB.out.size;have CB:=zW (CB.out.trans (bx.mono CB.out.size));clear bx;obtain⟨mp,hmp⟩:∃p,wd.heap.size=p:=⟨_,rfl⟩;rw[hmp]at MM MG⊢;clear hmp;generalize World.alloc _ _=wd at*;refine hK _ _ ⟨⟨wd,CB.out⟩,rfl⟩ ?_;clear hK K7;simp only[Act.put,zQ,zZ,zJ];refine mF zGF ?_;refine zY ?_;refine List.forall_mem_cons.2 ⟨?_,fun _ h=>absurd h qT⟩;refine mB zGY zGM ?_;intro K7 hK;refine mK (g:=48) (caps:=#[]) (args:=#[.int .i64 s.q.lv,.bool en]) (.func 48) #[.tmp 12,.tmp 14] _ rfl (enters_of Tryz.func48 zGV rfl) rfl zGK ?_;refine(JT s.q.lv en wd).mono ?_;rintro e wx ⟨rfl,hwx⟩;refine⟨_,rfl,?_⟩;have CC:=zW (show CoC (fun _=>none) wd.heap.size s.q.lv en [] 0 0 a.M wx from hwx▸aL s.q.lv en a.M wd zGU);have bx:=show Below wd.heap.size wd wx from hwx▸lV wd _;have PG:=zW CB.out.size;have MM:=zW (vC MM.out (bx.block mp MM.out.lt));have CB:=zW (CB.out.trans (bx.mono CB.out.size));clear bx hwx;obtain⟨p,hp⟩:∃p,wd.heap.size=p:=⟨_,rfl⟩;rw[hp]at CC PG⊢;clear hp;generalize wx=wd at*;exact zBD
 rintro _ w3 ⟨p,mp,mb,rfl,B3,D1,MM,CC,MB,lp,lm,lb⟩;have MO:=zW MM;have X:=zW (show MP base mb b m g p mp (fun _=>none) v en [] 0 0 s a w3∧Below w.heap.size w w3 from⟨⟨MB,RR.out.step B3,CC,⟨0,_,MM⟩,OO.out,zR HB.out lb,zR HB.out lm,fun j hj=>?_⟩,B3⟩)
 rotate_left 1
 ·rcases hj with e|⟨i,_,e⟩
  ·exact e▸zR HB.out lp
  ·cases e
 have NM:=zW (show w.heap.size≤mp from lm);have C1:=zW D1;clear B3 D1 MM CC MB lp lm lb C2 BB;simp only[Act.put,zQ,zZ,zJ];have f11:w3.cell? ⟨g1,11,none⟩=some (.slice A n c):=(C1.out.cell 11).trans rfl;go_wp2_with fail;go_loopw [23] (fun i wr=>∃k:Nat,k≤n∧i=.int .i64 (k:Int)∧MP base mb b m g p mp (fun _=>none) v en [] 0 0 s a wr∧Below w.heap.size w wr∧∃D:DataW Unit,wr.ownsMap Tryz.prog 3 (plainElem Tryz.prog 4) mp k D) (fun i _=>n-(intOf i).toNat)
 case atStart=>exact⟨0,qW _,rfl,X.out.1,X.out.2,_,MO.out⟩
 case round=>
  clear X f11 C1
  obtain⟨k,hk,rfl,hX,hB,D,hD⟩:=hrel
  have X:=zW (zM hX hB)
  have MO:=zW hD
  clear hX hB hD
  by_cases hlt:k<n
  ·obtain⟨bb,o,rfl,hbb,hc⟩:=(FF.out.1.below X.out.2).at_ (k:=k) (by rw[HN.out];exact hlt)
   have FX:=zW (FF.out.2.2 _ (j4 (by rw[HN.out];exact hlt:k<F.length)))
   generalize F[k]'_=x at hc FX
   have ki:(k:Int)<(n:Int):=zGX
   have k1000:(k:Int)≤1000:=by have:=FF.out.2.1;have:=HN.out;omega
   have KX:=zW (zM hlt hbb)
   have c9:wr.cell? ⟨mb,9,none⟩=some (.map (some mp)):=(X.out.1.bk.cell 9).trans rfl
   go_upto_region 5 with fail
   refine zH ?_
   iterate 15 go_step
   refine wpList_mapUpdate_own _ rfl _ _ _ 99 rfl 3 4 uG Tryz.underlying99 (plainElem Tryz.prog 4) mp k D rfl MO.out (by show k<9223372036854775807;omega) _ _ (.int .i64 x) rfl rfl (rZ x (by show(decide ((-9223372036854775808:Int)≤x)&&decide (x≤(9223372036854775807:Int)))=true;simpa using FX.out)) (.lit (.bool true)) [] (plainElem_bool Tryz.underlying4 true) ?_
   intro w4 m4 g4
   have K4:=zW (show lS (fun j=>j=mp) wr w4 from⟨g4.os,g4.tape,g4.output,g4.size,fun i hi hn=>g4.block i hi fun e=>hn (by injection e)⟩)
   have X:=zW (show MP base mb b m g p mp (fun _=>none) v en [] 0 0 s a w4∧Below w.heap.size w w4 from⟨X.out.1.map K4.out m4,X.out.2.trans (K4.out.below X.out.2.size fun j e=>e▸NM.out)⟩)
   have MO:=zW m4
   clear m4 g4 K4 c9 hc
   go_wp2
   go_roundw
   case rel=>exact⟨k+1,KX.out.1,by go_num,X.out.1,X.out.2,_,MO.out⟩
   case measure=>have:=KX.out.1;simp[intOf];omega
  ·have ki:¬(k:Int)<(n:Int):=zGX
   go_wp2
   go_returns
   exact⟨mb,rfl,⟨p,mp,X.out.1⟩,X.out.2⟩
def wU(q:Pr):mR:=⟨q,0,0,0,0,0,0⟩
theorem zLO{q:Pr}{R L:List Int}(hq:1≤q.lv∧q.lv≤3)(hR:Bts R)(hL:Bts L)(hl:L.length≤100000):OkM (wU q) (uB R L):=
 ⟨zLY hR hL hl,hq,(show(0:Int)≤0∧(0:Int)≤3 by decide),fun _=>⟨rfl,rfl,rfl⟩,(show(0:Int)≤0∧(0:Int)≤15 by decide),(show(0:Int)≤0 by decide),by show((0:Nat):Int)≤0;decide⟩
theorem e9(q:Pr)(w:World):Calls Tryz.prog 35 #[.agg (prc q)] w fun e w'=>e=.returned (.bool (decide (1≤q.lv∧q.lv≤3)))∧Below w.heap.size w w':=by
 by_cases h:1≤q.lv∧q.lv≤3
 ·rw[qY h];exact IS q.lv q.sh q.ki q.jx q.lr q.cl q.dw q.fa w h.1 h.2
 ·rw[zO h];exact zZ1 q.lv q.sh q.ki q.jx q.lr q.cl q.dw q.fa w zGX
theorem zVI(b:Nat):Tryz.prog.built 97 [(0,.pointer (some ⟨b,0,none⟩))]=some (snC (wU zWP) b):=by kernel_rfl
section
variable {A B FA:Option Addr} {n c k d fn fc:Nat} {R L F:List Int} {q:Pr} {en:Bool} {w:World}
theorem OQ(hq:¬(1≤q.lv∧q.lv≤3)):
  Calls Tryz.prog 24 #[.agg (cfC (.slice A n c) (.slice B k d) (.slice FA fn fc) q en)] w fun e w'=>e=.returned (.tuple #[.pointer none,.int .i64 5])∧Below w.heap.size w w':=by
 have VA:=zW (fun u=>zO hq▸e9 q u);clear hq;obtain⟨C,hC⟩:∃C,cfC (.slice A n c) (.slice B k d) (.slice FA fn fc) q en=C:=⟨_,rfl⟩;have CE:=zW (show C.size=12∧C=cfC (.slice A n c) (.slice B k d) (.slice FA fn fc) q en∧C.extract 2 (2+8)=prc q∧C[0]?=some (.slice A n c)∧C[1]?=some (.slice B k d)from by rw[←hC];exact⟨rfl,rfl,rfl,rfl,rfl⟩);rw[hC];clear hC;go_enter Tryz.func24,Tryz.ntmps24;go_upto_region 0 with fail;refine zH ?_;refine lE rfl _ (.tmp 0) rfl C rfl ?_;simp only[Act.put,zQ,zZ,zJ];have C1:=zW (Blk.new w 95 C);have BB:=zW (lV w (.cells C 95));obtain⟨g1,hg1⟩:∃k,w.heap.size=k:=⟨_,rfl⟩;rw[hg1]at C1⊢;clear hg1;generalize World.alloc w _=w1 at C1 BB⊢;go_upto_region 1 with fail;refine zH ?_;iterate 3 go_step
 refine m6 (o:=2) tM C1.out zG4 rfl (.tmp 6) rfl rfl ?_;rw[show C.extract 2 (2+8)=prc q from CE.out.2.2.1];simp only[Act.put,zQ,zZ,zJ];go_wp2_with fail;refine(VA.out _).mono ?_;rintro e w2 ⟨rfl,b2⟩;have C1:=zW (C1.out.step b2);have BB:=zW (BB.out.trans (b2.mono BB.out.size));clear b2 VA;exact zRV
theorem BP(N:Nat)(CS:vR N)(LW:cQ w)(hn:65024<n∧n≤1000000)(hB:Rd w B L)(hk:L.length=k)(k1:k≤100000)(hq:1≤q.lv∧q.lv≤3):
  Calls Tryz.prog 24 #[.agg (cfC (.slice A n c) (.slice B k d) (.slice FA fn fc) q en)] w fun e w'=>e=.returned (.tuple #[.pointer none,.int .i64 7])∧Below w.heap.size w w':=by
 have VA:=zW (fun u=>qY hq▸e9 q u);have NW:=zW (fun u (bu:Below w.heap.size w u)=>CS.long A n c B k d L u (LW.step bu) hn.1 hn.2 (hB.below bu) hk k1);clear hq CS LW hn hB hk k1;obtain⟨C,hC⟩:∃C,cfC (.slice A n c) (.slice B k d) (.slice FA fn fc) q en=C:=⟨_,rfl⟩;have CE:=zW (show C.size=12∧C=cfC (.slice A n c) (.slice B k d) (.slice FA fn fc) q en∧C.extract 2 (2+8)=prc q∧C[0]?=some (.slice A n c)∧C[1]?=some (.slice B k d)from by rw[←hC];exact⟨rfl,rfl,rfl,rfl,rfl⟩);rw[hC];clear hC;go_enter Tryz.func24,Tryz.ntmps24;go_upto_region 0 with fail;refine zH ?_;refine lE rfl _ (.tmp 0) rfl C rfl ?_;simp only[Act.put,zQ,zZ,zJ];have C1:=zW (Blk.new w 95 C);have BB:=zW (lV w (.cells C 95));obtain⟨g1,hg1⟩:∃k,w.heap.size=k:=⟨_,rfl⟩;rw[hg1]at C1⊢;clear hg1;generalize World.alloc w _=w1 at C1 BB⊢;go_upto_region 1 with fail;refine zH ?_;iterate 3 go_step
 refine m6 (o:=2) tM C1.out zG4 rfl (.tmp 6) rfl rfl ?_;rw[show C.extract 2 (2+8)=prc q from CE.out.2.2.1];simp only[Act.put,zQ,zZ,zJ];go_wp2_with fail;refine(VA.out _).mono ?_;rintro e w2 ⟨rfl,b2⟩;have C1:=zW (C1.out.step b2);have BB:=zW (BB.out.trans (b2.mono BB.out.size));clear b2 VA;have c0:w2.cell? ⟨g1,0,none⟩=some (.slice A n c):=(C1.out.cell 0).trans CE.out.2.2.2.1;have c1:w2.cell? ⟨g1,1,none⟩=some (.slice B k d):=(C1.out.cell 1).trans CE.out.2.2.2.2;go_wp2_with fail;refine(NW.out _ BB.out).mono ?_;rintro e w3 ⟨rfl,b3⟩;have BB:=zW (BB.out.trans (b3.mono BB.out.size));clear b3 NW c0 c1;exact zRV
theorem OZ(N:Nat)(CS:vR N)(LW:cQ w)(hA:Rd w A R)(hn:R.length=n)(n1:n≤65024)(hB:Rd w B L)(hk:L.length=k)(k1:k≤100000)(hR:Bts R)(hL:Bts L)(hF:Fls w FA F)(hf:F.length=fn)(hq:1≤q.lv∧q.lv≤3):
  Calls Tryz.prog 24 #[.agg (cfC (.slice A n c) (.slice B k d) (.slice FA fn fc) q en)] w fun e w'=>∃mb b m g p mp v,e=.returned (.tuple #[.pointer (some ⟨mb,0,none⟩),.int .i64 0])∧MP w.heap.size mb b m g p mp (fun _=>none) v en [] 0 0 (wU q) (uB R L) w'∧Below w.heap.size w w':=by
 have VA:=zW (fun u=>qY hq▸e9 q u);have NW:=zW (fun u (bu:Below w.heap.size w u)=>CS.new_ A n c R B k d L u (LW.step bu) (hA.below bu) hn n1 (hB.below bu) hk k1);have OK:=zW (zLO hq hR hL (by rw[hk];exact k1));have FF:=zW (zM hF hf);clear hq CS LW hA hn n1 hB hk k1 hR hL hF hf;obtain⟨C,hC⟩:∃C,cfC (.slice A n c) (.slice B k d) (.slice FA fn fc) q en=C:=⟨_,rfl⟩;have CE:=zW (show C.size=12∧C=cfC (.slice A n c) (.slice B k d) (.slice FA fn fc) q en∧C.extract 2 (2+8)=prc q∧C[0]?=some (.slice A n c)∧C[1]?=some (.slice B k d)from by rw[←hC];exact⟨rfl,rfl,rfl,rfl,rfl⟩);rw[hC];clear hC;go_enter Tryz.func24,Tryz.ntmps24;go_upto_region 0 with fail;refine zH ?_;refine lE rfl _ (.tmp 0) rfl C rfl ?_;simp only[Act.put,zQ,zZ,zJ];have C1:=zW (Blk.new w 95 C);have BB:=zW (lV w (.cells C 95));obtain⟨g1,hg1⟩:∃k,w.heap.size=k:=⟨_,rfl⟩;rw[hg1]at C1⊢;clear hg1;generalize World.alloc w _=w1 at C1 BB⊢;go_upto_region 1 with fail;refine zH ?_;iterate 3 go_step
 refine m6 (o:=2) tM C1.out zG4 rfl (.tmp 6) rfl rfl ?_;rw[show C.extract 2 (2+8)=prc q from CE.out.2.2.1];simp only[Act.put,zQ,zZ,zJ];go_wp2_with fail;refine(VA.out _).mono ?_;rintro e w2 ⟨rfl,b2⟩;have C1:=zW (C1.out.step b2);have BB:=zW (BB.out.trans (b2.mono BB.out.size));clear b2 VA;have c0:w2.cell? ⟨g1,0,none⟩=some (.slice A n c):=(C1.out.cell 0).trans CE.out.2.2.2.1;have c1:w2.cell? ⟨g1,1,none⟩=some (.slice B k d):=(C1.out.cell 1).trans CE.out.2.2.2.2;go_wp2_with fail;refine(NW.out _ BB.out).mono ?_;rintro e w3 ⟨b,m,g,v,rfl,rc,b3⟩;have RR:=zW (show RC w.heap.size ⟨0,(uB R L).M⟩ b m g v (uB R L) w3 from rc.down BB.out.size);have C1:=zW (C1.out.step b3);have BB:=zW (BB.out.trans (b3.mono BB.out.size));clear rc b3 NW c0 c1;go_upto_region 6 with fail;refine zH ?_;refine lL aggCf C1.out CE.out.1 rfl (.tmp 1) rfl rfl ?_;simp only[Act.put,zQ,zZ,zJ];iterate 3 go_step
 refine lC (cs:=snC (wU q) b) rfl rfl (by simp[Act.eval];exact zVI b) ?_;simp only[Act.put,zQ,zZ,zJ];have BL:=zW (fun r l en=>RU (A:=FA) (n:=fn) (c:=fc) (F:=F) RR.out OK.out BB.out.size r l en ⟨FF.out.1.1.below BB.out,FF.out.1.2⟩ FF.out.2);refine qZ rfl fun K hK=>?_;refine mK (g:=37) (caps:=#[]) (args:=#[.agg C,.agg (snC (wU q) b)]) (.func 37) #[.tmp 21,.tmp 23] _ rfl (enters_of Tryz.func37 zGV rfl) rfl zGK ?_;rw[CE.out.2.1];refine(BL.out _ _ _).mono ?_;rintro e w4 ⟨mb,p,mp,rfl,X,b4⟩;have X:=zW (zM X (BB.out.trans (b4.mono BB.out.size)));refine⟨_,rfl,?_⟩;refine hK _ _ ?_;clear hK K b4 BL RR C1 BB;simp only[Act.put,zQ,zZ,zJ];go_wp2;go_returns;exact⟨mb,b,m,g,p,mp,v,rfl,X.out.1,X.out.2⟩
end
end
end Go.Proofs.YtbpniahcjbagmaaGreatDoor
