/- MacBoxK, MacBoxF, MacBoxX, MacBoxY, MacBoxD, MacBoxR, MacNew, MacBoxS, MacMch, MacFew, MacMchE, MacAwD. -/
import Derived.Test.YthknmadinmigfaaGreatDoorMk4a
set_option maxRecDepth 400000
set_option maxHeartbeats 64000000
set_option linter.unusedVariables false
set_option linter.unusedSimpArgs false
namespace Go.Proofs.YthknmadinmigfaaGreatDoor
section
open Go.RowKit Num Dec Cpu
def onlyN(M:Act→World→Prop):Exit→Act→World→Prop
 |.normal,a,w=>M a w
 |_,_,_=>False
theorem A8{P:Program}{c:Code}{Q:Exit→Act→World→Prop}{a:Act}{w:World}(Mid:Act→Act→World→Prop)(h1:c.wp P (onlyN (Mid a)) a w)(h2:∀a' w',Mid a a' w'→Q .normal a' w'):c.wp P Q a w:=
 Code.wp_mono (fun e a' w' h=>by
  cases e
  all_goals first
   |exact h2 _ _ h
   |exact absurd h id) h1
theorem eH(s:mB)(b p mp:Nat)(k c pc y:Int):lM (mcc s b p mp) 11 (yH k c pc y)=mcc {s with k:=k,c:=c,p:=pc,y:=y} b p mp:=rfl
theorem TJ:Tryz.prog.built 39 [(0,.int .i64 0)]=some (yH 0 0 0 0):=by kernel_rfl
theorem zQX(ks:List Ev)(e:Ev):∀j,j<16→ap (dnA ks) e j=dnA (ks++[e]) j:=fun j hj=>by
 rw[←zLN _ j hj,zYF,zJC,DT];unfold ap;split
 ·rfl
 ·exact(zLN _ j hj).symm
theorem MP.both{base mb b m g p mp h k:Nat}{pg:Nat→Option Nat}{v:Value}{en:Bool}{l:m6}{s s':mB}{a a':AS}{w w':World}(H:MP base mb b m g p mp pg v en l h k s a w)(hk:lN (fun j=>j=mb∨n7 b m g v j) w w')(hb:Blk mb 103 (mcc s' b p mp) w')(hr:RC base ⟨0,a'.M⟩ b m g v a' w')(eM:a'.M=a.M)(eq:s'.q=s.q)(ex:s'.ex=s.ex)(ho:OkM s' a'):MP base mb b m g p mp pg v en l h k s' a' w':=by
 obtain⟨n,D,hm⟩:=H.fl;refine⟨hb,hr,?_,⟨n,D,vV hm (hk.block mp hm.lt fun c=>c.elim H.mp_no.1 H.mp_no.2.2)⟩,ho,H.low⟩;rw[eM,eq];exact H.co.kept hk fun j hj c=>by
  rcases c with rfl|c
  ·exact H.mb_ic hj
  ·exact H.own_ic j hj c
theorem ZD{base mb b m g p mp h k:Nat}{pg:Nat→Option Nat}{v:Value}{en:Bool}{l:m6}{s:mB}{a:AS}{w:World}(H:MP base mb b m g p mp pg v en l h k s a w)(e:Ev)(hks:a.ks.length<1000):
  Calls Tryz.prog 16 #[.pointer (some ⟨mb,0,none⟩),.agg (ec e)] w fun x w'=>x=.returned (.tuple #[])∧MP base mb b m g p mp pg v en l h k (gM s a e) (tI s a e) w'∧lN (wS mb b m g p mp pg v) w w':=by
 have OK:=zW (zKC H.ok e hks);have HR:=zW H.ok.rg;obtain⟨K1,hK1⟩:∃K,ap (dnA a.ks) e=K:=⟨_,rfl⟩;obtain⟨rl,hrl⟩:∃b,rel (dnA a.ks) e=b:=⟨_,rfl⟩;have RL:=zW hrl;have KN:=zW (show∀j,j<16→K1 j=dnA (a.ks++[e]) j from fun j hj=>by rw[←hK1];exact zQX _ _ j hj);have AP:=zW (fun u=>show Calls Tryz.prog 39 #[.agg (kc (dnA a.ks)),.agg (ec e)] u fun x w'=>x=.returned (.tuple #[.agg (kc K1),.bool rl])∧Below u.heap.size u w' from by rw[←hK1,←hrl];exact IY _ e u);have HH:=zW H;clear H hks hK1 hrl;go_enter Tryz.func16,Tryz.ntmps16;go_upto_region 0 with fail;refine zG ?_;refine lU rfl _ (.tmp 1) rfl (ec e) rfl ?_;simp only[Act.put,zQ,zZ,zJ];refine wpList_nil ?_;have NQ:=zW (show w.heap.size≠b∧w.heap.size≠mb from⟨by have:=(HH.out.rc.lt b (.inl rfl)).2;omega,by have:=HH.out.bk.lt;omega⟩);have HH:=zW (HH.out.step (lW w (.cells (ec e) 44)));have EV:=zW (Blk.new w 44 (ec e));have BB:=zW (lW w (.cells (ec e) 44));obtain⟨q,hq⟩:∃q,w.heap.size=q:=⟨_,rfl⟩;rw[hq]at EV NQ⊢;clear hq;generalize World.alloc _ _=w1 at HH EV BB⊢;have c10:w1.cell? ⟨mb,10,none⟩=some (.pointer (some ⟨b,0,none⟩)):=(HH.out.bk.cell 10).trans rfl;go_wp2_with fail;refine(yQ HH.out.bk).mono ?_;rintro x w' ⟨rfl,rfl⟩;go_upto_region 3 with fail;refine gG (fun A a' w'=>∃gk,a'=(((((((((((A.put (some 15) (.pointer (some ⟨b,0,none⟩))).put (some 16) (.pointer (some ⟨b,0,none⟩))).put (some 17) (.pointer (some ⟨b,550,none⟩))).put (some 18) (.agg (kc (dnA a.ks)))).put (some 19) (.agg (ec e))).put (some 20) (.tuple #[.agg (kc K1),.bool rl])).put (some 14) (.tuple #[.agg (kc K1),.bool rl])).put (some 21) (.agg (kc K1))).put (some 22) (.bool rl)).put (some 5) (.pointer (some ⟨gk,0,none⟩))).put (some 6) (.bool rl))∧Blk gk 61 (kc K1) w'∧Below w1.heap.size w1 w') ?_ ?_
 refine vM (C:=fun w'=>∃u:lH w1,w'=u.w) (.branch [0,1,2,3,4] [5,9] (fun c=>if c=5 then .branch [6,7,8] [9] (fun c=> .branch [] [10] (fun c=> .last [11]))else .branch [] [5] (fun c=> .branch [6,7,8] [10] (fun c=> .last [11])))) zLE zLE (fun _ _ d _ _ h=>by cases h.1) ⟨⟨w1.drew,(zB _ _).drew⟩,rfl⟩ ?_
 intro wd hwd;have CB:=zW (show Below w1.heap.size w1 wd by rw[hwd];exact(zB _ _).drew);clear hwd;generalize wd=wn at CB⊢;have FE:=zW (fun(w':World) (h:∃u:lH w1,w'=u.w)=>(show Blk q 44 (ec e) w' from by obtain⟨u,rfl⟩:=h;exact EV.out.step u.below));have FS:=zW (fun(w':World) (h:∃u:lH w1,w'=u.w)=>(show Blk b 70 (stC a m g) w' from by obtain⟨u,rfl⟩:=h;exact HH.out.rc.st.step u.below));repeat' (first
  |exact fun _ h=>absurd h qD
  |with_reducible refine List.forall_mem_cons.2 ⟨?_,?_⟩
  |with_reducible show cW _ _ _ _ 5 _ _ _
   refine m8 zLU zLI ?_
   intro K7 hK
   refine lE (g:=39) (caps:=#[]) (args:=#[.agg (kc (dnA a.ks)),.agg (ec e)]) (.func 39) #[.tmp 18,.tmp 19] _ rfl (enters_of Tryz.func39 zLE rfl) rfl zLP ?_
   refine(AP.out _).mono ?_
   rintro x wm ⟨rfl,bm⟩
   refine⟨_,rfl,?_⟩
   try have GK:=zW (GK.out.step bm)
   have CB:=zW (CB.out.trans (bm.mono CB.out.size))
   clear bm
   generalize wm=wn at*
   refine hK _ _ ⟨⟨_,CB.out⟩,rfl⟩ ?_
   clear hK K7
   try simp only[Act.put,zQ,zZ,zJ]
  |with_reducible show cW _ _ _ _ 9 _ _ _
   refine m8 zLU zLI ?_
   intro K7 hK
   refine nD H6 rfl ?_
   have GK:=zW (Blk.new wn 61 (kc up))
   have NG:=zW CB.out.size
   have CB:=zW (CB.out.trans ((lW wn (.cells (kc up) 61)).mono CB.out.size))
   obtain⟨gk,hgk⟩:∃q,wn.heap.size=q:=⟨_,rfl⟩
   rw[hgk]at GK NG⊢
   generalize World.alloc _ _=wn at*
   clear hgk
   refine hK _ _ ⟨⟨_,CB.out⟩,rfl⟩ ?_
   clear hK K7
   try simp only[Act.put,zQ,zZ,zJ]
  |with_reducible show cW _ _ _ _ 10 _ _ _
   refine m8 zLU zLI ?_
   intro K7 hK
   refine nM (ds:=kc K1) rL GK.out (vQ _) (vQ _) (JI _) (.tmp 5) (.tmp 21) rfl zLP zLP ?_
   have GK:=zW (GK.out.store (kc K1))
   have CB:=zW (lC CB.out NG.out (kc K1))
   generalize World.setRow _ _ _=wn at*
   refine hK _ _ ⟨⟨_,CB.out⟩,rfl⟩ ?_
   clear hK K7
   try simp only[Act.put,zQ,zZ,zJ]
  |with_reducible show uF _ _ _ _ _ _ _
   refine cP zLC ?_
   repeat(go_big_quiet_step (rfl))
   refine zY ?_
   exact⟨rfl,gk,rfl,GK.out,CB.out⟩
  |with_reducible show uF _ _ _ _ _ _ _
   refine mD zLC ?_
   repeat(first
    |(refine lV (o:=550) rL FS.out zL1 ?_ (.tmp 17) ?_ ?_ ?_;(focus rfl);(focus rfl);(focus(simp[Act.eval,Act.put];done));rw[QO];simp only[Act.put,zQ,zZ,zJ])
    |(refine mX aggEv FE.out (zW1 e) ?_ (.tmp 3) ?_ ?_ ?_;(focus rfl);(focus rfl);(focus(simp[Act.eval,Act.put];done));simp only[Act.put,zQ,zZ,zJ])
    |go_big_quiet_step (rfl))
   refine zY ?_)
 rintro _ w2 ⟨gk,rfl,gK,cB⟩
 have GK:=zW gK;have HH:=zW (HH.out.step cB);have EV:=zW (EV.out.step cB);have BB:=zW (BB.out.trans (cB.mono BB.out.size));clear gK cB;simp only[Act.put,zQ,zZ,zJ];go_upto_region 4 with fail;refine zG ?_;iterate 3 go_step
 refine kO rL GK.out (vQ _) rfl (.tmp 5) rfl rfl ?_;simp only[Act.put,zQ,zZ,zJ];iterate 6 go_step
 refine m3 (o:=550) (ds:=kc K1) rL HH.out.rc.st (vQ _) zL1 (JI _) rfl (.tmp 26) (.tmp 24) rfl rfl rfl ?_;simp only[Act.put,zQ,zZ,zJ];obtain⟨a2,ha2⟩:∃a2:AS,{a with ks:=a.ks++[e]}=a2:=⟨_,rfl⟩;have AA:=zW ha2;have R3:=zW (show RC base ⟨0,a2.M⟩ b m g v a2 (w2.setRow b (lM (stC a m g) 550 (kc K1)))from by rw[←ha2];exact HH.out.rc.row (VN a m g (a.ks++[e]) KN.out) rfl rfl rfl HH.out.rc.res);have K3:=zW (show lN (fun j=>j=mb∨n7 b m g v j) w2 (w2.setRow b (lM (stC a m g) 550 (kc K1)))from cD (.inr (.inl rfl)));have B3:=zW (show Blk mb 103 (mcc s b p mp) (w2.setRow b (lM (stC a m g) 550 (kc K1)))from(zO _ _ _ _ fun c=>HH.out.mb_own (.inl c)).trans HH.out.bk);have E3:=zW (show Blk q 44 (ec e) (w2.setRow b (lM (stC a m g) 550 (kc K1)))from(zO _ _ _ _ NQ.out.1).trans EV.out);clear ha2 EV GK;generalize World.setRow w2 b _=w3 at R3 K3 B3 E3⊢;have c11:w3.cell? ⟨mb,11,none⟩=some (.int .i64 s.k):=(B3.out.cell 11).trans rfl;have FIN:=zW (fun w' (h:lN (fun j=>j=mb∨n7 b m g v j) w2 w')=>(show lN (wS mb b m g p mp pg v) w w' from(((lN.of_below BB.out).trans h fun k h=> .inl h).mono fun k _ h=>h.elim .inl fun h=> .inr (.inr (.inr h)))));have key:rl=false∨s.k≠1∨(rl=true∧s.k=1):=by cases rl<;>simp;omega
 rcases key with h|h|⟨h,h2⟩
 ·have NN:=zW (show rlM s a e=false by unfold rlM;rw[RL.out,h];rfl);have NE:=zW (show gM s a e=s∧tI s a e=a2 by unfold gM tI;rw[NN.out,←AA.out];exact⟨rfl,rfl⟩);have EM:=zW (show a2.M=a.M by rw[←AA.out]);subst h;exact zNX
 ·have hk':(s.k==1)=false:=by simpa using h
  have NN:=zW (show rlM s a e=false by unfold rlM;rw[zU h,Bool.and_false]);have NE:=zW (show gM s a e=s∧tI s a e=a2 by unfold gM tI;rw[NN.out,←AA.out];exact⟨rfl,rfl⟩);have EM:=zW (show a2.M=a.M by rw[←AA.out]);cases rl
  ·exact zNX
  ·exact zNX
 ·have hk':(s.k==1)=true:=by simp[h2]
  have YY:=zW (show rlM s a e=true by unfold rlM;rw[RL.out,h,h2];rfl);have EK:=zW (show 0≤e.k∧e.k≤15 by
   have h3:=RL.out;rw[h]at h3;unfold rel at h3;rw[zC,qB]at h3;exact h3.1)
  subst h;obtain⟨r,hr⟩:∃r:Nat,s.rg=(r:Int):=⟨s.rg.toNat,by have:=HR.out;omega⟩;have HG:=zW (show r<16 by have:=HR.out;omega);obtain⟨kk,hkk⟩:∃k:Nat,e.k=(k:Int):=⟨e.k.toNat,by have:=EK.out;omega⟩;have HKK:=zW (show kk<256 by have:=EK.out;omega);have NE:=zW (show gM s a e={s with k:=0,c:=0,p:=0,y:=0}∧tI s a e={a2 with v:=Cpu.upd a2.v r kk} by unfold gM tI;rw[YY.out,←AA.out,hr,hkk];exact⟨rfl,rfl⟩);have EM:=zW (show a2.M=a.M by rw[←AA.out]);have c15:w3.cell? ⟨mb,15,none⟩=some (.int .i64 (r:Int)):=(B3.out.cell 15).trans (by rw[←hr];rfl);have e0:w3.cell? ⟨q,0,none⟩=some (.int .i64 (kk:Int)):=(E3.out.cell 0).trans (by rw[←hkk];rfl);have wk:IntKind.u8.wrap (kk:Int)=(kk:Int):=by have:=HKK.out;rw[kR];omega
  have fr:=R3.out.st.frozen r;have cr:=(R3.out.st.cell r).trans (mK a2 m g (j:=r) (by have:=HG.out;omega));have r0:(0:Int)≤(r:Int):=qM _;have r1:(r:Int)<16:=by have:=HG.out;omega
  clear hkk hr;go_upto_region 6 with fail;obtain⟨Mid,hMid⟩:∃M:Act→Act→World→Prop,M=(fun A a' w'=>a'=((((((((((((A.put (some 37) (.pointer (some ⟨b,0,none⟩))).put (some 38) (.pointer (some ⟨mb,0,none⟩))).put (some 39) (.pointer (some ⟨mb,0,none⟩))).put (some 40) (.pointer (some ⟨mb,10,none⟩))).put (some 41) (.pointer (some ⟨mb,15,none⟩))).put (some 42) (.int .i64 (r:Int))).put (some 43) (.pointer (some ⟨q,0,none⟩))).put (some 44) (.int .i64 (kk:Int))).put (some 45) (.int .u8 (kk:Int))).put (some 46) (.pointer (some ⟨b,0,none⟩))).put (some 47) (.pointer (some ⟨b,0,none⟩))).put (some 48) (.pointer (some ⟨b,r,none⟩)))∧w'=(w3.setCell ⟨b,r,none⟩ (.int .u8 (kk:Int))).drew):=⟨_,rfl⟩;have HMid:=zW hMid;clear hMid;refine A8 Mid ?_ ?_
  ·go_region_with (fail)
   all_goals (show Mid _ _ _;rw[HMid.out];refine⟨?_,rfl⟩;simp only[Act.put,zQ,zZ,zJ])
  intro a4 w4 h4;rw[HMid.out]at h4;obtain⟨rfl,h4⟩:=h4;clear HMid;have R4:=zW (show RC base ⟨0,a2.M⟩ b m g v {a2 with v:=Cpu.upd a2.v r kk} w4 from by
   rw[h4];exact RC.step (R3.out.put r _ (rR a2 m g r kk HG.out) rfl rfl rfl R3.out.res) (zB _ _).drew)
  have K4:=zW (show lN (fun j=>j=mb∨n7 b m g v j) w2 w4 from by
   rw[h4];exact(K3.out.trans (yK (.inr (.inl rfl))) fun k h=> .inl h).trans (lN.of_below (zB _ _).drew) fun k h=> .inl h)
  have B4:=zW (show Blk mb 103 (mcc s b p mp) w4 from by
   rw[h4];exact(qL w3 ⟨b,r,none⟩ _ mb fun c=>HH.out.mb_own (.inl c)).trans B3.out)
  clear h4 c15 e0 wk fr cr c11 R3 K3 B3 E3;simp only[Act.put,zQ,zZ,zJ];go_upto_region 7 with fail;refine zG ?_;iterate 3 go_step
  refine mQ (cs:=yH 0 0 0 0) rfl rfl (by simp[Act.eval];exact TJ) ?_;simp only[Act.put,zQ,zZ,zJ];iterate 9 go_step
  refine m3 (o:=11) (ds:=yH 0 0 0 0) rY B4.out rfl zMM (gE _ _ _ _) rfl (.tmp 53) (.tmp 50) rfl rfl rfl ?_;simp only[Act.put,zQ,zZ,zJ];rw[eH];have R5:=zW (R4.out.away B4.out ⟨by decide,by decide,by decide,by decide,by decide⟩ (w':=w4.setRow mb (mcc {s with k:=0,c:=0,p:=0,y:=0} b p mp)) (by simp[World.setRow]) (fun k hk=>zO _ _ _ _ hk));have K5:=zW (show lN (fun j=>j=mb∨n7 b m g v j) w2 (w4.setRow mb (mcc {s with k:=0,c:=0,p:=0,y:=0} b p mp))from K4.out.trans (cD (.inl rfl)) fun k h=> .inl h);have B5:=zW (B4.out.store (mcc {s with k:=0,c:=0,p:=0,y:=0} b p mp));clear R4 K4 B4;generalize World.setRow _ _ _=w5 at R5 K5 B5⊢;go_wp2;go_returns;rw[NE.out.1,NE.out.2]at OK⊢;exact⟨rfl,HH.out.both K5.out B5.out R5.out EM.out rfl rfl OK.out,FIN.out _ K5.out⟩
def flE(m:mB)(pc x y:Int)(e:Ef):mB:=
 if e.c≠0 then{m with k:=3,c:=e.c,p:=pc,y:=y}else
 if e.halt=true then{m with k:=2,c:=0,p:=pc,y:=y}else
 if e.wait=true then{m with k:=1,c:=0,p:=0,y:=0,rg:=x}else m
theorem zWP(m:mB)(pc x:Int)(e:Ef)(h:m.k=0∧m.c=0∧m.p=0∧m.y=0):flE {m with ex:=m.ex+1} pc x m.ex e=nmE m pc x e:=by
 unfold flE nmE;split
 ·rfl
 split
 ·rfl
 split
 ·rfl
 obtain⟨q,k,c,p,y,rg,ex⟩:=m;obtain⟨h1,h2,h3,h4⟩:=h;simp only at h1 h2 h3 h4;subst h1 h2 h3 h4;rfl
theorem TX:Tryz.prog.built 39 [(0,.int .i64 1)]=some (yH 1 0 0 0):=by kernel_rfl
theorem J4{mb b p mp q r:Nat}{s:mB}{pc y:Int}{e:Ef}{I:Ins}{w:World}(H:Blk mb 103 (mcc s b p mp) w)(H1:Blk q 3 #[.int .i64 pc] w)(H2:Blk r 3 #[.int .i64 y] w):
  Calls Tryz.prog 37 #[.pointer (some ⟨mb,0,none⟩),.agg (efc e),.agg (lX I),.func (.func 54) #[] #[.pointer (some ⟨q,0,none⟩),.pointer (some ⟨r,0,none⟩)]] w fun x w'=>x=.returned (.tuple #[])∧Blk mb 103 (mcc (flE s pc I.x y e) b p mp) w'∧lN (fun j=>j=mb) w w':=by
 have L0:=H.lt;have M1:=zW (((H.alloc (.cells (efc e) 108)).alloc (.cells (lX I) 89)));have Q1:=zW (((H1.alloc (.cells (efc e) 108)).alloc (.cells (lX I) 89)));have Q2:=zW (((H2.alloc (.cells (efc e) 108)).alloc (.cells (lX I) 89)));have E1:=zW ((Blk.new w 108 (efc e)).alloc (.cells (lX I) 89));have I1:=zW (Blk.new (w.alloc (.cells (efc e) 108)) 89 (lX I));have BB:=zW (show Below w.heap.size w ((w.alloc (.cells (efc e) 108)).alloc (.cells (lX I) 89))from((zB _ _).alloc (zH _) _).alloc zLO _);have NG:=zW (show w.heap.size+1≠mb by omega);clear H H1 H2 L0;go_enter Tryz.func37,Tryz.ntmps37;go_upto_region 0 with fail;refine zG ?_;refine lU rfl _ (.tmp 1) rfl (efc e) rfl ?_;simp only[Act.put,zQ,zZ,zJ];refine lU rfl _ (.tmp 2) rfl (lX I) rfl ?_;simp only[Act.put,zQ,zZ,zJ];refine wpList_nil ?_;simp only[zT]at I1⊢;obtain⟨g,hg⟩:∃g,w.heap.size=g:=⟨_,rfl⟩;rw[hg]at E1 I1 NG⊢;clear hg;generalize World.alloc (World.alloc _ _) _=w1 at M1 Q1 Q2 E1 I1 BB⊢;have e0:w1.cell? ⟨g,0,none⟩=some (.int .i64 e.c):=(E1.out.cell 0).trans rfl;have e1:w1.cell? ⟨g,1,none⟩=some (.bool e.halt):=(E1.out.cell 1).trans rfl;have e2:w1.cell? ⟨g,2,none⟩=some (.bool e.wait):=(E1.out.cell 2).trans rfl;have i1:w1.cell? ⟨g+1,1,none⟩=some (.int .i64 I.x):=(I1.out.cell 1).trans rfl;have KB:=zW (show lN (fun j=>j=mb) w w1 from lN.of_below BB.out);have SZ:=zW BB.out.size;by_cases hc:e.c=0
 ·by_cases hh:e.halt=true
  ·have FE:=zW (show flE s pc I.x y e={s with k:=2,c:=0,p:=pc,y:=y} by unfold flE;rw[zL (fun c=>c hc),zN hh]);have EN:=zW (ZC 2 0 pc y q r w1 Q1.out Q2.out);rw[hh]at e1;rw[hc]at e0;go_wp2_with fail;refine EN.out.mono ?_;rintro x w2 ⟨rfl,b2⟩;have M2:=zW (M1.out.step b2);have K2:=zW (KB.out.trans (lN.of_below (O:=fun j=>j=mb) b2) fun k h=> .inl h);clear b2 EN e0 e1 e2 i1;simp only[];go_at_K
   iterate 10 go_step
   refine m3 (o:=11) (ds:=yH 2 0 pc y) rY M2.out rfl zMM (gE _ _ _ _) rfl (.tmp 28) (.tmp 25) rfl rfl rfl ?_;simp only[Act.put,zQ,zZ,zJ];rw[eH];have M3:=zW (M2.out.store (mcc {s with k:=2,c:=0,p:=pc,y:=y} b p mp));have K3:=zW (K2.out.trans (wN (b:=mb) (cs:=mcc {s with k:=2,c:=0,p:=pc,y:=y} b p mp) (w:=w2)) fun k h=> .inl h);exact zN0
  ·have hh:e.halt=false:=by simpa using hh
   rw[hh]at e1;rw[hc]at e0;by_cases hw:e.wait=true
   ·have FE:=zW (show flE s pc I.x y e={{s with k:=1,c:=0,p:=0,y:=0}with rg:=I.x} by unfold flE;rw[zL (fun c=>c hc),zL (by rw[hh];decide),zN hw]);rw[hw]at e2;go_upto_region 6 with fail;refine zG ?_;iterate 3 go_step
    refine mQ (cs:=yH 1 0 0 0) rfl rfl (by simp[Act.eval];exact TX) ?_;simp only[Act.put,zQ,zZ,zJ];iterate 9 go_step
    refine m3 (o:=11) (ds:=yH 1 0 0 0) rY M1.out rfl zMM (gE _ _ _ _) rfl (.tmp 36) (.tmp 33) rfl rfl rfl ?_;simp only[Act.put,zQ,zZ,zJ];rw[eH];have M3:=zW (M1.out.store (mcc {s with k:=1,c:=0,p:=0,y:=0} b p mp));have I3:=zW (show Blk (g+1) 89 (lX I) (w1.setRow mb (mcc {s with k:=1,c:=0,p:=0,y:=0} b p mp))from(zO _ _ _ _ NG.out).trans I1.out);have K3:=zW (KB.out.trans (wN (b:=mb) (cs:=mcc {s with k:=1,c:=0,p:=0,y:=0} b p mp) (w:=w1)) fun k h=> .inl h);clear e0 e1 e2 i1;generalize World.setRow _ _ _=w3 at M3 I3 K3⊢;have i1:w3.cell? ⟨g+1,1,none⟩=some (.int .i64 I.x):=(I3.out.cell 1).trans rfl;have c15:w3.cell? ⟨mb,15,none⟩=some (.int .i64 s.rg):=(M3.out.cell 15).trans rfl;have f15:=M3.out.frozen 15;go_wp2;go_returns;exact⟨rfl,by rw[FE.out];exact(M3.out.put 15 _).eq rfl,K3.out.trans (yK (O:=fun j=>j=mb) rfl) fun k h=> .inl h⟩
   ·have hw:e.wait=false:=by simpa using hw
    have FE:=zW (show flE s pc I.x y e=s by unfold flE;rw[zL (fun c=>c hc),zL (by rw[hh];decide),zL (by rw[hw];decide)]);rw[hw]at e2;go_wp2;go_returns;exact⟨rfl,by rw[FE.out];exact M1.out,KB.out⟩
 ·have FE:=zW (show flE s pc I.x y e={s with k:=3,c:=e.c,p:=pc,y:=y} by unfold flE;rw[zN hc]);have EN:=zW (ZC 3 e.c pc y q r w1 Q1.out Q2.out);have h1:(e.c !=0)=true:=zML;have h2:(e.c==0)=false:=zML;go_wp2_with fail;refine EN.out.mono ?_;rintro x w2 ⟨rfl,b2⟩;have M2:=zW (M1.out.step b2);have K2:=zW (KB.out.trans (lN.of_below (O:=fun j=>j=mb) b2) fun k h=> .inl h);clear b2 EN e0 e1 e2 i1;simp only[];go_at_K
  iterate 10 go_step
  refine m3 (o:=11) (ds:=yH 3 e.c pc y) rY M2.out rfl zMM (gE _ _ _ _) rfl (.tmp 19) (.tmp 16) rfl rfl rfl ?_;simp only[Act.put,zQ,zZ,zJ];rw[eH];have M3:=zW (M2.out.store (mcc {s with k:=3,c:=e.c,p:=pc,y:=y} b p mp));have K3:=zW (K2.out.trans (wN (b:=mb) (cs:=mcc {s with k:=3,c:=e.c,p:=pc,y:=y} b p mp) (w:=w2)) fun k h=> .inl h);exact zN0
theorem CD(c:Int):Tryz.prog.built 108 [(0,.int .i64 c)]=some (efc ⟨c,false,false,false⟩):=by kernel_rfl
theorem J5{base mb b m g p mp h k:Nat}{pg:Nat→Option Nat}{v:Value}{en:Bool}{l:m6}{s:mB}{a:AS}{w:World}(H:MP base mb b m g p mp pg v en l h k s a w)(I:Ins)(hl:0≤I.len∧I.len≤4)(c:Int)(hc:chk a.pc I.len s.q.fa=c)(h0:c≠0):
  Calls Tryz.prog 34 #[.pointer (some ⟨mb,0,none⟩),.agg (lX I)] w fun e w'=>e=.returned (.agg (efc ⟨c,false,false,false⟩))∧Below w.heap.size w w':=by
 have CK:=zW (fun u=>show Calls Tryz.prog 55 #[.int .i64 a.pc,.int .i64 I.len,.bool s.q.fa] u fun e w'=>e=.returned (.int .i64 c)∧u=w' from by rw[←hc];exact uI a.pc I.len s.q.fa u H.ok.ok.o.pc.1 H.ok.ok.o.pc.2 hl.1 zLS);have BB:=zW (show Below w.heap.size w ((w.alloc (.cells (lX I) 89)).alloc (.cells (efc ⟨0,false,false,false⟩) 108))from((zB _ _).alloc (zH _) _).alloc zLO _);have HH:=zW (H.step BB.out);have I1:=zW ((Blk.new w 89 (lX I)).alloc (.cells (efc ⟨0,false,false,false⟩) 108));have R1:=zW (Blk.new (w.alloc (.cells (lX I) 89)) 108 (efc ⟨0,false,false,false⟩));have h1:(c !=0)=true:=by simpa using h0
 have h2:(c==0)=false:=by simpa using h0
 clear H hl hc;go_enter Tryz.func34,Tryz.ntmps34;go_upto_region 0 with fail;refine zG ?_;refine lU rfl _ (.tmp 1) rfl (lX I) rfl ?_;simp only[Act.put,zQ,zZ,zJ];refine qH rfl fun K hK=>nD fS rfl (hK _ _ ?_);clear hK K;simp only[Act.put,zQ,zZ,zJ];refine wpList_nil ?_;simp only[zT]at R1⊢;obtain⟨q,hq⟩:∃q,w.heap.size=q:=⟨_,rfl⟩;have AT:=zW (show w.heap.size≤q+1 by omega);rw[hq]at I1 R1⊢;clear hq;generalize World.alloc (World.alloc _ _) _=w1 at BB HH I1 R1⊢;have c10:w1.cell? ⟨mb,10,none⟩=some (.pointer (some ⟨b,0,none⟩)):=(HH.out.bk.cell 10).trans rfl;have c7:w1.cell? ⟨mb,7,none⟩=some (.bool s.q.fa):=(HH.out.bk.cell 7).trans rfl;have s17:w1.cell? ⟨b,17,none⟩=some (.int .i64 a.pc):=(HH.out.rc.st.cell 17).trans ((mK a m g (j:=17) zLS).trans rfl);have i6:w1.cell? ⟨q,6,none⟩=some (.int .i64 I.len):=(I1.out.cell 6).trans rfl;have k10:=lH.cell c10 HH.out.bk.lt;have k7:=lH.cell c7 HH.out.bk.lt;have k17:=lH.cell s17 HH.out.rc.st.lt;have k6:=lH.cell i6 I1.out.lt;clear c10 c7 s17 i6;go_upto_region 1 with fail;refine mE zLE zLE ?_;repeat(go_big_quiet_step ((go_at_call 55;exact mS (CK.out _))))
 refine zY ?_;intro _ hw';obtain⟨x',rfl⟩:=hw';have b2:=zW x'.below;generalize x'.w=w2 at*;have R1:=zW (R1.out.step b2.out);have BB:=zW (BB.out.trans (b2.out.mono BB.out.size));clear b2 k10 k7 k17 k6 CK HH I1;go_upto_region 3 with fail;refine zG ?_;iterate 3 go_step
 refine mQ (cs:=efc ⟨c,false,false,false⟩) rfl rfl (by simp[Act.eval];exact CD c) ?_;simp only[Act.put,zQ,zZ,zJ];refine kU (ds:=efc ⟨c,false,false,false⟩) pZ R1.out rfl rfl (eT _) rfl (.tmp 4) (.tmp 25) rfl rfl rfl ?_;simp only[Act.put,zQ,zZ,zJ];have RW:=zW (R1.out.store (efc ⟨c,false,false,false⟩));have BW:=zW (lC BB.out AT.out (efc ⟨c,false,false,false⟩));clear R1 BB;generalize World.setRow _ _ _=w3 at RW BW⊢;go_wp2_with fail;iterate 4 (try go_step)
 exact zS (zE rfl _ _ (q+1) _ _ _ _ rfl RW.out Tryz.underlying108 rfl (by rw[pZ.i];rfl)) rfl ⟨rfl,BW.out⟩
structure MxW(mb q:Nat)(cs ds:Array Value) where
 w:World
 m:Blk mb 103 cs w
 i:Blk q 89 ds w
theorem J6(N:Nat)(E0:gP N){base mb b m g p mp h k:Nat}{pg:Nat→Option Nat}{v:Value}{en:Bool}{l:m6}{s:mB}{a:AS}{w:World}(H:MP base mb b m g p mp pg v en l h k s a w)(L:xX w)(op:Int)(x y n nn:Nat)(ad len:Int)(hc:chk a.pc len s.q.fa=0)(hd:oF ⟨op,x,y,n,nn,ad,len⟩ s.q.lv)(h1:0≤op∧op≤51)(h2:x<16)(h3:y<16)(h4:n<16)(h5:nn<256)(h6:0≤ad∧ad≤65535)(hl:0≤len∧len≤4)(hb:base≤w.heap.size):
  Calls Tryz.prog 34 #[.pointer (some ⟨mb,0,none⟩),.agg (lX ⟨op,x,y,n,nn,ad,len⟩)] w fun e w'=>e=.returned (.agg (efc (efA a op x y n s.q)))∧∃v',RC base ((⟨0,a.M⟩:Lg)+lgE op) b m g v' (stA N a op x y n nn ad len s.q) w'∧lN (n7 b m g v) w w'∧(v'.ownBlock=v.ownBlock∨∃k,v'.ownBlock=some k∧w.heap.size≤k):=by
 obtain⟨I,hI⟩:∃I:Ins,⟨op,x,y,n,nn,ad,len⟩=I:=⟨_,rfl⟩;have hlen:I.len=len:=by rw[←hI]
 have XEX:=zW (fun u (bu:Below w.heap.size w u)=>(hI▸E0 base ⟨0,a.M⟩ b m g v a op x y n nn ad len s.q u (H.rc.step bu) H.ok.ok (qI 900) h1 h2 h3 h4 h5 h6 hl (zR hb bu.size)));have OW:=zW (fun k hk=>(H.rc.lt k hk).2);rw[hI];have CK:=zW (fun u=>show Calls Tryz.prog 55 #[.int .i64 a.pc,.int .i64 I.len,.bool s.q.fa] u fun e w'=>e=.returned (.int .i64 0)∧u=w' from by rw[hlen,←hc];exact uI a.pc len s.q.fa u H.ok.ok.o.pc.1 H.ok.ok.o.pc.2 hl.1 zLS);have BB:=zW (show Below w.heap.size w ((w.alloc (.cells (lX I) 89)).alloc (.cells (efc ⟨0,false,false,false⟩) 108))from((zB _ _).alloc (zH _) _).alloc zLO _);have HH:=zW (H.step BB.out);have I1:=zW ((Blk.new w 89 (lX I)).alloc (.cells (efc ⟨0,false,false,false⟩) 108));have R1:=zW (Blk.new (w.alloc (.cells (lX I) 89)) 108 (efc ⟨0,false,false,false⟩));clear H hl hc hd h1 h2 h3 h4 h5 h6 hb L hI hlen;go_enter Tryz.func34,Tryz.ntmps34;go_upto_region 0 with fail;refine zG ?_;refine lU rfl _ (.tmp 1) rfl (lX I) rfl ?_;simp only[Act.put,zQ,zZ,zJ];refine qH rfl fun K hK=>nD fS rfl (hK _ _ ?_);clear hK K;simp only[Act.put,zQ,zZ,zJ];refine wpList_nil ?_;simp only[zT]at R1⊢;obtain⟨q,hq⟩:∃q,w.heap.size=q:=⟨_,rfl⟩;have AT:=zW (show w.heap.size≤q+1 by omega);have AQ:=zW (show w.heap.size≤q by omega);rw[hq]at I1 R1⊢;clear hq;generalize World.alloc (World.alloc _ _) _=w1 at BB HH I1 R1⊢;have c10:w1.cell? ⟨mb,10,none⟩=some (.pointer (some ⟨b,0,none⟩)):=(HH.out.bk.cell 10).trans rfl;have c7:w1.cell? ⟨mb,7,none⟩=some (.bool s.q.fa):=(HH.out.bk.cell 7).trans rfl;have s17:w1.cell? ⟨b,17,none⟩=some (.int .i64 a.pc):=(HH.out.rc.st.cell 17).trans ((mK a m g (j:=17) zLS).trans rfl);have i6:w1.cell? ⟨q,6,none⟩=some (.int .i64 I.len):=(I1.out.cell 6).trans rfl;have k10:=lH.cell c10 HH.out.bk.lt;have k7:=lH.cell c7 HH.out.bk.lt;have k17:=lH.cell s17 HH.out.rc.st.lt;have k6:=lH.cell i6 I1.out.lt;clear c10 c7 s17 i6;go_upto_region 1 with fail;refine mE zLE zLE ?_;repeat(go_big_quiet_step ((go_at_call 55;exact mS (CK.out _))))
 refine zY ?_;intro _ hw';obtain⟨x',rfl⟩:=hw';have b2:=zW x'.below;generalize x'.w=w2 at*;have R1:=zW (R1.out.step b2.out);have I1:=zW (I1.out.step b2.out);have HH:=zW (HH.out.step b2.out);have BB:=zW (BB.out.trans (b2.out.mono BB.out.size));clear b2 k10 k7 k17 k6 CK;have k10:∀u:MxW mb q (mcc s b p mp) (lX I),u.w.cell? ⟨mb,10,none⟩=some (.pointer (some ⟨b,0,none⟩)):=fun u=>(u.m.cell 10).trans rfl;go_upto_region 4 with fail;refine vM (C:=fun w'=>∃u:MxW mb q (mcc s b p mp) (lX I),w'=u.w) (.branch [0,1,2,3,4,5,6,7,8,9] [10] (fun c=> .branch [] [11] (fun c=> .last []))) zLE zLE (fun _ _ d _ _ h=>by cases d<;>exact h) ⟨⟨w2.drew,HH.out.bk.drew,I1.out.drew⟩,rfl⟩ ?_;intro wd hwd;have CB:=zW (show Below w2.heap.size w2 wd by rw[hwd];exact(zB _ _).drew);clear hwd;have FE:=zW (fun(w':World) (h:∃u:MxW mb q (mcc s b p mp) (lX I),w'=u.w)=>(show Blk q 89 (lX I) w' from by obtain⟨u,rfl⟩:=h;exact u.i));have FP:=zW (fun(w':World) (h:∃u:MxW mb q (mcc s b p mp) (lX I),w'=u.w)=>(show Blk mb 103 (mcc s b p mp) w' from by obtain⟨u,rfl⟩:=h;exact u.m));refine mD zLC ?_;repeat(first
  |(refine mX gD FE.out rfl ?_ (.tmp 3) ?_ ?_ ?_;(focus rfl);(focus rfl);(focus(simp[Act.eval,Act.put];done));simp only[Act.put,zQ,zZ,zJ])
  |(refine lV (o:=0) dZ FP.out (by show 0+8≤17;decide) ?_ (.tmp 34) ?_ ?_ ?_;(focus rfl);(focus rfl);(focus(simp[Act.eval,Act.put];done));rw[show(mcc s b p mp).extract 0 (0+8)=prc s.q from rfl];simp only[Act.put,zQ,zZ,zJ])
  |go_big_quiet_step (rfl))
 refine zY ?_
 refine List.forall_mem_cons.2 ⟨?_,fun _ h=>absurd h qD⟩;refine m8 zLU zLI ?_;intro K7 hK;refine lE (g:=56) (caps:=#[]) (args:=#[.pointer (some ⟨b,0,none⟩),.agg (lX I),.agg (prc s.q)]) (.func 56) #[.tmp 30,.tmp 31,.tmp 35] _ rfl (enters_of Tryz.func56 zLE rfl) rfl zLP ?_;have BD:=zW (BB.out.trans (CB.out.mono BB.out.size));refine(XEX.out wd BD.out).mono ?_;rintro e w3 ⟨rfl,v',rc,kk,vv⟩;refine⟨_,rfl,?_⟩;have M3:=zW (show Blk mb 103 (mcc s b p mp) w3 from(kk.block mb (HH.out.bk.step CB.out).lt HH.out.mb_own).trans (HH.out.bk.step CB.out));have I3:=zW (show Blk q 89 (lX I) w3 from(kk.block q (I1.out.step CB.out).lt fun c=>by have:=OW.out q c;have:=AQ.out;omega).trans (I1.out.step CB.out));have R3:=zW (show Blk (q+1) 108 (efc ⟨0,false,false,false⟩) w3 from(kk.block (q+1) (R1.out.step CB.out).lt fun c=>by have:=OW.out (q+1) c;have:=AT.out;omega).trans (R1.out.step CB.out));have C3:=zW rc;have K3:=zW ((lN.of_below (O:=n7 b m g v) BD.out).trans kk fun k h=> .inl h);have V3:=zW (show v'.ownBlock=v.ownBlock∨∃k,v'.ownBlock=some k∧w.heap.size≤k from vv.imp id fun⟨k,e1,e2⟩=>⟨k,e1,zR BD.out.size e2⟩);clear rc kk vv XEX;refine hK _ _ ⟨⟨w3,M3.out,I3.out⟩,rfl⟩ ?_;clear hK K7;simp only[Act.put,zQ,zZ,zJ];refine mD zL5 ?_;refine zY ?_;refine List.forall_mem_cons.2 ⟨?_,fun _ h=>absurd h qD⟩;refine m8 zLU zLI ?_;intro K7 hK;refine nM (ds:=efc (efA a op x y n s.q)) pZ R3.out rfl rfl (eT _) (.tmp 4) (.tmp 36) rfl zLP zLP ?_;have M4:=zW (show Blk mb 103 (mcc s b p mp) (w3.setRow (q+1) (efc (efA a op x y n s.q)))from(zO _ _ _ _ (fun c=>by have h1:=R3.out;have h2:=M3.out;rw[c]at h2;exact absurd (tR h2 h1) zLA)).trans M3.out);have I4:=zW (show Blk q 89 (lX I) (w3.setRow (q+1) (efc (efA a op x y n s.q)))from(zO _ _ _ _ zLS).trans I3.out);have R4:=zW (R3.out.store (efc (efA a op x y n s.q)));have C4:=zW (C3.out.away R3.out ⟨by decide,by decide,by decide,by decide,by decide⟩ (w':=w3.setRow (q+1) (efc (efA a op x y n s.q))) (by simp[World.setRow]) (fun k hk=>zO _ _ _ _ hk));have K4:=zW (K3.out.trans (wN (b:=q+1) (cs:=efc (efA a op x y n s.q)) (w:=w3)) fun k h=> .inr (by rw[h];exact AT.out));clear M3 I3 R3 C3 K3;generalize World.setRow _ _ _=w4 at M4 I4 R4 C4 K4⊢;refine hK _ _ ⟨⟨w4,M4.out,I4.out⟩,rfl⟩ ?_;clear hK K7;simp only[Act.put,zQ,zZ,zJ];refine cP zL5 ?_;refine zY ?_;go_wp2_with fail;iterate 4 (try go_step)
 exact zS (zE rfl _ _ (q+1) _ _ _ _ rfl R4.out Tryz.underlying108 rfl (by rw[pZ.i];rfl)) rfl ⟨rfl,v',C4.out,K4.out,V3.out⟩
theorem zXA(S:List (Int×Int)):(spV S).length=S.length*2:=by
 induction S with
 |nil=>rfl
 |cons s t ih=>simp[spV]at ih⊢;omega
theorem Q9:∀(S:List (Int×Int)) (i:Nat) (hi:i<S.length),(spV S)[i*2]?=some (.int .i64 S[i].1)∧(spV S)[i*2+1]?=some (.int .i64 S[i].2)
 |[],i,hi=>absurd hi (Nat.not_lt_zero _)
 |s::t,0,_=>⟨rfl,rfl⟩
 |s::t,i+1,hi=>by
  obtain⟨h1,h2⟩:=Q9 t i (by simpa using hi);have e1:spV (s::t)=.int .i64 s.1:: .int .i64 s.2::spV t:=rfl;rw[e1,show(i+1)*2=i*2+1+1 by omega,zK,zK,show i*2+1+1+1=(i*2+1)+1+1 by omega,zK,zK];exact⟨h1,h2⟩
theorem oK.spans{base:Nat}{lg:Lg}{M:List Int}{v:Value}{w:World}(h:oK base lg M v w):∃A c,∃S:List (Int×Int),v=.slice A S.length c∧S.length≤lg.n∧(∀s∈S,0≤s.1∧s.1≤65535∧0≤s.2∧s.2≤65536)∧(∀j:Nat,j<65536→(∀s∈S,¬((j:Int)-s.1)%65536<s.2)→M[j]?=lg.Z[j]?)∧
  ∀O:Nat→Prop,(∀k,v.ownBlock=some k→¬O k)→RgR w A S O:=by
 obtain⟨n,xs,o,hn,h0,_,S,rfl,hs,hd⟩:=h;have hl:=o.1;rw[zXA]at hl;have hn2:n=S.length:=zLS;subst hn2;rcases o.2 with⟨e,e0⟩|⟨g,cap,cur,e,_,hh,_⟩
 ·subst e;refine⟨none,0,S,by rw[e0],by omega,hs,hd,fun O _ i hi=>absurd hi zLS⟩
 ·subst e;refine⟨some ⟨g,0,none⟩,cap,S,rfl,hn,hs,hd,fun O hO i hi=>⟨g,0,rfl,(qK.1 hh).1,hO g rfl,?_,?_⟩⟩
  ·rw[qY];have h:=o.cells (g:=g) rfl (i*2) _ (Q9 S i hi).1;rw[e8,qY]at h;exact h
  ·rw[qY];have h:=o.cells (g:=g) rfl (i*2+1) _ (Q9 S i hi).2;rw[e8,qY]at h;exact h
theorem XU{base:Nat}{lg:Lg}{b m g:Nat}{v:Value}{a:AS}{w:World}(H:RC base lg b m g v a w)(hM:a.M.length=65536):
  Calls Tryz.prog 36 #[.pointer (some ⟨m,0,none⟩)] w fun e w'=>e=.returned v∧RC base ⟨0,a.M⟩ b m g (.slice none 0 0) a w'∧lN (fun k=>k=m) w w':=by
 obtain⟨A,c,S,ev,_⟩:=H.log.spans;have hm:=H.mem;rw[ev]at hm;refine(AE m a.M A S.length c w hM hm).mono ?_;rintro e w' ⟨rfl,mm,ap⟩;have kk:lN (fun k=>k=m) w w':=(lN.of_apart (ap none)).mono fun k _ h=>h.elim id fun h=>(by cases h);refine⟨by rw[ev],⟨(kk.block b H.st.lt H.ne.1).trans H.st,mm,JC _ _ _,?_,H.res,H.bb,H.bm⟩,kk⟩;obtain⟨A,c,hb,o⟩:=H.rnd.held;refine⟨H.rnd.low,A,c,(kk.block g H.rnd.lt (fun e=>H.ne.2.2.1 e.symm)).trans hb,cT o kk ?_⟩;exact fun j ej e=>H.row_off o ⟨by decide,by decide,by decide,by decide⟩ j ej (.inr (.inl e))
theorem aI{H:Type}{P:Program}{e:TypeId}(he:P.underlying e=some .bool){v:Value}{z:DataW H×List MemPlace}(h:plainElem P e v=some z):∃x,v=.bool x:=by
 unfold plainElem at h;rw[he]at h;cases v<;>simp at h
 exact⟨_,rfl⟩
theorem MP.look{base mb b m g p mp h k:Nat}{pg:Nat→Option Nat}{v:Value}{en:Bool}{l:m6}{s:mB}{a:AS}{w:World}(H:MP base mb b m g p mp pg v en l h k s a w)(ex:0≤s.ex∧s.ex≤1000000000):∃x:Bool,∀u:World,u.heap[mp]?=w.heap[mp]?→(Instr.lookup 101 (.map (some mp)) (.int .i64 s.ex) false).run Tryz.prog u=.ok (.bool x) u:=by
 obtain⟨n,D,hm⟩:=H.fl;have hk:keyOf Tryz.prog 3 (.int .i64 s.ex)=some (.int .i64 s.ex):=uC s.ex (by simp only[Lit.wf,zC,qB];simp[IntKind.min,IntKind.max,IntKind.bits];omega);have key:∀u:World,u.heap[mp]?=w.heap[mp]?→∃x:Bool,(Instr.lookup 101 (.map (some mp)) (.int .i64 s.ex) false).run Tryz.prog u=.ok (.bool x) u∧D.atKey (.int .i64 s.ex) (.lit (.bool false))=.lit (.bool x):=fun u hu=>by
  obtain⟨y,ps,hr,hv⟩:=(vV hm hu).lookup yS Tryz.underlying101 (z:=.bool false) rfl (plainElem_bool Tryz.underlying4 false) hk;obtain⟨x,rfl⟩:=aI Tryz.underlying4 hv;rw[plainElem_bool Tryz.underlying4]at hv;injection hv with hv
  injection hv with hv _
  exact⟨x,hr,hv.symm⟩
 obtain⟨x,_,e⟩:=key w rfl;refine⟨x,fun u hu=>?_⟩;obtain⟨y,hr,e2⟩:=key u hu;rw[e]at e2;injection e2 with e2
 injection e2 with e2
 rw[hr,e2]
theorem own_ic{base:Nat}{lg:Lg}{b m g p h k:Nat}{pg:Nat→Option Nat}{v:Value}{lv:Int}{en:Bool}{l:m6}{M:List Int}{a:AS}{w:World}(C:CoC pg p lv en l h k M w)(R:RC base lg b m g v a w):∀j,icO pg p j→¬n7 b m g v j:=fun j c d=>by
 obtain⟨cs,T,hb,hT⟩:=C.tag j c;obtain⟨ds,U,fr,h2,hU⟩:=R.tag j d;have e:=tR hb h2;subst e;rcases hT with rfl|rfl<;>(rcases hU with e|e|e|e<;>exact absurd e zLA)
theorem mb_own{base:Nat}{lg:Lg}{b m g mb:Nat}{v:Value}{a:AS}{cs:Array Value}{w:World}(B:Blk mb 103 cs w)(R:RC base lg b m g v a w):¬n7 b m g v mb:=fun d=>by
 obtain⟨ds,U,fr,h2,hU⟩:=R.tag mb d;have e:=tR B h2;subst e;rcases hU with e|e|e|e<;>exact absurd e zLA
theorem mb_ic{p h k mb:Nat}{pg:Nat→Option Nat}{lv:Int}{en:Bool}{l:m6}{M:List Int}{cs:Array Value}{w:World}(B:Blk mb 103 cs w)(C:CoC pg p lv en l h k M w):¬icO pg p mb:=fun d=>by
 obtain⟨cs,T,hb,hT⟩:=C.tag mb d;have e:=tR B hb;subst e;rcases hT with e|e<;>exact absurd e zLA
theorem RC.down{base base2:Nat}{lg:Lg}{b m g:Nat}{v:Value}{a:AS}{w:World}(h:RC base lg b m g v a w)(hb:base2≤base):RC base2 lg b m g v a w:=
 ⟨h.st,h.mem,(by obtain⟨n,xs,o,r⟩:=h.log;exact⟨n,xs,gX o hb,r⟩),h.rnd.mono hb,h.res,zR hb h.bb,zR hb h.bm⟩
theorem KR{q:Nat}{T:TypeId}{cs:Array Value}{w:World}(h:Blk q T cs w)(hT:T≠5)(ds:Array Value)(fr:Nat×Nat):w.heap[q]?≠some (.cells ds 5 fr):=fun e=>hT (tR h e)
theorem RC.keep{base:Nat}{lg:Lg}{b m g:Nat}{v:Value}{a:AS}{w w':World}{O:Nat→Prop}(h:RC base lg b m g v a w)(k:lN O w w')(hd:∀j,n7 b m g v j→¬O j)(hu:∀j,O j→∀cs fr,w.heap[j]?≠some (.cells cs 5 fr)):RC base lg b m g v a w':=by
 have blk:∀j,n7 b m g v j→w'.heap[j]?=w.heap[j]?:=fun j hj=>k.block j (h.lt j hj).2 (hd j hj);refine⟨(blk b (.inl rfl)).trans h.st,(blk m (.inr (.inl rfl))).trans h.mem,?_,?_,h.res,h.bb,h.bm⟩
 ·obtain⟨n,xs,o,r⟩:=h.log;exact⟨n,xs,cT o k fun j ej=>hd j (.inr (.inr (.inr ej))),r⟩
 ·obtain⟨A,c,hb,o⟩:=h.rnd.held;refine⟨h.rnd.low,A,c,(blk g (.inr (.inr (.inl rfl)))).trans hb,cT o k fun j ej hj=>?_⟩;rcases o.2 with⟨e1,_⟩|⟨g',cap,cur,e1,_,h2,_⟩
  ·rw[e1]at ej;cases ej
  ·rw[e1]at ej;cases ej
   exact hu _ hj _ _ h2
theorem MP.map{base mb b m g p mp h k:Nat}{pg:Nat→Option Nat}{v:Value}{en:Bool}{l:m6}{s:mB}{a:AS}{w w':World}(H:MP base mb b m g p mp pg v en l h k s a w)(kk:lN (fun j=>j=mp) w w'){n:Nat}{D:DataW Unit}(hm:w'.ownsMap Tryz.prog 3 (plainElem Tryz.prog 4) mp n D):MP base mb b m g p mp pg v en l h k s a w':=by
 refine⟨(kk.block mb H.bk.lt fun e=>H.mp_no.1 e.symm).trans H.bk,H.rc.keep kk (fun j hj e=>H.mp_no.2.2 (e▸hj)) (fun j e cs fr c=>?_),H.co.kept kk fun j hj e=>H.mp_no.2.1 (e▸hj),⟨n,D,hm⟩,H.ok,H.low⟩;obtain⟨n,D,es,clock,hb,_⟩:=H.fl;subst e;rw[hb]at c;cases c
structure MR(base:Nat)(O:Nat→Prop)(w0:World)(lg:Lg)(mb b m g p mp:Nat)(pg:Nat→Option Nat)(v:Value)(en:Bool)(l:m6)(h k:Nat)(M:List Int)(s:mB)(a:AS)(w:World):Prop where
 bk:Blk mb 103 (mcc s b p mp) w
 rc:RC base lg b m g v a w
 co:CoC pg p s.q.lv en l h k M w
 fl:∃n,∃D:DataW Unit,w.ownsMap Tryz.prog 3 (plainElem Tryz.prog 4) mp n D
 low:base≤mb∧base≤mp∧∀j,icO pg p j→base≤j
 kp:lN O w0 w
 gr:nS O (wS mb b m g p mp pg v) w0.heap.size
 bs:base≤w0.heap.size
section
variable {base:Nat} {O:Nat→Prop} {w0:World} {lg:Lg} {mb b m g p mp h k:Nat} {pg:Nat→Option Nat} {v:Value} {en:Bool} {l:m6} {M:List Int} {s:mB} {a:AS} {w w':World}
theorem MP.mr(H:MP base mb b m g p mp pg v en l h k s a w)(hb:base≤w.heap.size):MR base (wS mb b m g p mp pg v) w ⟨0,a.M⟩ mb b m g p mp pg v en l h k a.M s a w:=
 ⟨H.bk,H.rc,H.co,H.fl,H.low,lN.refl,nS.refl,hb⟩
theorem MR.mp_no(H:MR base O w0 lg mb b m g p mp pg v en l h k M s a w):mp≠mb∧¬icO pg p mp∧¬n7 b m g v mp:=by
 exact zNZ
theorem MR.flk(H:MR base O w0 lg mb b m g p mp pg v en l h k M s a w){O':Nat→Prop}(kk:lN O' w w')(hn:¬O' mp):∃n,∃D:DataW Unit,w'.ownsMap Tryz.prog 3 (plainElem Tryz.prog 4) mp n D:=by
 obtain⟨n,D,hm⟩:=H.fl;exact⟨n,D,vV hm (kk.block mp hm.lt hn)⟩
theorem MR.step(H:MR base O w0 lg mb b m g p mp pg v en l h k M s a w)(hb:Below w.heap.size w w'):MR base O w0 lg mb b m g p mp pg v en l h k M s a w':=
 ⟨H.bk.step hb,H.rc.step hb,H.co.step hb,H.flk (O':=fun _=>False) (lN.of_below hb) id,H.low,H.kp.trans (lN.of_below (O:=fun _=>False) hb) (fun _ c=>c.elim),H.gr,H.bs⟩
theorem CoC.u8{lv:Int}(C:CoC pg p lv en l h k M w):∀j,icO pg p j→∀cs fr,w.heap[j]?≠some (.cells cs 5 fr):=fun j hj=>by
 obtain⟨cs,T,hb,hT⟩:=C.tag j hj;exact KR hb (by rcases hT with rfl|rfl<;>decide)
theorem MR.ic(H:MR base O w0 lg mb b m g p mp pg v en l h k M s a w){pg':Nat→Option Nat}{l':m6}{h' k':Nat}{M':List Int}(C:CoC pg' p s.q.lv en l' h' k' M' w')(kk:lN (icO pg p) w w')(G:nS (icO pg p) (icO pg' p) w.heap.size):MR base O w0 lg mb b m g p mp pg' v en l' h' k' M' s a w':=by
 refine⟨(kk.block mb H.bk.lt (mb_ic H.bk H.co)).trans H.bk,H.rc.keep kk (fun j hj hi=>own_ic H.co H.rc j hi hj) H.co.u8,C,H.flk kk H.mp_no.2.1,⟨H.low.1,H.low.2.1,fun j hj=>?_⟩,H.kp.trans kk fun j hj=>H.gr j (.inr (.inr (.inl hj))),fun j hj=>?_,H.bs⟩
 ·rcases G j hj with h1|h1
  ·exact H.low.2.2 j h1
  ·exact zR (zR H.bs H.kp.size) h1
 ·rcases hj with e|e|e|e
  ·exact H.gr j (.inl e)
  ·exact H.gr j (.inr (.inl e))
  ·rcases G j e with h1|h1
   ·exact H.gr j (.inr (.inr (.inl h1)))
   ·exact .inr (zR H.kp.size h1)
  ·exact H.gr j (.inr (.inr (.inr e)))
theorem MR.st(H:MR base O w0 lg mb b m g p mp pg v en l h k M s a w){lg':Lg}{v':Value}{a':AS}{O':Nat→Prop}(R:RC base lg' b m g v' a' w')(kk:lN O' w w')(ho:∀j,O' j→n7 b m g v j)(hv:v'.ownBlock=v.ownBlock∨∀j,v'.ownBlock=some j→w.heap.size≤j):MR base O w0 lg' mb b m g p mp pg v' en l h k M s a' w':=by
 have kk:lN (n7 b m g v) w w':=kk.mono fun j _=>ho j;refine⟨(kk.block mb H.bk.lt (mb_own H.bk H.rc)).trans H.bk,R,H.co.kept kk (own_ic H.co H.rc),H.flk kk H.mp_no.2.2,H.low,H.kp.trans kk fun j hj=>H.gr j (.inr (.inr (.inr hj))),fun j hj=>?_,H.bs⟩;rcases hj with e|e|e|e|e|e|e
 ·exact H.gr j (.inl e)
 ·exact H.gr j (.inr (.inl e))
 ·exact H.gr j (.inr (.inr (.inl e)))
 ·exact H.gr j (.inr (.inr (.inr (.inl e))))
 ·exact H.gr j (.inr (.inr (.inr (.inr (.inl e)))))
 ·exact H.gr j (.inr (.inr (.inr (.inr (.inr (.inl e))))))
 ·rcases hv with h1|h1
  ·exact H.gr j (.inr (.inr (.inr (.inr (.inr (.inr (h1▸e)))))))
  ·exact .inr (zR H.kp.size (h1 j e))
theorem MR.own_mb(H:MR base O w0 lg mb b m g p mp pg v en l h k M s a w){s':mB}(B:Blk mb 103 (mcc s' b p mp) w')(kk:lN (fun j=>j=mb) w w')(e:s'.q=s.q):MR base O w0 lg mb b m g p mp pg v en l h k M s' a w':=by
 refine⟨B,H.rc.keep kk (fun j hj c=>mb_own H.bk H.rc (c▸hj)) (fun j c=>c▸KR H.bk zLA),?_,H.flk kk H.mp_no.1,H.low,H.kp.trans kk fun j hj=>H.gr j (.inl hj),H.gr,H.bs⟩;rw[e];exact H.co.kept kk fun j hj c=>mb_ic H.bk H.co (c▸hj)
theorem MR.off(H:MR base O w0 lg mb b m g p mp pg v en l h k M s a w){q:Nat}{T:TypeId}{cs:Array Value}(hq:Blk q T cs w)(hT:T≠70∧T≠150∧T≠186∧T≠144∧T≠137∧T≠170∧T≠103):¬wS mb b m g p mp pg v q:=by
 rintro(e|e|e|e)
 ·exact gB hq H.bk hT.2.2.2.2.2.2 e
 ·obtain⟨n,D,es,clock,hb,_⟩:=H.fl;have hq:w.heap[q]?=some (.cells cs T (0,0)):=hq;rw[e,hb]at hq;cases hq
 ·obtain⟨ds,U,hb,hU⟩:=H.co.tag q e;rcases hU with rfl|rfl
  ·exact gB hq hb hT.2.2.2.2.1 rfl
  ·exact gB hq hb hT.2.2.2.2.2.1 rfl
 ·obtain⟨ds,U,fr,h2,hU⟩:=H.rc.tag q e;have e2:=tR hq h2;subst e2;rcases hU with e|e|e|e
  ·exact hT.1 e
  ·exact hT.2.1 e
  ·exact hT.2.2.1 e
  ·exact hT.2.2.2.1 e
theorem MR.blk(H:MR base O w0 lg mb b m g p mp pg v en l h k M s a w){O':Nat→Prop}{q:Nat}{T:TypeId}{cs:Array Value}(hq:Blk q T cs w)(hT:T≠70∧T≠150∧T≠186∧T≠144∧T≠137∧T≠170∧T≠103)(kk:lN O' w w')(ho:∀j,O' j→wS mb b m g p mp pg v j):Blk q T cs w':=
 (kk.block q hq.lt fun c=>H.off hq hT (ho q c)).trans hq
theorem MR.row(H:MR base O w0 lg mb b m g p mp pg v en l h k M s a w){q:Nat}{T:TypeId}{cs:Array Value}(hq:Blk q T cs w)(hT:T≠70∧T≠150∧T≠186∧T≠144∧T≠137∧T≠170∧T≠103)(h8:T≠5)(hw:w0.heap.size≤q)(ds:Array Value):MR base O w0 lg mb b m g p mp pg v en l h k M s a (w.setRow q ds):=by
 have kk:lN (fun j=>j=q) w (w.setRow q ds):=wN;have no:∀j,wS mb b m g p mp pg v j→¬j=q:=fun j hj e=>H.off hq hT (e▸hj);exact⟨(kk.block mb H.bk.lt (no mb (.inl rfl))).trans H.bk,H.rc.keep kk (fun j hj=>no j (.inr (.inr (.inr hj)))) (fun j e=>e▸KR hq h8),H.co.kept kk fun j hj=>no j (.inr (.inr (.inl hj))),H.flk kk (no mp (.inr (.inl rfl))),H.low,H.kp.trans kk fun j e=> .inr (e▸hw),H.gr,H.bs⟩
theorem MR.to_mp(H:MR base O w0 ⟨0,a.M⟩ mb b m g p mp pg v en l h k a.M s a w)(ok:OkM s a):MP base mb b m g p mp pg v en l h k s a w:=⟨H.bk,H.rc,H.co,H.fl,ok,H.low⟩
end
def cfC(r l f:Value)(q:Pr)(en:Bool):Array Value:=#[r,l,.int .i64 q.lv,.bool q.sh,.bool q.ki,.bool q.jx,.bool q.lr,.bool q.cl,.bool q.dw,.bool q.fa,.bool en,f]
def snC(s:mB)(b:Nat):Array Value:=#[.pointer (some ⟨b,0,none⟩),.int .i64 s.k,.int .i64 s.c,.int .i64 s.p,.int .i64 s.y,.int .i64 s.rg,.int .i64 s.ex]
theorem aggCf:nI Tryz.prog 35 12:=⟨⟨_,Tryz.underlying35,rfl⟩,by kernel_rfl⟩
theorem aggSn:nI Tryz.prog 99 7:=⟨⟨_,Tryz.underlying99,rfl⟩,by kernel_rfl⟩
theorem iC(s:mB)(b p mp:Nat):Tryz.prog.built 103 [(0,.agg (prc s.q)),(1,.pointer (some ⟨p,0,none⟩)),(2,.map (some mp)),(3,.agg (snC s b))]=some (mcc s b p mp):=by unfold prc snC;kernel_rfl
theorem aV{P:Program}{Q:Exit→Act→World→Prop}{o:Oper}{a:Act}{w:World}{K:Act→World→Prop}(ty:TypeId)(ho:o.op=.makeMap ty none)(h:K (a.put o.dst (.map (some w.heap.size))) (w.alloc (.map #[] 0))):o.wp P a w K Q:=by
 unfold Oper.wp execOp;simp only[ho,zA,run_makeMap,Result.andThen_ok,Sem.run_pure,Option.map_none];exact h
def Fls(w:World)(A:Option Addr)(F:List Int):Prop:=Row (Value.int .i64) w A F∧F.length≤1000∧∀x∈F,-9223372036854775808≤x∧x≤9223372036854775807
theorem Fls.nil(w:World)(A:Option Addr):Fls w A []:=⟨Row.nil,qI _,fun x h=>absurd h qD⟩
theorem YH{base b m g:Nat}{v:Value}{s:mB}{a:AS}{w:World}(R:RC base ⟨0,a.M⟩ b m g v a w)(OK:OkM s a)(hb:base≤w.heap.size)(r l:Value)(en:Bool)(A:Option Addr)(n c:Nat)(F:List Int)(hF:Fls w A F)(hn:F.length=n):
  Calls Tryz.prog 29 #[.agg (cfC r l (.slice A n c) s.q en),.agg (snC s b)] w fun e w'=>∃mb p mp,e=.returned (.pointer (some ⟨mb,0,none⟩))∧MP base mb b m g p mp (fun _=>none) v en [] 0 0 s a w'∧Below w.heap.size w w':=by
 have OO:=zW OK;have HB:=zW hb;have RR:=zW R;have FF:=zW hF;have HN:=zW hn;clear OK hb R hF hn;go_enter Tryz.func29,Tryz.ntmps29;go_upto_region 0 with fail;refine zG ?_;refine lU rfl _ (.tmp 0) rfl (cfC r l (.slice A n c) s.q en) rfl ?_;simp only[Act.put,zQ,zZ,zJ];have C1:=zW (Blk.new w 35 (cfC r l (.slice A n c) s.q en));have b1:=lW w (.cells (cfC r l (.slice A n c) s.q en) 35);obtain⟨g1,hg1⟩:∃k,w.heap.size=k:=⟨_,rfl⟩;rw[hg1]at C1⊢;clear hg1;generalize World.alloc w _=w1 at C1 b1⊢;refine lU rfl _ (.tmp 1) rfl (snC s b) rfl ?_;simp only[Act.put,zQ,zZ,zJ];have C2:=zW (Blk.new w1 99 (snC s b));have b2:=lW w1 (.cells (snC s b) 99);obtain⟨g2,hg2⟩:∃k,w1.heap.size=k:=⟨_,rfl⟩;rw[hg2]at C2⊢;clear hg2;generalize World.alloc w1 _=w2 at C2 b2⊢;have C1:=zW (C1.out.step b2);have BB:=zW (b1.trans (b2.mono b1.size));clear b1 b2;go_upto_region 1 with fail;refine gG (fun A' a' w'=>∃p mp mb,a'=(((((((((((((A'.put (some 8) (.pointer (some ⟨g1,2,none⟩))).put (some 9) (.agg (prc s.q))).put (some 10) (.pointer (some ⟨g1,2,none⟩))).put (some 11) (.pointer (some ⟨g1,2,none⟩))).put (some 12) (.int .i64 s.q.lv)).put (some 13) (.pointer (some ⟨g1,10,none⟩))).put (some 14) (.bool en)).put (some 15) (.pointer (some ⟨p,0,none⟩))).put (some 16) (.map (some mp))).put (some 17) (.agg (snC s b))).put (some 18) (.agg (mcc s b p mp))).put (some 19) (.pointer (some ⟨mb,0,none⟩))).put (some 5) (.pointer (some ⟨mb,0,none⟩)))∧Below w.heap.size w w'∧Blk g1 35 (cfC r l (.slice A n c) s.q en) w'∧w'.ownsMap Tryz.prog 3 (plainElem (H:=Unit) Tryz.prog 4) mp 0 (.map [])∧CoC (fun _=>none) p s.q.lv en [] 0 0 a.M w'∧Blk mb 103 (mcc s b p mp) w'∧w.heap.size≤p∧w.heap.size≤mp∧w.heap.size≤mb) ?_ ?_
 ·refine vM (C:=fun w'=>∃u:lH w2,w'=u.w) (.branch [0,1,2,3,4,5,6,9] [7,8] (fun c=>if c=7 then .branch [] [8] (fun _=> .branch [10] [11] (fun _=> .last [12]))else .branch [] [7] (fun _=> .branch [10] [11] (fun _=> .last [12])))) zLE zLE (fun _ _ d _ _ h=>by cases h.1) ⟨⟨w2.drew,(zB _ _).drew⟩,rfl⟩ ?_;intro wd hwd;have CB:=zW (show Below w2.heap.size w2 wd by rw[hwd];exact(zB _ _).drew);clear hwd;have F1:=zW (fun(w':World) (h:∃u:lH w2,w'=u.w)=>(show Blk g1 35 (cfC r l (.slice A n c) s.q en) w' from by obtain⟨u,rfl⟩:=h;exact C1.out.step u.below));have F2:=zW (fun(w':World) (h:∃u:lH w2,w'=u.w)=>(show Blk g2 99 (snC s b) w' from by obtain⟨u,rfl⟩:=h;exact C2.out.step u.below));have k2:=lH.cell (show w2.cell? ⟨g1,2,none⟩=some (.int .i64 s.q.lv)from(C1.out.cell 2).trans rfl) C1.out.lt;have k10:=lH.cell (show w2.cell? ⟨g1,10,none⟩=some (.bool en)from(C1.out.cell 10).trans rfl) C1.out.lt;refine mD zLC ?_;repeat(first
   |(refine lV (o:=2) dZ F1.out (by show 2+8≤12;decide) ?_ (.tmp 8) ?_ ?_ ?_;(focus rfl);(focus rfl);(focus(simp[Act.eval,Act.put];done));rw[show(cfC r l (.slice A n c) s.q en).extract 2 (2+8)=prc s.q from rfl];simp only[Act.put,zQ,zZ,zJ])
   |(refine mX aggSn F2.out rfl ?_ (.tmp 3) ?_ ?_ ?_;(focus rfl);(focus rfl);(focus(simp[Act.eval,Act.put];done));simp only[Act.put,zQ,zZ,zJ])
   |go_big_quiet_step (rfl))
  refine zY ?_
  clear k2 k10;refine List.forall_mem_cons.2 ⟨?_,List.forall_mem_cons.2 ⟨?_,fun _ h=>absurd h qD⟩⟩
  ·refine m8 zLU zLI ?_;intro K7 hK;refine lE (g:=50) (caps:=#[]) (args:=#[.int .i64 s.q.lv,.bool en]) (.func 50) #[.tmp 12,.tmp 14] _ rfl (enters_of Tryz.func50 zLE rfl) rfl zLP ?_;refine(ZV s.q.lv en wd).mono ?_;rintro e wx ⟨rfl,hwx⟩;refine⟨_,rfl,?_⟩;have CC:=zW (show CoC (fun _=>none) wd.heap.size s.q.lv en [] 0 0 a.M wx from hwx▸pF s.q.lv en a.M wd zMZ);have bx:=show Below wd.heap.size wd wx from hwx▸lW wd _;have PG:=zW CB.out.size;have CB:=zW (CB.out.trans (bx.mono CB.out.size));clear bx hwx;obtain⟨p,hp⟩:∃p,wd.heap.size=p:=⟨_,rfl⟩;rw[hp]at CC PG⊢;clear hp;generalize wx=wd at*;refine hK _ _ ⟨⟨wd,CB.out⟩,rfl⟩ ?_;clear hK K7;simp only[Act.put,zQ,zZ,zJ];refine mD zL5 ?_;refine zY ?_;refine List.forall_mem_cons.2 ⟨?_,fun _ h=>absurd h qD⟩;refine m8 zLU zLI ?_;intro K7 hK;refine aV _ rfl ?_;have MM:=zW (World.ownsMap_made wd Tryz.prog 3 (plainElem (H:=Unit) Tryz.prog 4));have bx:=lW wd (.map #[] 0);have MG:=zW CB.out.size;have CC:=zW (CC.out.step bx);have CB:=zW (CB.out.trans (bx.mono CB.out.size));clear bx;obtain⟨mp,hmp⟩:∃p,wd.heap.size=p:=⟨_,rfl⟩;rw[hmp]at MM MG⊢;clear hmp;generalize World.alloc _ _=wd at*;exact zM2
  ·refine m8 zLU zLI ?_;intro K7 hK;refine aV _ rfl ?_;have MM:=zW (World.ownsMap_made wd Tryz.prog 3 (plainElem (H:=Unit) Tryz.prog 4));have bx:=lW wd (.map #[] 0);have MG:=zW CB.out.size;have CB:=zW (CB.out.trans (bx.mono CB.out.size));clear bx;obtain⟨mp,hmp⟩:∃p,wd.heap.size=p:=⟨_,rfl⟩;rw[hmp]at MM MG⊢;clear hmp;generalize World.alloc _ _=wd at*;refine hK _ _ ⟨⟨wd,CB.out⟩,rfl⟩ ?_;clear hK K7;simp only[Act.put,zQ,zZ,zJ];refine mD zL5 ?_;refine zY ?_;refine List.forall_mem_cons.2 ⟨?_,fun _ h=>absurd h qD⟩;refine m8 zLU zLI ?_;intro K7 hK;refine lE (g:=50) (caps:=#[]) (args:=#[.int .i64 s.q.lv,.bool en]) (.func 50) #[.tmp 12,.tmp 14] _ rfl (enters_of Tryz.func50 zLE rfl) rfl zLP ?_;refine(ZV s.q.lv en wd).mono ?_;rintro e wx ⟨rfl,hwx⟩;refine⟨_,rfl,?_⟩;have CC:=zW (show CoC (fun _=>none) wd.heap.size s.q.lv en [] 0 0 a.M wx from hwx▸pF s.q.lv en a.M wd zMZ);have bx:=show Below wd.heap.size wd wx from hwx▸lW wd _;have PG:=zW CB.out.size;have MM:=zW (vV MM.out (bx.block mp MM.out.lt));have CB:=zW (CB.out.trans (bx.mono CB.out.size));clear bx hwx;obtain⟨p,hp⟩:∃p,wd.heap.size=p:=⟨_,rfl⟩;rw[hp]at CC PG⊢;clear hp;generalize wx=wd at*;exact zM2
 rintro _ w3 ⟨p,mp,mb,rfl,B3,D1,MM,CC,MB,lp,lm,lb⟩;have MO:=zW MM;have X:=zW (show MP base mb b m g p mp (fun _=>none) v en [] 0 0 s a w3∧Below w.heap.size w w3 from⟨⟨MB,RR.out.step B3,CC,⟨0,_,MM⟩,OO.out,zR HB.out lb,zR HB.out lm,fun j hj=>?_⟩,B3⟩)
 rotate_left 1
 ·rcases hj with e|⟨i,_,e⟩
  ·exact e▸zR HB.out lp
  ·cases e
 have NM:=zW (show w.heap.size≤mp from lm);have C1:=zW D1;clear B3 D1 MM CC MB lp lm lb C2 BB;simp only[Act.put,zQ,zZ,zJ];have f11:w3.cell? ⟨g1,11,none⟩=some (.slice A n c):=(C1.out.cell 11).trans rfl;go_wp2_with fail;go_loopw [23] (fun i wr=>∃k:Nat,k≤n∧i=.int .i64 (k:Int)∧MP base mb b m g p mp (fun _=>none) v en [] 0 0 s a wr∧Below w.heap.size w wr∧∃D:DataW Unit,wr.ownsMap Tryz.prog 3 (plainElem Tryz.prog 4) mp k D) (fun i _=>n-(intOf i).toNat)
 case atStart=>exact⟨0,qI _,rfl,X.out.1,X.out.2,_,MO.out⟩
 case round=>
  clear X f11 C1
  obtain⟨k,hk,rfl,hX,hB,D,hD⟩:=hrel
  have X:=zW (zM hX hB)
  have MO:=zW hD
  clear hX hB hD
  by_cases hlt:k<n
  ·obtain⟨bb,o,rfl,hbb,hc⟩:=(FF.out.1.below X.out.2).at_ (k:=k) (by rw[HN.out];exact hlt)
   have FX:=zW (FF.out.2.2 _ (kX (by rw[HN.out];exact hlt:k<F.length)))
   generalize F[k]'_=x at hc FX
   have ki:(k:Int)<(n:Int):=zLS
   have k1000:(k:Int)≤1000:=by have:=FF.out.2.1;have:=HN.out;omega
   have KX:=zW (zM hlt hbb)
   have c9:wr.cell? ⟨mb,9,none⟩=some (.map (some mp)):=(X.out.1.bk.cell 9).trans rfl
   go_upto_region 5 with fail
   refine zG ?_
   iterate 15 go_step
   refine wpList_mapUpdate_own _ rfl _ _ _ 101 rfl 3 4 yS Tryz.underlying101 (plainElem Tryz.prog 4) mp k D rfl MO.out (by show k<9223372036854775807;omega) _ _ (.int .i64 x) rfl rfl (uC x (by show(decide ((-9223372036854775808:Int)≤x)&&decide (x≤(9223372036854775807:Int)))=true;simpa using FX.out)) (.lit (.bool true)) [] (plainElem_bool Tryz.underlying4 true) ?_
   intro w4 m4 g4
   have K4:=zW (show lN (fun j=>j=mp) wr w4 from⟨g4.os,g4.tape,g4.output,g4.size,fun i hi hn=>g4.block i hi fun e=>hn (by injection e)⟩)
   have X:=zW (show MP base mb b m g p mp (fun _=>none) v en [] 0 0 s a w4∧Below w.heap.size w w4 from⟨X.out.1.map K4.out m4,X.out.2.trans (K4.out.below X.out.2.size fun j e=>e▸NM.out)⟩)
   have MO:=zW m4
   clear m4 g4 K4 c9 hc
   go_wp2
   go_roundw
   case rel=>exact⟨k+1,KX.out.1,by go_num,X.out.1,X.out.2,_,MO.out⟩
   case measure=>have:=KX.out.1;simp[intOf];omega
  ·have ki:¬(k:Int)<(n:Int):=zLS
   go_wp2
   go_returns
   exact⟨mb,rfl,⟨p,mp,X.out.1⟩,X.out.2⟩
def J1(q:Pr):mB:=⟨q,0,0,0,0,0,0⟩
theorem zVX{q:Pr}{R L:List Int}(hq:1≤q.lv∧q.lv≤3)(hR:Bts R)(hL:Bts L)(hl:L.length≤100000):OkM (J1 q) (uG R L):=
 ⟨zKU hR hL hl,hq,(show(0:Int)≤0∧(0:Int)≤3 by decide),fun _=>⟨rfl,rfl,rfl⟩,(show(0:Int)≤0∧(0:Int)≤15 by decide),(show(0:Int)≤0 by decide),by show((0:Nat):Int)≤0;decide⟩
theorem WK(q:Pr)(w:World):Calls Tryz.prog 27 #[.agg (prc q)] w fun e w'=>e=.returned (.bool (decide (1≤q.lv∧q.lv≤3)))∧Below w.heap.size w w':=by
 by_cases h:1≤q.lv∧q.lv≤3
 ·rw[qJ h];exact EJ q.lv q.sh q.ki q.jx q.lr q.cl q.dw q.fa w h.1 h.2
 ·rw[zU h];exact UQ q.lv q.sh q.ki q.jx q.lr q.cl q.dw q.fa w zLS
theorem zJV(b:Nat):Tryz.prog.built 99 [(0,.pointer (some ⟨b,0,none⟩))]=some (snC (J1 H5) b):=by kernel_rfl
section
variable {A B FA:Option Addr} {n c k d fn fc:Nat} {R L F:List Int} {q:Pr} {en:Bool} {w:World}
theorem PP(N:Nat)(CS:xP N)(LW:xX w)(hA:Rd w A R)(hn:R.length=n)(n1:n≤65024)(hB:Rd w B L)(hk:L.length=k)(k1:k≤100000)(hR:Bts R)(hL:Bts L)(hF:Fls w FA F)(hf:F.length=fn)(hq:1≤q.lv∧q.lv≤3):
  Calls Tryz.prog 11 #[.agg (cfC (.slice A n c) (.slice B k d) (.slice FA fn fc) q en)] w fun e w'=>∃mb b m g p mp v,e=.returned (.tuple #[.pointer (some ⟨mb,0,none⟩),.int .i64 0])∧MP w.heap.size mb b m g p mp (fun _=>none) v en [] 0 0 (J1 q) (uG R L) w'∧Below w.heap.size w w':=by
 have VA:=zW (fun u=>qJ hq▸WK q u);have NW:=zW (fun u (bu:Below w.heap.size w u)=>CS.new_ A n c R B k d L u (LW.step bu) (hA.below bu) hn n1 (hB.below bu) hk k1);have OK:=zW (zVX hq hR hL (by rw[hk];exact k1));have FF:=zW (zM hF hf);clear hq CS LW hA hn n1 hB hk k1 hR hL hF hf;obtain⟨C,hC⟩:∃C,cfC (.slice A n c) (.slice B k d) (.slice FA fn fc) q en=C:=⟨_,rfl⟩;have CE:=zW (show C.size=12∧C=cfC (.slice A n c) (.slice B k d) (.slice FA fn fc) q en∧C.extract 2 (2+8)=prc q∧C[0]?=some (.slice A n c)∧C[1]?=some (.slice B k d)from by rw[←hC];exact⟨rfl,rfl,rfl,rfl,rfl⟩);rw[hC];clear hC;go_enter Tryz.func11,Tryz.ntmps11;go_upto_region 0 with fail;refine zG ?_;refine lU rfl _ (.tmp 0) rfl C rfl ?_;simp only[Act.put,zQ,zZ,zJ];have C1:=zW (Blk.new w 35 C);have BB:=zW (lW w (.cells C 35));obtain⟨g1,hg1⟩:∃k,w.heap.size=k:=⟨_,rfl⟩;rw[hg1]at C1⊢;clear hg1;generalize World.alloc w _=w1 at C1 BB⊢;go_upto_region 1 with fail;refine zG ?_;iterate 3 go_step
 refine nA (o:=2) dZ C1.out (by rw[CE.out.1];decide) rfl (.tmp 6) rfl rfl ?_;rw[show C.extract 2 (2+8)=prc q from CE.out.2.2.1];simp only[Act.put,zQ,zZ,zJ];go_wp2_with fail;refine(VA.out _).mono ?_;rintro e w2 ⟨rfl,b2⟩;have C1:=zW (C1.out.step b2);have BB:=zW (BB.out.trans (b2.mono BB.out.size));clear b2 VA;have c0:w2.cell? ⟨g1,0,none⟩=some (.slice A n c):=(C1.out.cell 0).trans CE.out.2.2.2.1;have c1:w2.cell? ⟨g1,1,none⟩=some (.slice B k d):=(C1.out.cell 1).trans CE.out.2.2.2.2;go_wp2_with fail;refine(NW.out _ BB.out).mono ?_;rintro e w3 ⟨b,m,g,v,rfl,rc,b3⟩;have RR:=zW (show RC w.heap.size ⟨0,(uG R L).M⟩ b m g v (uG R L) w3 from rc.down BB.out.size);have C1:=zW (C1.out.step b3);have BB:=zW (BB.out.trans (b3.mono BB.out.size));clear rc b3 NW c0 c1;go_upto_region 6 with fail;refine zG ?_;refine kO aggCf C1.out CE.out.1 rfl (.tmp 1) rfl rfl ?_;simp only[Act.put,zQ,zZ,zJ];iterate 3 go_step
 refine mQ (cs:=snC (J1 q) b) rfl rfl (by simp[Act.eval];exact zJV b) ?_;simp only[Act.put,zQ,zZ,zJ];have BL:=zW (fun r l en=>YH (A:=FA) (n:=fn) (c:=fc) (F:=F) RR.out OK.out BB.out.size r l en ⟨FF.out.1.1.below BB.out,FF.out.1.2⟩ FF.out.2);refine qH rfl fun K hK=>?_;refine lE (g:=29) (caps:=#[]) (args:=#[.agg C,.agg (snC (J1 q) b)]) (.func 29) #[.tmp 21,.tmp 23] _ rfl (enters_of Tryz.func29 zLE rfl) rfl zLP ?_;rw[CE.out.2.1];refine(BL.out _ _ _).mono ?_;rintro e w4 ⟨mb,p,mp,rfl,X,b4⟩;have X:=zW (zM X (BB.out.trans (b4.mono BB.out.size)));refine⟨_,rfl,?_⟩;refine hK _ _ ?_;clear hK K b4 BL RR C1 BB;simp only[Act.put,zQ,zZ,zJ];go_wp2;go_returns;exact⟨mb,b,m,g,p,mp,v,rfl,X.out.1,X.out.2⟩
end
theorem oR(N:Nat)(E0:gP N){base mb b m g p mp h k:Nat}{pg:Nat→Option Nat}{v:Value}{en:Bool}{l:m6}{s:mB}{a:AS}{w:World}(H:MP base mb b m g p mp pg v en l h k s a w)(L:xX w)(hb:base≤w.heap.size):
  Calls Tryz.prog 34 #[.pointer (some ⟨mb,0,none⟩),.agg (lX (yA s a))] w fun e w'=>e=.returned (.agg (efc (efM s a)))∧∃v',RC base ((⟨0,a.M⟩:Lg)+lgE (yA s a).op) b m g v' (asM N s a) w'∧lN (n7 b m g v) w w'∧(v'.ownBlock=v.ownBlock∨∃k,v'.ownBlock=some k∧w.heap.size≤k):=by
 obtain⟨op,x,y,n,nn,ad,len,ei,hd,r1,r2,r3,r4,r5,r6,r7⟩:=XZ H.ok;have hc:chk a.pc len s.q.fa=if okM s a=true then 0 else 4:=by
  unfold chk okM;rw[ei];cases s.q.fa
  ·rfl
  ·by_cases hz:a.pc+len≤65536
   ·rw[zL zLS,zN (by simpa using hz)]
   ·rw[zN ⟨rfl,by omega⟩,zL (by simpa using hz)]
 by_cases ho:okM s a=true
 ·rw[zN ho]at hc;have e1:efM s a=efA a op x y n s.q:=by unfold efM;rw[zN ho,ei];simp only[Int.toNat_natCast]
  have e2:asM N s a=stA N a op x y n nn ad len s.q:=by unfold asM;rw[zN ho,ei];simp only[Int.toNat_natCast]
  rw[e1,e2,ei];exact J6 N E0 H L op x y n nn ad len hc hd r1 r2 r3 r4 r5 r6 r7 hb
 ·rw[zL ho]at hc;have e1:efM s a=⟨4,false,false,false⟩:=by unfold efM;rw[zL ho]
  have e2:asM N s a=a:=by unfold asM;rw[zL ho]
  rw[e1,e2];refine(J5 H (yA s a) (by rw[ei];exact r7) 4 (by rw[ei];exact hc) zLA).mono ?_;rintro e w' ⟨rfl,bb⟩;exact⟨rfl,v,(H.rc.step bb).more (Lg.up _ _),lN.of_below bb,.inl rfl⟩
structure MsW(mb b:Nat)(cs ds:Array Value) where
 w:World
 m:Blk mb 103 cs w
 s:Blk b 70 ds w
theorem MV{base mb b m g p mp h k:Nat}{pg:Nat→Option Nat}{v:Value}{en:Bool}{l:m6}{s:mB}{a:AS}{w:World}(H:MP base mb b m g p mp pg v en l h k s a w)(hk:s.k≠0):
  Calls Tryz.prog 12 #[.pointer (some ⟨mb,0,none⟩)] w fun e w'=>e=.returned (.bool false)∧Below w.heap.size w w':=by
 have NN:=zW (yQ H.bk);have c11:w.cell? ⟨mb,11,none⟩=some (.int .i64 s.k):=(H.bk.cell 11).trans rfl;have h1:(s.k !=0)=true:=by simpa using hk
 have h2:(s.k==0)=false:=by simpa using hk
 clear H;go_enter Tryz.func12,Tryz.ntmps12;go_wp2_with fail;refine NN.out.mono ?_;rintro e w' ⟨rfl,rfl⟩;go_wp2;go_returns;exact⟨rfl,zB _ _⟩
theorem XT{P:Program}{o:Oper}{ρ:Operand→Value}{w:World}(ty:TypeId)(m x:Operand)(ho:o.op=.lookup ty m x false)(r:Value)(hr:(Instr.lookup ty (ρ m) (ρ x) false).run P w=.ok r w):(execOp ρ o).run P w=.ok (.value r) w:=by
 unfold execOp;simp only[ho];rw[zA,hr];simp[Result.andThen_ok]
theorem VW(N:Nat)(E0:gP N){base mb b m g p mp h k:Nat}{pg:Nat→Option Nat}{v:Value}{en:Bool}{l:m6}{s:mB}{a:AS}{w:World}(H:MP base mb b m g p mp pg v en l h k s a w)(L:xX w)(hB:1<base)(hb:base≤w.heap.size)(hk:s.k=0)(hx:s.ex≤90000)(h1:h+k≤90000)(l1:l.length≤90000):
  Calls Tryz.prog 12 #[.pointer (some ⟨mb,0,none⟩)] w fun e w'=>e=.returned (.bool (efM s a).drew)∧∃pg' v' l' h' k',MP base mb b m g p mp pg' v' en l' h' k' (nmM s a) (vL N s a) w'∧lN (wS mb b m g p mp pg v) w w'∧nS (wS mb b m g p mp pg v) (wS mb b m g p mp pg' v') w.heap.size∧h'+k'≤h+k+1∧l'.length≤l.length+1∧(en=true→s.k=0→(yA s a).op=38→(lI l' (tZ a.pc)).isSome=true):=by
 have OK:=zW H.ok;have HX:=zW (zM hx (zM h1 l1));have LL:=zW (fun u (hu:lN (wS mb b m g p mp pg v) w u)=>L.below (hu.below hb fun j hj=>(H.blt j hj).1) hB);have CC:=zW E0;obtain⟨x,hl⟩:=H.look ⟨H.ok.ex,by omega⟩;have LK:=zW hl;have X:=zW (H.mr hb);have NN:=zW (yQ H.bk);have HK:=zW hk;have MLT:=zW (show mp<w.heap.size from by obtain⟨n,D,hm⟩:=H.fl;exact hm.lt);have c11:w.cell? ⟨mb,11,none⟩=some (.int .i64 0):=(H.bk.cell 11).trans (by rw[←hk];rfl);obtain⟨O,hO⟩:∃O,wS mb b m g p mp pg v=O:=⟨_,rfl⟩;rw[hO]at X LL⊢;clear hO;have ST:=zW (show nmM s a=nmE s a.pc (yA s a).x (efM s a)∧vL N s a=asM N s a from⟨by unfold nmM;rw[zN hk],by unfold vL;rw[zN hk]⟩);have OK2:=zW (zQB N H.ok zLS);have ZZ:=zW (H.ok.z hk);clear H L E0 hx h1 l1 hl hk hb hB;obtain⟨f,hf⟩:∃f,efM s a=f:=⟨_,rfl⟩;obtain⟨a2,ha2⟩:∃a2,asM N s a=a2:=⟨_,rfl⟩;have EF:=zW (zM hf ha2);rw[hf];clear hf ha2;go_enter Tryz.func12,Tryz.ntmps12;go_wp2_with fail;refine NN.out.mono ?_;rintro e w' ⟨rfl,rfl⟩;clear NN;go_upto_region 3 with fail;have k9:=lH.cell (show w.cell? ⟨mb,9,none⟩=some (.map (some mp))from(X.out.bk.cell 9).trans rfl) X.out.bk.lt;have k16:=lH.cell (show w.cell? ⟨mb,16,none⟩=some (.int .i64 s.ex)from(X.out.bk.cell 16).trans rfl) X.out.bk.lt;have LC:=zW (fun u:lH w=>LK.out u.w (u.below.block mp MLT.out));refine mE zLE zLE ?_;iterate 9 (go_big_quiet_step (fail))
 refine vC rfl (.bool x) (fun u hu=>?_) ?_
 ·obtain⟨u,rfl⟩:=hu;exact XT _ _ _ rfl _ (LC.out u)
 simp only[Act.put,zQ,zZ,zJ];refine zY ?_;intro _ hw';obtain⟨x',rfl⟩:=hw';have X:=zW (X.out.step x'.below);generalize x'.w=w1 at*;clear k9 k16 LC LK c11;cases x
 obtain⟨pg1,l1,w2,X2,hl1,hw2⟩:∃pg1 l1 w2,MR base O w ⟨0,a.M⟩ mb b m g p mp pg1 v en l1 h k a.M s a w2∧l1.length≤l.length∧w2=w1:=⟨pg,l,w1,X.out,zH _,rfl⟩
 rw[←hw2];have HX:=zW (zM HX.out hl1);clear X hl1 hw2;have X:=zW X2;clear X2
 rotate_left 1
 have c8:w1.cell? ⟨mb,8,none⟩=some (.pointer (some ⟨p,0,none⟩)):=(X.out.bk.cell 8).trans rfl;(focus go_wp2_with fail)
 refine(XN X.out.co).mono ?_;rintro e w2 ⟨rfl,C2,K2⟩;have X:=zW (X.out.ic C2 (K2.mono fun j _ e=> .inl e) (fun j hj=> .inl (hj.elim .inl fun⟨i,_,e⟩=>by cases e)));obtain⟨pg1,l1,X2,hl1⟩:∃pg1 l1,MR base O w ⟨0,a.M⟩ mb b m g p mp pg1 v en l1 h k a.M s a w2∧l1.length≤l.length:=⟨_,_,X.out,qI _⟩;have HX:=zW (zM HX.out hl1);clear C2 K2 c8 X hl1;have X:=zW X2;clear X2;simp only[]
 all_goals
  have c10:w2.cell? ⟨mb,10,none⟩=some (.pointer (some ⟨b,0,none⟩)):=(X.out.bk.cell 10).trans rfl
  go_upto_region 6 with fail
  clear c10
  obtain⟨I,hI⟩:∃I,yA s a=I:=⟨_,rfl⟩
  have EI:=zW hI
  have GT:=zW (fun u (U:MR base O w ⟨0,a.M⟩ mb b m g p mp pg1 v en l1 h k a.M s a u)=>AZ U.co m v a.pc OK.out.ok.o.M U.rc.mem (iU OK.out.ok.o.B) (fun c=>own_ic U.co U.rc m c (.inr (.inl rfl))) (by have:=HX.out;omega) (by have:=HX.out;omega) (by have:=HX.out;omega))
  rw[show xN a.M a.pc s.q.lv=I from hI]at GT
  clear hI
  refine gG (fun A a' w'=>∃q pg' l' h' k',a'=((((((((((((((A.put (some 38) (.pointer (some ⟨mb,0,none⟩))).put (some 39) (.pointer (some ⟨mb,0,none⟩))).put (some 40) (.pointer (some ⟨mb,8,none⟩))).put (some 41) (.pointer (some ⟨p,0,none⟩))).put (some 42) (.pointer (some ⟨b,0,none⟩))).put (some 43) (.pointer (some ⟨b,0,none⟩))).put (some 44) (.pointer (some ⟨b,35,none⟩))).put (some 45) (.pointer (some ⟨m,0,none⟩))).put (some 46) (.pointer (some ⟨b,0,none⟩))).put (some 47) (.pointer (some ⟨b,0,none⟩))).put (some 48) (.pointer (some ⟨b,17,none⟩))).put (some 49) (.int .i64 a.pc)).put (some 50) (.agg (lX I))).put (some 4) (.pointer (some ⟨q,0,none⟩)))∧MR base O w ⟨0,a.M⟩ mb b m g p mp pg' v en l' h' k' a.M s a w'∧Blk q 89 (lX I) w'∧w.heap.size≤q∧h'+k'≤h+k+1∧l'.length≤l.length+1∧(en=true→(lI l' (tZ a.pc)).isSome=true)) ?_ ?_
  ·refine vM (C:=fun w'=>∃u:MsW mb b (mcc s b p mp) (stC a m g),w'=u.w) (.branch [0,1,2,3,4,5,6,7,8,9,10,11] [12,13] (fun c=>if c=12 then .branch [] [13] (fun _=> .branch [] [14] (fun _=> .last []))else .branch [] [12] (fun _=> .branch [] [14] (fun _=> .last [])))) zLE zLE (fun _ _ d _ _ h=>by cases h.1) ⟨⟨w2.drew,X.out.bk.drew,X.out.rc.st.drew⟩,rfl⟩ ?_
   intro wd hwd
   have X:=zW (show MR base O w ⟨0,a.M⟩ mb b m g p mp pg1 v en l1 h k a.M s a wd from by rw[hwd];exact X.out.step ((zB _ _).drew))
   clear hwd
   have c8:∀u:MsW mb b (mcc s b p mp) (stC a m g),u.w.cell? ⟨mb,8,none⟩=some (.pointer (some ⟨p,0,none⟩)):=fun u=>(u.m.cell 8).trans rfl
   have s35:∀u:MsW mb b (mcc s b p mp) (stC a m g),u.w.cell? ⟨b,35,none⟩=some (.pointer (some ⟨m,0,none⟩)):=fun u=>(u.s.cell 35).trans (mK _ m g zLS)
   have s17:∀u:MsW mb b (mcc s b p mp) (stC a m g),u.w.cell? ⟨b,17,none⟩=some (.int .i64 a.pc):=fun u=>(u.s.cell 17).trans ((mK a m g (j:=17) zLS).trans rfl)
   refine mD zLC ?_
   repeat(go_big_quiet_step (rfl))
   refine zY ?_
   clear c8 s35 s17
   refine List.forall_mem_cons.2 ⟨?_,List.forall_mem_cons.2 ⟨?_,fun _ h=>absurd h qD⟩⟩
   ·refine m8 zLU zLI ?_
    intro K7 hK
    refine lE (g:=32) (caps:=#[]) (args:=#[.pointer (some ⟨p,0,none⟩),.pointer (some ⟨m,0,none⟩),.int .i64 a.pc]) (.func 32) #[.tmp 41,.tmp 45,.tmp 49] _ rfl (enters_of Tryz.func32 zLE rfl) rfl zLP ?_
    refine(GT.out wd X.out).mono ?_
    rintro e w3 ⟨rfl,pg2,l2,h2,k2,C3,K3,G3,n1,n2,n3⟩
    refine⟨_,rfl,?_⟩
    have X:=zW (X.out.ic C3 K3 G3)
    have NN:=zW (show h2+k2≤h+k+1∧l2.length≤l.length+1∧(en=true→(lI l2 (tZ a.pc)).isSome=true)from⟨by omega,by have:=HX.out.2;omega,n3⟩)
    clear C3 K3 G3 n1 n2 n3 GT
    refine hK _ _ ⟨⟨w3,X.out.bk,X.out.rc.st⟩,rfl⟩ ?_
    clear hK K7
    simp only[Act.put,zQ,zZ,zJ]
    have BN:=zW (lW w3 (.cells nZ 89))
    refine mD zL5 ?_
    refine zY ?_
    refine List.forall_mem_cons.2 ⟨?_,fun _ h=>absurd h qD⟩
    refine m8 zLU zLI ?_
    intro K7 hK
    refine nD oP rfl ?_
    have QI:=zW (Blk.new w3 89 nZ)
    have AQ:=zW X.out.kp.size
    have X:=zW (X.out.step BN.out)
    clear BN
    obtain⟨q,hq⟩:∃q,w3.heap.size=q:=⟨_,rfl⟩
    rw[hq]at QI AQ⊢
    clear hq
    generalize World.alloc _ _=w4 at X QI⊢
    refine hK _ _ ⟨⟨w4,X.out.bk,X.out.rc.st⟩,rfl⟩ ?_
    clear hK K7
    simp only[Act.put,zQ,zZ,zJ]
    refine mD zL5 ?_
    refine zY ?_
    refine List.forall_mem_cons.2 ⟨?_,fun _ h=>absurd h qD⟩
    refine m8 zLU zLI ?_
    intro K7 hK
    refine nM (ds:=lX I) gD QI.out rfl rfl (zZM I) (.tmp 4) (.tmp 50) rfl zLP zLP ?_
    have X:=zW (X.out.row QI.out ⟨by decide,by decide,by decide,by decide,by decide,by decide,by decide⟩ zLA AQ.out (lX I))
    have QI:=zW (QI.out.store (lX I))
    generalize World.setRow _ _ _=w5 at X QI⊢
    refine hK _ _ ⟨⟨w5,X.out.bk,X.out.rc.st⟩,rfl⟩ ?_
    clear hK K7
    simp only[Act.put,zQ,zZ,zJ]
    refine cP zL5 ?_
    refine zY ?_
    exact⟨rfl,q,pg2,l2,h2,k2,rfl,X.out,QI.out,AQ.out,NN.out⟩
   ·refine m8 zLU zLI ?_
    intro K7 hK
    refine nD oP rfl ?_
    have QI:=zW (Blk.new wd 89 nZ)
    have AQ:=zW X.out.kp.size
    have X:=zW (X.out.step (lW wd (.cells nZ 89)))
    obtain⟨q,hq⟩:∃q,wd.heap.size=q:=⟨_,rfl⟩
    rw[hq]at QI AQ⊢
    clear hq
    generalize World.alloc _ _=wd at X QI⊢
    refine hK _ _ ⟨⟨wd,X.out.bk,X.out.rc.st⟩,rfl⟩ ?_
    clear hK K7
    simp only[Act.put,zQ,zZ,zJ]
    refine mD zL5 ?_
    refine zY ?_
    refine List.forall_mem_cons.2 ⟨?_,fun _ h=>absurd h qD⟩
    refine m8 zLU zLI ?_
    intro K7 hK
    refine lE (g:=32) (caps:=#[]) (args:=#[.pointer (some ⟨p,0,none⟩),.pointer (some ⟨m,0,none⟩),.int .i64 a.pc]) (.func 32) #[.tmp 41,.tmp 45,.tmp 49] _ rfl (enters_of Tryz.func32 zLE rfl) rfl zLP ?_
    refine(GT.out wd X.out).mono ?_
    rintro e w3 ⟨rfl,pg2,l2,h2,k2,C3,K3,G3,n1,n2,n3⟩
    refine⟨_,rfl,?_⟩
    have QI:=zW (X.out.blk QI.out ⟨by decide,by decide,by decide,by decide,by decide,by decide,by decide⟩ K3 fun j hj=> .inr (.inr (.inl hj)))
    have X:=zW (X.out.ic C3 K3 G3)
    have NN:=zW (show h2+k2≤h+k+1∧l2.length≤l.length+1∧(en=true→(lI l2 (tZ a.pc)).isSome=true)from⟨by omega,by have:=HX.out.2;omega,n3⟩)
    clear C3 K3 G3 n1 n2 n3 GT
    refine hK _ _ ⟨⟨w3,X.out.bk,X.out.rc.st⟩,rfl⟩ ?_
    clear hK K7
    simp only[Act.put,zQ,zZ,zJ]
    generalize w3=w4 at X QI⊢
    refine mD zL5 ?_
    refine zY ?_
    refine List.forall_mem_cons.2 ⟨?_,fun _ h=>absurd h qD⟩
    refine m8 zLU zLI ?_
    intro K7 hK
    refine nM (ds:=lX I) gD QI.out rfl rfl (zZM I) (.tmp 4) (.tmp 50) rfl zLP zLP ?_
    have X:=zW (X.out.row QI.out ⟨by decide,by decide,by decide,by decide,by decide,by decide,by decide⟩ zLA AQ.out (lX I))
    have QI:=zW (QI.out.store (lX I))
    generalize World.setRow _ _ _=w5 at X QI⊢
    refine hK _ _ ⟨⟨w5,X.out.bk,X.out.rc.st⟩,rfl⟩ ?_
    clear hK K7
    simp only[Act.put,zQ,zZ,zJ]
    refine cP zL5 ?_
    refine zY ?_
    exact⟨rfl,q,pg2,l2,h2,k2,rfl,X.out,QI.out,AQ.out,NN.out⟩
  rintro _ w3 ⟨q,pg2,l2,h2,k2,rfl,X3,QI,AQ,n1⟩
  have NN:=zW n1
  have QI:=zW QI
  have AQ:=zW AQ
  clear X GT n1
  have X:=zW X3
  clear X3
  simp only[Act.put,zQ,zZ,zJ]
  go_upto_region 7 with fail
  refine vM (C:=fun w'=>∃u:MsW mb b (mcc s b p mp) (stC a m g),w'=u.w) (.branch [0,1,2,3,4,5,6,7,8] [9] (fun _=> .last [10])) zLE zLE (fun _ _ d _ _ h=>by cases d<;>exact h) ⟨⟨w3.drew,X.out.bk.drew,X.out.rc.st.drew⟩,rfl⟩ ?_
  intro wd hwd
  have BD:=zW (show Below w3.heap.size w3 wd from by rw[hwd];exact(zB _ _).drew)
  have X:=zW (X.out.step BD.out)
  have QI:=zW (QI.out.step BD.out)
  clear hwd BD
  have c16:∀u:MsW mb b (mcc s b p mp) (stC a m g),u.w.cell? ⟨mb,16,none⟩=some (.int .i64 s.ex):=fun u=>(u.m.cell 16).trans rfl
  have s17:∀u:MsW mb b (mcc s b p mp) (stC a m g),u.w.cell? ⟨b,17,none⟩=some (.int .i64 a.pc):=fun u=>(u.s.cell 17).trans ((mK a m g (j:=17) zLS).trans rfl)
  refine mD zLC ?_
  repeat(go_big_quiet_step (rfl))
  refine zY ?_
  clear c16 s17
  refine List.forall_mem_cons.2 ⟨?_,fun _ h=>absurd h qD⟩
  refine m8 zLU zLI ?_
  intro K7 hK
  refine lE (g:=33) (caps:=#[]) (args:=#[.int .i64 a.pc,.int .i64 s.ex]) (.func 33) #[.tmp 54,.tmp 59] _ rfl (enters_of Tryz.func33 zLE rfl) rfl zLP ?_
  refine(XF a.pc s.ex wd).mono ?_
  rintro e w4 ⟨rfl,hw4⟩
  refine⟨_,rfl,?_⟩
  have E1:=zW (show Blk wd.heap.size 3 #[.int .i64 a.pc] w4 from by rw[hw4];exact(Blk.new wd 3 #[.int .i64 a.pc]).alloc _)
  have E2:=zW (show Blk (wd.heap.size+1) 3 #[.int .i64 s.ex] w4 from by rw[hw4];have h:=Blk.new (wd.alloc (.cells #[.int .i64 a.pc] 3)) 3 #[.int .i64 s.ex];rwa [zT]at h)
  have BD:=zW (show Below wd.heap.size wd w4 from by rw[hw4];exact((zB _ _).alloc (zH _) _).alloc zLO _)
  have X:=zW (X.out.step BD.out)
  have QI:=zW (QI.out.step BD.out)
  clear hw4 BD
  obtain⟨q5,hq5⟩:∃q5,wd.heap.size=q5:=⟨_,rfl⟩
  obtain⟨q6,hq6⟩:∃q6,q5+1=q6:=⟨_,rfl⟩
  rw[hq5,hq6]at E2⊢
  rw[hq5]at E1
  clear hq5 hq6
  refine hK _ _ ⟨⟨w4,X.out.bk,X.out.rc.st⟩,rfl⟩ ?_
  clear hK K7
  simp only[Act.put,zQ,zZ,zJ]
  refine cP zLC ?_
  repeat(go_big_quiet_step (rfl))
  refine zY ?_
  have XE:=zW (oR N CC.out (X.out.to_mp OK.out) (LL.out _ X.out.kp) (zR X.out.bs X.out.kp.size))
  rw[EI.out]at XE
  rw[EF.out.1,EF.out.2]at XE
  go_upto_region 8 with fail
  refine zG ?_
  iterate 3 go_step
  refine kO gD QI.out rfl rfl (.tmp 4) rfl rfl ?_
  simp only[Act.put,zQ,zZ,zJ]
  refine qH rfl fun K hK=>?_
  refine lE (g:=34) (caps:=#[]) (args:=#[.pointer (some ⟨mb,0,none⟩),.agg (lX I)]) (.func 34) #[.tmp 61,.tmp 62] _ rfl (enters_of Tryz.func34 zLE rfl) rfl zLP ?_
  refine XE.out.mono ?_
  rintro e w5 ⟨rfl,v',rc,kk,vv⟩
  refine⟨_,rfl,?_⟩
  refine hK _ _ ?_
  clear hK K XE
  simp only[Act.put,zQ,zZ,zJ]
  have QI:=zW (X.out.blk QI.out ⟨by decide,by decide,by decide,by decide,by decide,by decide,by decide⟩ kk fun j hj=> .inr (.inr (.inr hj)))
  have E1:=zW (X.out.blk E1.out ⟨by decide,by decide,by decide,by decide,by decide,by decide,by decide⟩ kk fun j hj=> .inr (.inr (.inr hj)))
  have E2:=zW (X.out.blk E2.out ⟨by decide,by decide,by decide,by decide,by decide,by decide,by decide⟩ kk fun j hj=> .inr (.inr (.inr hj)))
  have X:=zW (X.out.st rc kk (fun _ h=>h) (vv.imp id fun⟨k,e,h⟩ j ej=>by rw[e]at ej;cases ej;exact h))
  clear rc kk vv
  obtain⟨q7,hq7⟩:∃k,w5.heap.size=k:=⟨_,rfl⟩
  have F7:=zW (show Blk q7 108 (efc f) (w5.alloc (.cells (efc f) 108))from hq7▸Blk.new w5 108 (efc f))
  have bn:=lW w5 (.cells (efc f) 108)
  refine mT (ds:=efc f) pZ fS rfl rfl (eT _) rfl rfl rfl (.tmp 6) (.tmp 63) rfl zLP zLP ?_
  simp only[Act.put,zQ,zZ,zJ]
  rw[hq7]
  have X:=zW (X.out.step bn)
  have QI:=zW (QI.out.step bn)
  have E1:=zW (E1.out.step bn)
  have E2:=zW (E2.out.step bn)
  clear bn hq7
  generalize World.alloc _ _=w6 at X QI E1 E2 F7⊢
  have c16:w6.cell? ⟨mb,16,none⟩=some (.int .i64 s.ex):=(X.out.bk.cell 16).trans rfl
  have f16:=X.out.bk.frozen 16
  have hmin:min s.ex 9223372036854775806=s.ex:=by have:=HX.out;omega
  have hwr:IntKind.i64.wrap (s.ex+1)=s.ex+1:=by have:=OK.out.ex;have:=HX.out;rw[qQ];omega
  go_upto_region 10 with fail
  clear c16 f16 hmin hwr
  obtain⟨s1,hs1⟩:∃s1:mB,{s with ex:=s.ex+1}=s1:=⟨_,rfl⟩
  have ES:=zW hs1
  have KC:=zW (show lN (fun j=>j=mb) w6 (w6.setCell ⟨mb,16,none⟩ (.int .i64 (s.ex+1)))from yK rfl)
  have QI:=zW (X.out.blk QI.out ⟨by decide,by decide,by decide,by decide,by decide,by decide,by decide⟩ KC.out fun j e=> .inl e)
  have E1:=zW (X.out.blk E1.out ⟨by decide,by decide,by decide,by decide,by decide,by decide,by decide⟩ KC.out fun j e=> .inl e)
  have E2:=zW (X.out.blk E2.out ⟨by decide,by decide,by decide,by decide,by decide,by decide,by decide⟩ KC.out fun j e=> .inl e)
  have F7:=zW (X.out.blk F7.out ⟨by decide,by decide,by decide,by decide,by decide,by decide,by decide⟩ KC.out fun j e=> .inl e)
  have X:=zW (X.out.own_mb (s':=s1) ((X.out.bk.put 16 (.int .i64 (s.ex+1))).eq (by rw[←hs1];rfl)) KC.out (by rw[←hs1]))
  clear KC hs1
  generalize World.setCell _ _ _=w7 at X QI E1 E2 F7⊢
  have M2:=zW (show a2.M.length=65536 from by have h:=OK2.out.ok.o.M;rwa [ST.out.2,EF.out.2]at h)
  obtain⟨A,c,S,ev,n3,sp,sd,sr⟩:=X.out.rc.log.spans
  have SP:=zW (zM n3 (zM sp sd))
  have SR:=zW (sr (fun j=>icO pg2 p j∨j=m) fun j ej hj=>hj.elim (fun c=>own_ic X.out.co X.out.rc j c (.inr (.inr (.inr ej)))) fun e=>X.out.rc.ne.2.2.2.2.1 (e▸ej))
  clear n3 sp sd sr
  refine vM (C:=fun w'=>∃u:MsW mb b (mcc s1 b p mp) (stC a2 m g),w'=u.w) (.branch [0,1,2,3,4,5,6,7] [8] (fun _=> .branch [] [9] (fun _=> .last []))) zLE zLE (fun _ _ d _ _ h=>by cases d<;>exact h) ⟨⟨w7.drew,X.out.bk.drew,X.out.rc.st.drew⟩,rfl⟩ ?_
  intro wd hwd
  have BD:=zW (show Below w7.heap.size w7 wd from by rw[hwd];exact(zB _ _).drew)
  have KD:=zW (show lN (fun j=>icO pg2 p j∨j=m) w7 wd from lN.of_below BD.out)
  have X:=zW (X.out.step BD.out)
  have QI:=zW (QI.out.step BD.out)
  have E1:=zW (E1.out.step BD.out)
  have E2:=zW (E2.out.step BD.out)
  have F7:=zW (F7.out.step BD.out)
  have SR:=zW (SR.out.kept KD.out)
  clear hwd BD KD
  have c8:∀u:MsW mb b (mcc s1 b p mp) (stC a2 m g),u.w.cell? ⟨mb,8,none⟩=some (.pointer (some ⟨p,0,none⟩)):=fun u=>(u.m.cell 8).trans rfl
  have s35:∀u:MsW mb b (mcc s1 b p mp) (stC a2 m g),u.w.cell? ⟨b,35,none⟩=some (.pointer (some ⟨m,0,none⟩)):=fun u=>(u.s.cell 35).trans (mK _ m g zLS)
  refine mD zLC ?_
  repeat(go_big_quiet_step (rfl))
  refine zY ?_
  clear c8 s35
  refine List.forall_mem_cons.2 ⟨?_,fun _ h=>absurd h qD⟩
  refine m8 zLU zLI ?_
  intro K7 hK
  refine lE (g:=36) (caps:=#[]) (args:=#[.pointer (some ⟨m,0,none⟩)]) (.func 36) #[.tmp 82] _ rfl (enters_of Tryz.func36 zLE rfl) rfl zLP ?_
  refine(XU X.out.rc M2.out).mono ?_
  rintro e w8 ⟨rfl,R8,K8⟩
  refine⟨_,rfl,?_⟩
  rw[ev]
  have ho:∀j,j=m→wS mb b m g p mp pg2 v' j:=fun j e=> .inr (.inr (.inr (.inr (.inl e))))
  have QI:=zW (X.out.blk QI.out ⟨by decide,by decide,by decide,by decide,by decide,by decide,by decide⟩ K8 ho)
  have E1:=zW (X.out.blk E1.out ⟨by decide,by decide,by decide,by decide,by decide,by decide,by decide⟩ K8 ho)
  have E2:=zW (X.out.blk E2.out ⟨by decide,by decide,by decide,by decide,by decide,by decide,by decide⟩ K8 ho)
  have F7:=zW (X.out.blk F7.out ⟨by decide,by decide,by decide,by decide,by decide,by decide,by decide⟩ K8 ho)
  have SR:=zW (show RgR w8 A S (icO pg2 p)from fun i hi=>by
   obtain⟨bb,o,e,hb,hn,r1,r2⟩:=(SR.out.kept (K8.mono fun j _ e=> .inr e)) i hi;exact⟨bb,o,e,hb,fun c=>hn (.inl c),r1,r2⟩)
  have X:=zW (X.out.st R8 K8 (fun j e=> .inr (.inl e)) (.inr fun j ej=>by cases ej))
  clear R8 K8 ho ev
  refine hK _ _ ⟨⟨w8,X.out.bk,X.out.rc.st⟩,rfl⟩ ?_
  clear hK K7
  simp only[Act.put,zQ,zZ,zJ]
  refine mD zL5 ?_
  refine zY ?_
  refine List.forall_mem_cons.2 ⟨?_,fun _ h=>absurd h qD⟩
  refine m8 zLU zLI ?_
  intro K7 hK
  refine lE (g:=35) (caps:=#[]) (args:=#[.pointer (some ⟨p,0,none⟩),.slice A S.length c]) (.func 35) #[.tmp 78,.tmp 83] _ rfl (enters_of Tryz.func35 zLE rfl) rfl zLP ?_
  refine(N9 X.out.co a2.M S A c OK.out.ok.o.M M2.out (by have:=HX.out;have:=NN.out;omega) SR.out (zR SP.out.1 (zR (show 0+lgE _≤0+16 from Nat.add_le_add_left (zQ4 _) _) zLA)) (fun s h=>⟨(SP.out.2.1 s h).1,(SP.out.2.1 s h).2.1,(SP.out.2.1 s h).2.2.2⟩) SP.out.2.2).mono ?_
  rintro e w9 ⟨rfl,l9,C9,K9,n9,m9⟩
  refine⟨_,rfl,?_⟩
  have ho:∀j,icO pg2 p j→wS mb b m g p mp pg2 (.slice none 0 0) j:=fun j e=> .inr (.inr (.inl e))
  have QI:=zW (X.out.blk QI.out ⟨by decide,by decide,by decide,by decide,by decide,by decide,by decide⟩ K9 ho)
  have E1:=zW (X.out.blk E1.out ⟨by decide,by decide,by decide,by decide,by decide,by decide,by decide⟩ K9 ho)
  have E2:=zW (X.out.blk E2.out ⟨by decide,by decide,by decide,by decide,by decide,by decide,by decide⟩ K9 ho)
  have F7:=zW (X.out.blk F7.out ⟨by decide,by decide,by decide,by decide,by decide,by decide,by decide⟩ K9 ho)
  have X:=zW (X.out.ic C9 K9 nS.refl)
  have NN:=zW (show h2+k2≤h+k+1∧l9.length≤l.length+1∧(en=true→I.op=38→(lI l9 (tZ a.pc)).isSome=true)from⟨NN.out.1,zR n9 NN.out.2.1,fun e1 e2=>by rw[m9 (jG (Nat.le_zero.1 (by have h:=SP.out.1;rw[e2]at h;exact h)))];exact NN.out.2.2 e1⟩)
  clear C9 K9 n9 m9 ho SR SP
  refine hK _ _ ⟨⟨w9,X.out.bk,X.out.rc.st⟩,rfl⟩ ?_
  clear hK K7
  simp only[Act.put,zQ,zZ,zJ]
  refine cP zL5 ?_
  refine zY ?_
  go_upto_region 11 with fail
  refine zG ?_
  iterate 3 go_step
  refine kO pZ F7.out rfl rfl (.tmp 6) rfl rfl ?_
  simp only[Act.put,zQ,zZ,zJ]
  refine kO gD QI.out rfl rfl (.tmp 4) rfl rfl ?_
  simp only[Act.put,zQ,zZ,zJ]
  iterate 3 go_step
  refine qH rfl fun K hK=>?_
  refine lE (g:=37) (caps:=#[]) (args:=#[.pointer (some ⟨mb,0,none⟩),.agg (efc f),.agg (lX I),.func (.func 54) #[] #[.pointer (some ⟨q5,0,none⟩),.pointer (some ⟨q6,0,none⟩)]]) (.func 37) #[.tmp 85,.tmp 86,.tmp 87,.tmp 88] _ rfl (enters_of Tryz.func37 zLE rfl) rfl zLP ?_
  refine(J4 X.out.bk E1.out E2.out).mono ?_
  rintro e wz ⟨rfl,BZ,KZ⟩
  refine⟨_,rfl,?_⟩
  refine hK _ _ ?_
  clear hK K
  simp only[Act.put,zQ,zZ,zJ]
  have F7:=zW (X.out.blk F7.out ⟨by decide,by decide,by decide,by decide,by decide,by decide,by decide⟩ KZ fun j e=> .inl e)
  have X:=zW (X.out.own_mb BZ KZ (by unfold flE;split;rfl;split;rfl;split<;>rfl))
  clear BZ KZ QI E1 E2
  have e3:wz.cell? ⟨q7,3,none⟩=some (.bool f.drew):=(F7.out.cell 3).trans rfl
  go_wp2
  go_returns
  have X:=X.out
  rw[←ES.out,zWP s a.pc I.x f ⟨HK.out,ZZ.out⟩,←EI.out,←EF.out.1,←ST.out.1,←EF.out.2,←ST.out.2]at X
  exact⟨rfl,pg2,_,l9,h2,k2,X.to_mp OK2.out,X.kp,X.gr,NN.out.1,NN.out.2.1,fun e1 _ e2=>NN.out.2.2 e1 (EI.out▸e2)⟩
theorem aN(N:Nat)(E0:gP N){base mb b m g p mp h k:Nat}{pg:Nat→Option Nat}{v:Value}{en:Bool}{l:m6}{s:mB}{a:AS}{w:World}(H:MP base mb b m g p mp pg v en l h k s a w)(L:xX w)(hB:1<base)(hb:base≤w.heap.size)(hx:s.ex≤90000)(h1:h+k≤90000)(l1:l.length≤90000):
  Calls Tryz.prog 12 #[.pointer (some ⟨mb,0,none⟩)] w fun e w'=>e=.returned (.bool (xM s a))∧∃pg' v' l' h' k',MP base mb b m g p mp pg' v' en l' h' k' (nmM s a) (vL N s a) w'∧lN (wS mb b m g p mp pg v) w w'∧nS (wS mb b m g p mp pg v) (wS mb b m g p mp pg' v') w.heap.size∧h'+k'≤h+k+1∧l'.length≤l.length+1∧(en=true→s.k=0→(yA s a).op=38→(lI l' (tZ a.pc)).isSome=true):=by
 by_cases hk:s.k=0
 ·rw[show xM s a=(efM s a).drew from by unfold xM;rw[hk];simp];exact VW N E0 H L hB hb hk hx h1 l1
 ·rw[show xM s a=false from by unfold xM;rw[zU hk];rfl,show nmM s a=s from by unfold nmM;rw[zL hk],show vL N s a=a from by unfold vL;rw[zL hk]];refine(MV H hk).mono ?_;rintro e w' ⟨rfl,bb⟩;exact⟨rfl,pg,v,l,h,k,H.step bb,lN.of_below bb,nS.refl,by omega,by omega,fun _ e=>absurd e hk⟩
def Mch(base:Nat)(O:Nat→Prop)(mb n:Nat)(s:mB)(a:AS)(w:World):Prop:=
 ∃b m g p mp pg v en l h k,MP base mb b m g p mp pg v en l h k s a w∧O=wS mb b m g p mp pg v∧h+k≤n∧l.length≤n
section
variable {base:Nat} {O:Nat→Prop} {mb n:Nat} {s:mB} {a:AS} {w w':World}
theorem Mch.ok(H:Mch base O mb n s a w):OkM s a:=by obtain⟨b,m,g,p,mp,pg,v,en,l,h,k,H,_⟩:=H;exact H.ok
theorem Mch.step(H:Mch base O mb n s a w)(hb:Below w.heap.size w w'):Mch base O mb n s a w':=by
 obtain⟨b,m,g,p,mp,pg,v,en,l,h,k,H,r⟩:=H;exact⟨b,m,g,p,mp,pg,v,en,l,h,k,H.step hb,r⟩
theorem Mch.blt(H:Mch base O mb n s a w):∀j,O j→base≤j∧j<w.heap.size:=by
 obtain⟨b,m,g,p,mp,pg,v,en,l,h,k,H,rfl,_⟩:=H;exact H.blt
theorem Mch.own(H:Mch base O mb n s a w):O mb:=by
 obtain⟨b,m,g,p,mp,pg,v,en,l,h,k,H,rfl,_⟩:=H;exact .inl rfl
theorem Mch.bs(H:Mch base O mb n s a w):base≤w.heap.size:=by have:=H.blt _ H.own;omega
theorem Mch.below(H:Mch base O mb n s a w){b0:Nat}(h0:b0≤base)(kk:lN O w w'):Below b0 w w':=kk.below (zR h0 H.bs) fun j hj=>zR h0 (H.blt j hj).1
theorem eF{O1 O2 O3:Nat→Prop}{k:Nat}(D:∀j,O1 j→¬O2 j)(G:nS O1 O3 k)(hb:∀j,O2 j→j<k):∀j,O3 j→¬O2 j:=fun j h1 h2=>(G j h1).elim (fun h=>D j h h2) fun h=>by have:=hb j h2;omega
theorem Mch.u8(H:Mch base O mb n s a w):∀j,O j→∀cs fr,w.heap[j]?≠some (.cells cs 5 fr):=by
 obtain⟨b,m,g,p,mp,pg,v,en,l,h,k,H,rfl,_⟩:=H;rintro j (rfl|rfl|hj|hj) cs fr e
 ·have h1:w.heap[j]?=some (.cells _ _ (0,0)):=H.bk;rw[h1]at e;injection e with e
  injection e with _ e
  exact absurd e zLA
 ·obtain⟨n,D,es,clock,hb,_⟩:=H.fl;rw[hb]at e;cases e
 ·obtain⟨ds,T,hb,hT⟩:=H.co.tag j hj;have h1:w.heap[j]?=some (.cells _ _ (0,0)):=hb;rw[h1]at e;injection e with e
  injection e with _ e
  rw[e]at hT;rcases hT with e|e<;>exact absurd e zLA
 ·obtain⟨ds,U,fr',h2,hU⟩:=H.rc.tag j hj;rw[h2]at e;injection e with e
  injection e with _ e
  rw[e]at hU;rcases hU with e|e|e|e<;>exact absurd e zLA
theorem MP.keep{mb b m g p mp:Nat}{pg:Nat→Option Nat}{v:Value}{en:Bool}{l:m6}{h k:Nat}(H:MP base mb b m g p mp pg v en l h k s a w){O':Nat→Prop}(kk:lN O' w w')(hd:∀j,wS mb b m g p mp pg v j→¬O' j)(hu:∀j,O' j→∀cs fr,w.heap[j]?≠some (.cells cs 5 fr)):MP base mb b m g p mp pg v en l h k s a w':=by
 obtain⟨n,D,hm⟩:=H.fl;exact⟨(kk.block mb H.bk.lt (hd mb (.inl rfl))).trans H.bk,H.rc.keep kk (fun j hj=>hd j (.inr (.inr (.inr hj)))) hu,H.co.kept kk fun j hj=>hd j (.inr (.inr (.inl hj))),⟨n,D,vV hm (kk.block mp hm.lt (hd mp (.inr (.inl rfl))))⟩,H.ok,H.low⟩
theorem Mch.keep(H:Mch base O mb n s a w){O':Nat→Prop}(kk:lN O' w w')(hd:∀j,O j→¬O' j)(hu:∀j,O' j→∀cs fr,w.heap[j]?≠some (.cells cs 5 fr)):Mch base O mb n s a w':=by
 obtain⟨b,m,g,p,mp,pg,v,en,l,h,k,H,rfl,r⟩:=H;exact⟨b,m,g,p,mp,pg,v,en,l,h,k,H.keep kk hd hu,rfl,r⟩
theorem sH(H:Mch base O mb n s a w):Calls Tryz.prog 15 #[.pointer (some ⟨mb,0,none⟩)] w fun e w'=>e=.returned (.int .i64 s.ex)∧w=w':=by
 obtain⟨b,m,g,p,mp,pg,v,en,l,h,k,H,_⟩:=H;exact RK H.bk
theorem pS(H:Mch base O mb n s a w):Calls Tryz.prog 14 #[.pointer (some ⟨mb,0,none⟩)] w fun e w'=>e=.returned (.agg s.st)∧Below w.heap.size w w':=by
 obtain⟨b,m,g,p,mp,pg,v,en,l,h,k,H,_⟩:=H;exact QU H.bk
theorem wM(N:Nat)(C:xP N)(H:Mch base O mb n s a w)(L:xX w):Calls Tryz.prog 13 #[.pointer (some ⟨mb,0,none⟩)] w fun e w'=>∃b2 m2 g2 v2,e=.returned (.pointer (some ⟨b2,0,none⟩))∧RC w.heap.size ⟨0,a.M⟩ b2 m2 g2 v2 a w'∧Below w.heap.size w w':=by
 obtain⟨b,m,g,p,mp,pg,v,en,l,h,k,H,_⟩:=H;exact MW N C H L
theorem PI(H:Mch base O mb n s a w):Calls Tryz.prog 17 #[.pointer (some ⟨mb,0,none⟩)] w fun e w'=>e=.returned (.tuple #[])∧Mch base O mb n s (u6 a) w'∧lN O w w':=by
 obtain⟨b,m,g,p,mp,pg,v,en,l,h,k,H,rfl,r⟩:=H;refine(VZ H).mono ?_;rintro e w' ⟨rfl,H',K⟩;exact⟨rfl,⟨b,m,g,p,mp,pg,v,en,l,h,k,H',rfl,r⟩,K.mono fun j _ hj=> .inr (.inr (.inr hj))⟩
theorem zQC(H:Mch base O mb n s a w)(e:Ev)(hks:a.ks.length<1000):Calls Tryz.prog 16 #[.pointer (some ⟨mb,0,none⟩),.agg (ec e)] w fun x w'=>x=.returned (.tuple #[])∧Mch base O mb n (gM s a e) (tI s a e) w'∧lN O w w':=by
 obtain⟨b,m,g,p,mp,pg,v,en,l,h,k,H,rfl,r⟩:=H;refine(ZD H e hks).mono ?_;rintro x w' ⟨rfl,H',K⟩;exact⟨rfl,⟨b,m,g,p,mp,pg,v,en,l,h,k,H',rfl,r⟩,K⟩
theorem ZL(N:Nat)(E0:gP N)(H:Mch base O mb n s a w)(L:xX w)(hB:1<base)(hx:s.ex≤90000)(hn:n≤90000):Calls Tryz.prog 12 #[.pointer (some ⟨mb,0,none⟩)] w fun e w'=>e=.returned (.bool (xM s a))∧∃O',Mch base O' mb (n+1) (nmM s a) (vL N s a) w'∧lN O w w'∧nS O O' w.heap.size:=by
 obtain⟨b,m,g,p,mp,pg,v,en,l,h,k,H,rfl,r1,r2⟩:=H;have hb:base≤w.heap.size:=by have:=H.bk.lt;have:=H.low.1;omega
 refine(aN N E0 H L hB hb hx zLS zLS).mono ?_;rintro e w' ⟨rfl,pg',v',l',h',k',H',K,G,c1,c2,_⟩;exact⟨rfl,_,⟨b,m,g,p,mp,pg',v',en,l',h',k',H',rfl,by omega,by omega⟩,K,G⟩
end
def zWC(n k:Nat):Bool:=decide (n≤2000)&&decide (k≤100)
theorem MP.mch{base mb b m g p mp:Nat}{pg:Nat→Option Nat}{v:Value}{en:Bool}{l:m6}{h k n:Nat}{s:mB}{a:AS}{w:World}(H:MP base mb b m g p mp pg v en l h k s a w)(h1:h+k≤n)(l1:l.length≤n):Mch base (wS mb b m g p mp pg v) mb n s a w:=⟨b,m,g,p,mp,pg,v,en,l,h,k,H,rfl,h1,l1⟩
theorem ini_at(R:List Int)(hR:R.length≤65024)(i:Nat)(hi:i<R.length):(uL R)[512+i]?=R[i]?:=by
 unfold uL;rw[fO R _ 512 zLS (by rw[cQ,cQ];exact cX) (512+i) zLS];rw[zN zLS,show(((512+i:Nat):Int)-512)%65536=(i:Int) by omega];rfl
theorem aQ(R:List Int)(hR:R.length≤65024)(hB:Bts R)(j b0 b1:Nat)(h0:R[j]?=some (b0:Int))(h1:R[j+1]?=some (b1:Int))(lv:Int)(I:Ins)(hI:∀b2 b3,dec b0 b1 b2 b3 lv=I):xN (uL R) ((512+j:Nat):Int) lv=I:=by
 have j0:j<R.length:=by rcases jT j R.length with h|h;exact h;rw[qW h]at h0;cases h0
 have j1:j+1<R.length:=by rcases jT (j+1) R.length with h|h;exact h;rw[qW h]at h1;cases h1
 have key:∀k b:Nat,k<4→R[j+k]?=some (b:Int)→j+k<R.length→yU (uL R) ((512+j:Nat):Int) k=b:=fun k b hk h hl=>by
  unfold yU;rw[qV,wC _ _ 4 k (pI R) hk,show((((512+j:Nat):Int)+(k:Int))%65536).toNat=512+(j+k) by omega,ini_at R hR (j+k) hl,h];rfl
 unfold xN;rw[key 0 b0 zLA h0 j0,key 1 b1 zLA h1 j1];exact hI _ _
theorem BC(s:mB)(a:AS):s.ex≤(nmM s a).ex∧(nmM s a).ex≤s.ex+1:=by
 unfold nmM nmE;split
 ·split
  ·exact zN5
  ·split
   ·exact zN5
   ·split
    ·exact zN5
    ·exact zN5
 ·omega
theorem OS(s:mB)(a:AS):(nmM s a).q=s.q:=by
 unfold nmM nmE;split
 ·split
  ·rfl
  ·split
   ·rfl
   ·split<;>rfl
 ·rfl
def dC(en:Bool)(E:m6→Prop)(base:Nat)(O:Nat→Prop)(mb n:Nat)(s:mB)(a:AS)(w:World):Prop:=
 ∃b m g p mp pg v l h k,MP base mb b m g p mp pg v en l h k s a w∧O=wS mb b m g p mp pg v∧h+k≤n∧l.length≤n∧E l
section
variable {en:Bool} {E:m6→Prop} {base:Nat} {O:Nat→Prop} {mb n:Nat} {s:mB} {a:AS} {w w':World}
theorem dC.mch(H:dC en E base O mb n s a w):Mch base O mb n s a w:=by
 obtain⟨b,m,g,p,mp,pg,v,l,h,k,H,e,h1,h2,_⟩:=H;exact⟨b,m,g,p,mp,pg,v,en,l,h,k,H,e,h1,h2⟩
theorem dC.step(H:dC en E base O mb n s a w)(hb:Below w.heap.size w w'):dC en E base O mb n s a w':=by
 obtain⟨b,m,g,p,mp,pg,v,l,h,k,H,r⟩:=H;exact⟨b,m,g,p,mp,pg,v,l,h,k,H.step hb,r⟩
theorem dC.keep(H:dC en E base O mb n s a w){O':Nat→Prop}(kk:lN O' w w')(hd:∀j,O j→¬O' j)(hu:∀j,O' j→∀cs fr,w.heap[j]?≠some (.cells cs 5 fr)):dC en E base O mb n s a w':=by
 obtain⟨b,m,g,p,mp,pg,v,l,h,k,H,rfl,r⟩:=H;exact⟨b,m,g,p,mp,pg,v,l,h,k,H.keep kk hd hu,rfl,r⟩
theorem dC.key(H:dC en E base O mb n s a w)(e:Ev)(hks:a.ks.length<1000):Calls Tryz.prog 16 #[.pointer (some ⟨mb,0,none⟩),.agg (ec e)] w fun x w'=>x=.returned (.tuple #[])∧dC en E base O mb n (gM s a e) (tI s a e) w'∧lN O w w':=by
 obtain⟨b,m,g,p,mp,pg,v,l,h,k,H,rfl,r⟩:=H;refine(ZD H e hks).mono ?_;rintro x w' ⟨rfl,H',K⟩;exact⟨rfl,⟨b,m,g,p,mp,pg,v,l,h,k,H',rfl,r⟩,K⟩
theorem dC.run(N:Nat)(E0:gP N)(H:dC en E base O mb n s a w)(L:xX w)(hB:1<base)(hx:s.ex≤90000)(hn:n≤90000):Calls Tryz.prog 12 #[.pointer (some ⟨mb,0,none⟩)] w fun e w'=>e=.returned (.bool (xM s a))∧∃O',dC en (fun l=>en=true→s.k=0→(yA s a).op=38→(lI l (tZ a.pc)).isSome=true) base O' mb (n+1) (nmM s a) (vL N s a) w'∧lN O w w'∧nS O O' w.heap.size:=by
 obtain⟨b,m,g,p,mp,pg,v,l,h,k,H,rfl,r1,r2,_⟩:=H;have hb:base≤w.heap.size:=by have:=H.bk.lt;have:=H.low.1;omega
 refine(aN N E0 H L hB hb hx zLS zLS).mono ?_;rintro e w' ⟨rfl,pg',v',l',h',k',H',K,G,c1,c2,c3⟩;exact⟨rfl,_,⟨b,m,g,p,mp,pg',v',l',h',k',H',rfl,by omega,by omega,c3⟩,K,G⟩
end
theorem newE(N:Nat)(CS:xP N){A B FA:Option Addr}{n c k d fn fc:Nat}{R L F:List Int}{q:Pr}{en:Bool}{w:World}(LW:xX w)(hA:Rd w A R)(hn:R.length=n)(n1:n≤65024)(hB:Rd w B L)(hk:L.length=k)(k1:k≤100000)(hR:Bts R)(hL:Bts L)(hF:Fls w FA F)(hf:F.length=fn)(hq:1≤q.lv∧q.lv≤3):
  Calls Tryz.prog 11 #[.agg (cfC (.slice A n c) (.slice B k d) (.slice FA fn fc) q en)] w fun e w'=>∃mb O,e=.returned (.tuple #[.pointer (some ⟨mb,0,none⟩),.int .i64 0])∧dC en (fun l=>l=[]) w.heap.size O mb 0 (J1 q) (uG R L) w'∧Below w.heap.size w w':=by
 refine(PP N CS LW hA hn n1 hB hk k1 hR hL hF hf hq).mono ?_;rintro e w' ⟨mb,b,m,g,p,mp,v,rfl,X,bb⟩;exact⟨mb,_,rfl,⟨b,m,g,p,mp,_,v,[],0,0,X,rfl,zH _,zH _,rfl⟩,bb⟩
def tU:Pr:=⟨1,false,false,false,false,false,false,false⟩
end
end Go.Proofs.YthknmadinmigfaaGreatDoor
