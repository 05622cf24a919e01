/- MacBoxS. -/
import Derived.Test.YtbpniahcjbagmaaGreatDoorMk3b
set_option maxRecDepth 400000
set_option maxHeartbeats 64000000
set_option linter.unusedVariables false
set_option linter.unusedSimpArgs false
namespace Go.Proofs.YtbpniahcjbagmaaGreatDoor
section
open Go.RowKit Num Dec Cpu
theorem QT(N:Nat)(E0:uP N){base mb b m g p mp h k:Nat}{pg:Nat→Option Nat}{v:Value}{en:Bool}{l:nB}{s:mR}{a:AS}{w:World}(H:MP base mb b m g p mp pg v en l h k s a w)(L:cQ w)(hb:base≤w.heap.size):
  Calls Tryz.prog 52 #[.pointer (some ⟨mb,0,none⟩),.agg (lB (wA s a))] w fun e w'=>e=.returned (.agg (efc (efM s a)))∧∃v',RC base ((⟨0,a.M⟩:Lg)+lgE (wA s a).op) b m g v' (asM N s a) w'∧lS (vH b m g v) w w'∧(v'.ownBlock=v.ownBlock∨∃k,v'.ownBlock=some k∧w.heap.size≤k):=by
 obtain⟨op,x,y,n,nn,ad,len,ei,hd,r1,r2,r3,r4,r5,r6,r7⟩:=WK H.ok;have hc:chk a.pc len s.q.fa=if okM s a=true then 0 else 4:=by
  unfold chk okM;rw[ei];cases s.q.fa
  ·rfl
  ·by_cases hz:a.pc+len≤65536
   ·rw[zL zGX,zN (by simpa using hz)]
   ·rw[zN ⟨rfl,by omega⟩,zL (by simpa using hz)]
 by_cases ho:okM s a=true
 ·rw[zN ho]at hc;have e1:efM s a=efA a op x y n s.q:=by unfold efM;rw[zN ho,ei];simp only[Int.toNat_natCast]
  have e2:asM N s a=stA N a op x y n nn ad len s.q:=by unfold asM;rw[zN ho,ei];simp only[Int.toNat_natCast]
  rw[e1,e2,ei];exact N7 N E0 H L op x y n nn ad len hc hd r1 r2 r3 r4 r5 r6 r7 hb
 ·rw[zL ho]at hc;have e1:efM s a=⟨4,false,false,false⟩:=by unfold efM;rw[zL ho]
  have e2:asM N s a=a:=by unfold asM;rw[zL ho]
  rw[e1,e2];refine(N6 H (wA s a) (by rw[ei];exact r7) 4 (by rw[ei];exact hc) zGL).mono ?_;rintro e w' ⟨rfl,bb⟩;exact⟨rfl,v,(H.rc.step bb).more (Lg.up _ _),lS.of_below bb,.inl rfl⟩
structure MsW(mb b:Nat)(cs ds:Array Value) where
 w:World
 m:Blk mb 101 cs w
 s:Blk b 89 ds w
theorem YB{base mb b m g p mp h k:Nat}{pg:Nat→Option Nat}{v:Value}{en:Bool}{l:nB}{s:mR}{a:AS}{w:World}(H:MP base mb b m g p mp pg v en l h k s a w)(hk:s.k≠0):
  Calls Tryz.prog 40 #[.pointer (some ⟨mb,0,none⟩)] w fun e w'=>e=.returned (.bool false)∧Below w.heap.size w w':=by
 have NN:=zW (u9 H.bk);have c11:w.cell? ⟨mb,11,none⟩=some (.int .i64 s.k):=(H.bk.cell 11).trans rfl;have h1:(s.k !=0)=true:=by simpa using hk
 have h2:(s.k==0)=false:=by simpa using hk
 clear H;go_enter Tryz.func40,Tryz.ntmps40;go_wp2_with fail;refine NN.out.mono ?_;rintro e w' ⟨rfl,rfl⟩;go_wp2;go_returns;exact⟨rfl,zB _ _⟩
theorem WT{P:Program}{o:Oper}{ρ:Operand→Value}{w:World}(ty:TypeId)(m x:Operand)(ho:o.op=.lookup ty m x false)(r:Value)(hr:(Instr.lookup ty (ρ m) (ρ x) false).run P w=.ok r w):(execOp ρ o).run P w=.ok (.value r) w:=by
 unfold execOp;simp only[ho];rw[zA,hr];simp[Result.andThen_ok]
theorem T5(N:Nat)(E0:uP N){base mb b m g p mp h k:Nat}{pg:Nat→Option Nat}{v:Value}{en:Bool}{l:nB}{s:mR}{a:AS}{w:World}(H:MP base mb b m g p mp pg v en l h k s a w)(L:cQ w)(hB:1<base)(hb:base≤w.heap.size)(hk:s.k=0)(hx:s.ex≤90000)(h1:h+k≤90000)(l1:l.length≤90000):
  Calls Tryz.prog 40 #[.pointer (some ⟨mb,0,none⟩)] w fun e w'=>e=.returned (.bool (efM s a).drew)∧∃pg' v' l' h' k',MP base mb b m g p mp pg' v' en l' h' k' (nmM s a) (yI N s a) w'∧lS (rA mb b m g p mp pg v) w w'∧vK (rA mb b m g p mp pg v) (rA mb b m g p mp pg' v') w.heap.size∧h'+k'≤h+k+1∧l'.length≤l.length+1∧(en=true→s.k=0→(wA s a).op=38→(mG l' (gQ a.pc)).isSome=true):=by
 have OK:=zW H.ok;have HX:=zW (zM hx (zM h1 l1));have LL:=zW (fun u (hu:lS (rA mb b m g p mp pg v) w u)=>L.below (hu.below hb fun j hj=>(H.blt j hj).1) hB);have CC:=zW E0;obtain⟨x,hl⟩:=H.look ⟨H.ok.ex,by omega⟩;have LK:=zW hl;have X:=zW (H.mr hb);have NN:=zW (u9 H.bk);have HK:=zW hk;have MLT:=zW (show mp<w.heap.size from by obtain⟨n,D,hm⟩:=H.fl;exact hm.lt);have c11:w.cell? ⟨mb,11,none⟩=some (.int .i64 0):=(H.bk.cell 11).trans (by rw[←hk];rfl);obtain⟨O,hO⟩:∃O,rA mb b m g p mp pg v=O:=⟨_,rfl⟩;rw[hO]at X LL⊢;clear hO;have ST:=zW (show nmM s a=nmE s a.pc (wA s a).x (efM s a)∧yI N s a=asM N s a from⟨by unfold nmM;rw[zN hk],by unfold yI;rw[zN hk]⟩);have OK2:=zW (zXU N H.ok zGX);have ZZ:=zW (H.ok.z hk);clear H L E0 hx h1 l1 hl hk hb hB;obtain⟨f,hf⟩:∃f,efM s a=f:=⟨_,rfl⟩;obtain⟨a2,ha2⟩:∃a2,asM N s a=a2:=⟨_,rfl⟩;have EF:=zW (zM hf ha2);rw[hf];clear hf ha2;go_enter Tryz.func40,Tryz.ntmps40;go_wp2_with fail;refine NN.out.mono ?_;rintro e w' ⟨rfl,rfl⟩;clear NN;go_upto_region 3 with fail;have k9:=lA.cell (show w.cell? ⟨mb,9,none⟩=some (.map (some mp))from(X.out.bk.cell 9).trans rfl) X.out.bk.lt;have k16:=lA.cell (show w.cell? ⟨mb,16,none⟩=some (.int .i64 s.ex)from(X.out.bk.cell 16).trans rfl) X.out.bk.lt;have LC:=zW (fun u:lA w=>LK.out u.w (u.below.block mp MLT.out));refine m7 zGV zGV ?_;iterate 9 (go_big_quiet_step (fail))
 refine cC rfl (.bool x) (fun u hu=>?_) ?_
 ·obtain⟨u,rfl⟩:=hu;exact WT _ _ _ rfl _ (LC.out u)
 simp only[Act.put,zQ,zZ,zJ];refine zY ?_;intro _ hw';obtain⟨x',rfl⟩:=hw';have X:=zW (X.out.step x'.below);generalize x'.w=w1 at*;clear k9 k16 LC LK c11;cases x
 obtain⟨pg1,l1,w2,X2,hl1,hw2⟩:∃pg1 l1 w2,MR base O w ⟨0,a.M⟩ mb b m g p mp pg1 v en l1 h k a.M s a w2∧l1.length≤l.length∧w2=w1:=⟨pg,l,w1,X.out,zG _,rfl⟩
 rw[←hw2];have HX:=zW (zM HX.out hl1);clear X hl1 hw2;have X:=zW X2;clear X2
 rotate_left 1
 have c8:w1.cell? ⟨mb,8,none⟩=some (.pointer (some ⟨p,0,none⟩)):=(X.out.bk.cell 8).trans rfl;(focus go_wp2_with fail)
 refine(WN X.out.co).mono ?_;rintro e w2 ⟨rfl,C2,K2⟩;have X:=zW (X.out.ic C2 (K2.mono fun j _ e=> .inl e) (fun j hj=> .inl (hj.elim .inl fun⟨i,_,e⟩=>by cases e)));obtain⟨pg1,l1,X2,hl1⟩:∃pg1 l1,MR base O w ⟨0,a.M⟩ mb b m g p mp pg1 v en l1 h k a.M s a w2∧l1.length≤l.length:=⟨_,_,X.out,qW _⟩;have HX:=zW (zM HX.out hl1);clear C2 K2 c8 X hl1;have X:=zW X2;clear X2;simp only[]
 all_goals
  have c10:w2.cell? ⟨mb,10,none⟩=some (.pointer (some ⟨b,0,none⟩)):=(X.out.bk.cell 10).trans rfl
  go_upto_region 6 with fail
  clear c10
  obtain⟨I,hI⟩:∃I,wA s a=I:=⟨_,rfl⟩
  have EI:=zW hI
  have GT:=zW (fun u (U:MR base O w ⟨0,a.M⟩ mb b m g p mp pg1 v en l1 h k a.M s a u)=>zQJ U.co m v a.pc OK.out.ok.o.M U.rc.mem (ZC OK.out.ok.o.B) (fun c=>own_ic U.co U.rc m c (.inr (.inl rfl))) (by have:=HX.out;omega) (by have:=HX.out;omega) (by have:=HX.out;omega))
  rw[show yV a.M a.pc s.q.lv=I from hI]at GT
  clear hI
  refine wF (fun A a' w'=>∃q pg' l' h' k',a'=((((((((((((((A.put (some 38) (.pointer (some ⟨mb,0,none⟩))).put (some 39) (.pointer (some ⟨mb,0,none⟩))).put (some 40) (.pointer (some ⟨mb,8,none⟩))).put (some 41) (.pointer (some ⟨p,0,none⟩))).put (some 42) (.pointer (some ⟨b,0,none⟩))).put (some 43) (.pointer (some ⟨b,0,none⟩))).put (some 44) (.pointer (some ⟨b,35,none⟩))).put (some 45) (.pointer (some ⟨m,0,none⟩))).put (some 46) (.pointer (some ⟨b,0,none⟩))).put (some 47) (.pointer (some ⟨b,0,none⟩))).put (some 48) (.pointer (some ⟨b,17,none⟩))).put (some 49) (.int .i64 a.pc)).put (some 50) (.agg (lB I))).put (some 4) (.pointer (some ⟨q,0,none⟩)))∧MR base O w ⟨0,a.M⟩ mb b m g p mp pg' v en l' h' k' a.M s a w'∧Blk q 128 (lB I) w'∧w.heap.size≤q∧h'+k'≤h+k+1∧l'.length≤l.length+1∧(en=true→(mG l' (gQ a.pc)).isSome=true)) ?_ ?_
  ·refine nU (C:=fun w'=>∃u:MsW mb b (mcc s b p mp) (stC a m g),w'=u.w) (.branch [0,1,2,3,4,5,6,7,8,9,10,11] [12,13] (fun c=>if c=12 then .branch [] [13] (fun _=> .branch [] [14] (fun _=> .last []))else .branch [] [12] (fun _=> .branch [] [14] (fun _=> .last [])))) zGV zGV (fun _ _ d _ _ h=>by cases h.1) ⟨⟨w2.drew,X.out.bk.drew,X.out.rc.st.drew⟩,rfl⟩ ?_
   intro wd hwd
   have X:=zW (show MR base O w ⟨0,a.M⟩ mb b m g p mp pg1 v en l1 h k a.M s a wd from by rw[hwd];exact X.out.step ((zB _ _).drew))
   clear hwd
   have c8:∀u:MsW mb b (mcc s b p mp) (stC a m g),u.w.cell? ⟨mb,8,none⟩=some (.pointer (some ⟨p,0,none⟩)):=fun u=>(u.m.cell 8).trans rfl
   have s35:∀u:MsW mb b (mcc s b p mp) (stC a m g),u.w.cell? ⟨b,35,none⟩=some (.pointer (some ⟨m,0,none⟩)):=fun u=>(u.s.cell 35).trans (mO _ m g zGX)
   have s17:∀u:MsW mb b (mcc s b p mp) (stC a m g),u.w.cell? ⟨b,17,none⟩=some (.int .i64 a.pc):=fun u=>(u.s.cell 17).trans ((mO a m g (j:=17) zGX).trans rfl)
   refine mF zGW ?_
   repeat(go_big_quiet_step (rfl))
   refine zY ?_
   clear c8 s35 s17
   refine List.forall_mem_cons.2 ⟨?_,List.forall_mem_cons.2 ⟨?_,fun _ h=>absurd h qT⟩⟩
   ·refine mB zGY zGM ?_
    intro K7 hK
    refine mK (g:=50) (caps:=#[]) (args:=#[.pointer (some ⟨p,0,none⟩),.pointer (some ⟨m,0,none⟩),.int .i64 a.pc]) (.func 50) #[.tmp 41,.tmp 45,.tmp 49] _ rfl (enters_of Tryz.func50 zGV rfl) rfl zGK ?_
    refine(GT.out wd X.out).mono ?_
    rintro e w3 ⟨rfl,pg2,l2,h2,k2,C3,K3,G3,n1,n2,n3⟩
    refine⟨_,rfl,?_⟩
    have X:=zW (X.out.ic C3 K3 G3)
    have NN:=zW (show h2+k2≤h+k+1∧l2.length≤l.length+1∧(en=true→(mG l2 (gQ a.pc)).isSome=true)from⟨by omega,by have:=HX.out.2;omega,n3⟩)
    clear C3 K3 G3 n1 n2 n3 GT
    refine hK _ _ ⟨⟨w3,X.out.bk,X.out.rc.st⟩,rfl⟩ ?_
    clear hK K7
    simp only[Act.put,zQ,zZ,zJ]
    have BN:=zW (lV w3 (.cells nD 128))
    refine mF zGF ?_
    refine zY ?_
    refine List.forall_mem_cons.2 ⟨?_,fun _ h=>absurd h qT⟩
    refine mB zGY zGM ?_
    intro K7 hK
    refine nJ Q0 rfl ?_
    have QI:=zW (Blk.new w3 128 nD)
    have AQ:=zW X.out.kp.size
    have X:=zW (X.out.step BN.out)
    clear BN
    obtain⟨q,hq⟩:∃q,w3.heap.size=q:=⟨_,rfl⟩
    rw[hq]at QI AQ⊢
    clear hq
    generalize World.alloc _ _=w4 at X QI⊢
    refine hK _ _ ⟨⟨w4,X.out.bk,X.out.rc.st⟩,rfl⟩ ?_
    clear hK K7
    simp only[Act.put,zQ,zZ,zJ]
    refine mF zGF ?_
    refine zY ?_
    refine List.forall_mem_cons.2 ⟨?_,fun _ h=>absurd h qT⟩
    refine mB zGY zGM ?_
    intro K7 hK
    refine nY (ds:=lB I) dJ QI.out rfl rfl (zKS I) (.tmp 4) (.tmp 50) rfl zGK zGK ?_
    have X:=zW (X.out.row QI.out ⟨by decide,by decide,by decide,by decide,by decide,by decide,by decide⟩ zGL AQ.out (lB I))
    have QI:=zW (QI.out.store (lB I))
    generalize World.setRow _ _ _=w5 at X QI⊢
    refine hK _ _ ⟨⟨w5,X.out.bk,X.out.rc.st⟩,rfl⟩ ?_
    clear hK K7
    simp only[Act.put,zQ,zZ,zJ]
    refine vO zGF ?_
    refine zY ?_
    exact⟨rfl,q,pg2,l2,h2,k2,rfl,X.out,QI.out,AQ.out,NN.out⟩
   ·refine mB zGY zGM ?_
    intro K7 hK
    refine nJ Q0 rfl ?_
    have QI:=zW (Blk.new wd 128 nD)
    have AQ:=zW X.out.kp.size
    have X:=zW (X.out.step (lV wd (.cells nD 128)))
    obtain⟨q,hq⟩:∃q,wd.heap.size=q:=⟨_,rfl⟩
    rw[hq]at QI AQ⊢
    clear hq
    generalize World.alloc _ _=wd at X QI⊢
    refine hK _ _ ⟨⟨wd,X.out.bk,X.out.rc.st⟩,rfl⟩ ?_
    clear hK K7
    simp only[Act.put,zQ,zZ,zJ]
    refine mF zGF ?_
    refine zY ?_
    refine List.forall_mem_cons.2 ⟨?_,fun _ h=>absurd h qT⟩
    refine mB zGY zGM ?_
    intro K7 hK
    refine mK (g:=50) (caps:=#[]) (args:=#[.pointer (some ⟨p,0,none⟩),.pointer (some ⟨m,0,none⟩),.int .i64 a.pc]) (.func 50) #[.tmp 41,.tmp 45,.tmp 49] _ rfl (enters_of Tryz.func50 zGV rfl) rfl zGK ?_
    refine(GT.out wd X.out).mono ?_
    rintro e w3 ⟨rfl,pg2,l2,h2,k2,C3,K3,G3,n1,n2,n3⟩
    refine⟨_,rfl,?_⟩
    have QI:=zW (X.out.blk QI.out ⟨by decide,by decide,by decide,by decide,by decide,by decide,by decide⟩ K3 fun j hj=> .inr (.inr (.inl hj)))
    have X:=zW (X.out.ic C3 K3 G3)
    have NN:=zW (show h2+k2≤h+k+1∧l2.length≤l.length+1∧(en=true→(mG l2 (gQ a.pc)).isSome=true)from⟨by omega,by have:=HX.out.2;omega,n3⟩)
    clear C3 K3 G3 n1 n2 n3 GT
    refine hK _ _ ⟨⟨w3,X.out.bk,X.out.rc.st⟩,rfl⟩ ?_
    clear hK K7
    simp only[Act.put,zQ,zZ,zJ]
    generalize w3=w4 at X QI⊢
    refine mF zGF ?_
    refine zY ?_
    refine List.forall_mem_cons.2 ⟨?_,fun _ h=>absurd h qT⟩
    refine mB zGY zGM ?_
    intro K7 hK
    refine nY (ds:=lB I) dJ QI.out rfl rfl (zKS I) (.tmp 4) (.tmp 50) rfl zGK zGK ?_
    have X:=zW (X.out.row QI.out ⟨by decide,by decide,by decide,by decide,by decide,by decide,by decide⟩ zGL AQ.out (lB I))
    have QI:=zW (QI.out.store (lB I))
    generalize World.setRow _ _ _=w5 at X QI⊢
    refine hK _ _ ⟨⟨w5,X.out.bk,X.out.rc.st⟩,rfl⟩ ?_
    clear hK K7
    simp only[Act.put,zQ,zZ,zJ]
    refine vO zGF ?_
    refine zY ?_
    exact⟨rfl,q,pg2,l2,h2,k2,rfl,X.out,QI.out,AQ.out,NN.out⟩
  rintro _ w3 ⟨q,pg2,l2,h2,k2,rfl,X3,QI,AQ,n1⟩
  have NN:=zW n1
  have QI:=zW QI
  have AQ:=zW AQ
  clear X GT n1
  have X:=zW X3
  clear X3
  simp only[Act.put,zQ,zZ,zJ]
  go_upto_region 7 with fail
  refine nU (C:=fun w'=>∃u:MsW mb b (mcc s b p mp) (stC a m g),w'=u.w) (.branch [0,1,2,3,4,5,6,7,8] [9] (fun _=> .last [10])) zGV zGV (fun _ _ d _ _ h=>by cases d<;>exact h) ⟨⟨w3.drew,X.out.bk.drew,X.out.rc.st.drew⟩,rfl⟩ ?_
  intro wd hwd
  have BD:=zW (show Below w3.heap.size w3 wd from by rw[hwd];exact(zB _ _).drew)
  have X:=zW (X.out.step BD.out)
  have QI:=zW (QI.out.step BD.out)
  clear hwd BD
  have c16:∀u:MsW mb b (mcc s b p mp) (stC a m g),u.w.cell? ⟨mb,16,none⟩=some (.int .i64 s.ex):=fun u=>(u.m.cell 16).trans rfl
  have s17:∀u:MsW mb b (mcc s b p mp) (stC a m g),u.w.cell? ⟨b,17,none⟩=some (.int .i64 a.pc):=fun u=>(u.s.cell 17).trans ((mO a m g (j:=17) zGX).trans rfl)
  refine mF zGW ?_
  repeat(go_big_quiet_step (rfl))
  refine zY ?_
  clear c16 s17
  refine List.forall_mem_cons.2 ⟨?_,fun _ h=>absurd h qT⟩
  refine mB zGY zGM ?_
  intro K7 hK
  refine mK (g:=51) (caps:=#[]) (args:=#[.int .i64 a.pc,.int .i64 s.ex]) (.func 51) #[.tmp 54,.tmp 59] _ rfl (enters_of Tryz.func51 zGV rfl) rfl zGK ?_
  refine(WS a.pc s.ex wd).mono ?_
  rintro e w4 ⟨rfl,hw4⟩
  refine⟨_,rfl,?_⟩
  have E1:=zW (show Blk wd.heap.size 3 #[.int .i64 a.pc] w4 from by rw[hw4];exact(Blk.new wd 3 #[.int .i64 a.pc]).alloc _)
  have E2:=zW (show Blk (wd.heap.size+1) 3 #[.int .i64 s.ex] w4 from by rw[hw4];have h:=Blk.new (wd.alloc (.cells #[.int .i64 a.pc] 3)) 3 #[.int .i64 s.ex];rwa [zT]at h)
  have BD:=zW (show Below wd.heap.size wd w4 from by rw[hw4];exact((zB _ _).alloc (zG _) _).alloc zGN _)
  have X:=zW (X.out.step BD.out)
  have QI:=zW (QI.out.step BD.out)
  clear hw4 BD
  obtain⟨q5,hq5⟩:∃q5,wd.heap.size=q5:=⟨_,rfl⟩
  obtain⟨q6,hq6⟩:∃q6,q5+1=q6:=⟨_,rfl⟩
  rw[hq5,hq6]at E2⊢
  rw[hq5]at E1
  clear hq5 hq6
  refine hK _ _ ⟨⟨w4,X.out.bk,X.out.rc.st⟩,rfl⟩ ?_
  clear hK K7
  simp only[Act.put,zQ,zZ,zJ]
  refine vO zGW ?_
  repeat(go_big_quiet_step (rfl))
  refine zY ?_
  have XE:=zW (QT N CC.out (X.out.to_mp OK.out) (LL.out _ X.out.kp) (zR X.out.bs X.out.kp.size))
  rw[EI.out]at XE
  rw[EF.out.1,EF.out.2]at XE
  go_upto_region 8 with fail
  refine zH ?_
  iterate 3 go_step
  refine lL dJ QI.out rfl rfl (.tmp 4) rfl rfl ?_
  simp only[Act.put,zQ,zZ,zJ]
  refine qZ rfl fun K hK=>?_
  refine mK (g:=52) (caps:=#[]) (args:=#[.pointer (some ⟨mb,0,none⟩),.agg (lB I)]) (.func 52) #[.tmp 61,.tmp 62] _ rfl (enters_of Tryz.func52 zGV rfl) rfl zGK ?_
  refine XE.out.mono ?_
  rintro e w5 ⟨rfl,v',rc,kk,vv⟩
  refine⟨_,rfl,?_⟩
  refine hK _ _ ?_
  clear hK K XE
  simp only[Act.put,zQ,zZ,zJ]
  have QI:=zW (X.out.blk QI.out ⟨by decide,by decide,by decide,by decide,by decide,by decide,by decide⟩ kk fun j hj=> .inr (.inr (.inr hj)))
  have E1:=zW (X.out.blk E1.out ⟨by decide,by decide,by decide,by decide,by decide,by decide,by decide⟩ kk fun j hj=> .inr (.inr (.inr hj)))
  have E2:=zW (X.out.blk E2.out ⟨by decide,by decide,by decide,by decide,by decide,by decide,by decide⟩ kk fun j hj=> .inr (.inr (.inr hj)))
  have X:=zW (X.out.st rc kk (fun _ h=>h) (vv.imp id fun⟨k,e,h⟩ j ej=>by rw[e]at ej;cases ej;exact h))
  clear rc kk vv
  obtain⟨q7,hq7⟩:∃k,w5.heap.size=k:=⟨_,rfl⟩
  have F7:=zW (show Blk q7 133 (efc f) (w5.alloc (.cells (efc f) 133))from hq7▸Blk.new w5 133 (efc f))
  have bn:=lV w5 (.cells (efc f) 133)
  refine lO (ds:=efc f) fI iY rfl rfl (pM _) rfl rfl rfl (.tmp 6) (.tmp 63) rfl zGK zGK ?_
  simp only[Act.put,zQ,zZ,zJ]
  rw[hq7]
  have X:=zW (X.out.step bn)
  have QI:=zW (QI.out.step bn)
  have E1:=zW (E1.out.step bn)
  have E2:=zW (E2.out.step bn)
  clear bn hq7
  generalize World.alloc _ _=w6 at X QI E1 E2 F7⊢
  have c16:w6.cell? ⟨mb,16,none⟩=some (.int .i64 s.ex):=(X.out.bk.cell 16).trans rfl
  have f16:=X.out.bk.frozen 16
  have hmin:min s.ex 9223372036854775806=s.ex:=by have:=HX.out;omega
  have hwr:IntKind.i64.wrap (s.ex+1)=s.ex+1:=by have:=OK.out.ex;have:=HX.out;rw[zU];omega
  go_upto_region 10 with fail
  clear c16 f16 hmin hwr
  obtain⟨s1,hs1⟩:∃s1:mR,{s with ex:=s.ex+1}=s1:=⟨_,rfl⟩
  have ES:=zW hs1
  have KC:=zW (show lS (fun j=>j=mb) w6 (w6.setCell ⟨mb,16,none⟩ (.int .i64 (s.ex+1)))from yO rfl)
  have QI:=zW (X.out.blk QI.out ⟨by decide,by decide,by decide,by decide,by decide,by decide,by decide⟩ KC.out fun j e=> .inl e)
  have E1:=zW (X.out.blk E1.out ⟨by decide,by decide,by decide,by decide,by decide,by decide,by decide⟩ KC.out fun j e=> .inl e)
  have E2:=zW (X.out.blk E2.out ⟨by decide,by decide,by decide,by decide,by decide,by decide,by decide⟩ KC.out fun j e=> .inl e)
  have F7:=zW (X.out.blk F7.out ⟨by decide,by decide,by decide,by decide,by decide,by decide,by decide⟩ KC.out fun j e=> .inl e)
  have X:=zW (X.out.own_mb (s':=s1) ((X.out.bk.put 16 (.int .i64 (s.ex+1))).eq (by rw[←hs1];rfl)) KC.out (by rw[←hs1]))
  clear KC hs1
  generalize World.setCell _ _ _=w7 at X QI E1 E2 F7⊢
  have M2:=zW (show a2.M.length=65536 from by have h:=OK2.out.ok.o.M;rwa [ST.out.2,EF.out.2]at h)
  obtain⟨A,c,S,ev,n3,sp,sd,sr⟩:=X.out.rc.log.spans
  have SP:=zW (zM n3 (zM sp sd))
  have SR:=zW (sr (fun j=>icO pg2 p j∨j=m) fun j ej hj=>hj.elim (fun c=>own_ic X.out.co X.out.rc j c (.inr (.inr (.inr ej)))) fun e=>X.out.rc.ne.2.2.2.2.1 (e▸ej))
  clear n3 sp sd sr
  refine nU (C:=fun w'=>∃u:MsW mb b (mcc s1 b p mp) (stC a2 m g),w'=u.w) (.branch [0,1,2,3,4,5,6,7] [8] (fun _=> .branch [] [9] (fun _=> .last []))) zGV zGV (fun _ _ d _ _ h=>by cases d<;>exact h) ⟨⟨w7.drew,X.out.bk.drew,X.out.rc.st.drew⟩,rfl⟩ ?_
  intro wd hwd
  have BD:=zW (show Below w7.heap.size w7 wd from by rw[hwd];exact(zB _ _).drew)
  have KD:=zW (show lS (fun j=>icO pg2 p j∨j=m) w7 wd from lS.of_below BD.out)
  have X:=zW (X.out.step BD.out)
  have QI:=zW (QI.out.step BD.out)
  have E1:=zW (E1.out.step BD.out)
  have E2:=zW (E2.out.step BD.out)
  have F7:=zW (F7.out.step BD.out)
  have SR:=zW (SR.out.kept KD.out)
  clear hwd BD KD
  have c8:∀u:MsW mb b (mcc s1 b p mp) (stC a2 m g),u.w.cell? ⟨mb,8,none⟩=some (.pointer (some ⟨p,0,none⟩)):=fun u=>(u.m.cell 8).trans rfl
  have s35:∀u:MsW mb b (mcc s1 b p mp) (stC a2 m g),u.w.cell? ⟨b,35,none⟩=some (.pointer (some ⟨m,0,none⟩)):=fun u=>(u.s.cell 35).trans (mO _ m g zGX)
  refine mF zGW ?_
  repeat(go_big_quiet_step (rfl))
  refine zY ?_
  clear c8 s35
  refine List.forall_mem_cons.2 ⟨?_,fun _ h=>absurd h qT⟩
  refine mB zGY zGM ?_
  intro K7 hK
  refine mK (g:=54) (caps:=#[]) (args:=#[.pointer (some ⟨m,0,none⟩)]) (.func 54) #[.tmp 82] _ rfl (enters_of Tryz.func54 zGV rfl) rfl zGK ?_
  refine(WC X.out.rc M2.out).mono ?_
  rintro e w8 ⟨rfl,R8,K8⟩
  refine⟨_,rfl,?_⟩
  rw[ev]
  have ho:∀j,j=m→rA mb b m g p mp pg2 v' j:=fun j e=> .inr (.inr (.inr (.inr (.inl e))))
  have QI:=zW (X.out.blk QI.out ⟨by decide,by decide,by decide,by decide,by decide,by decide,by decide⟩ K8 ho)
  have E1:=zW (X.out.blk E1.out ⟨by decide,by decide,by decide,by decide,by decide,by decide,by decide⟩ K8 ho)
  have E2:=zW (X.out.blk E2.out ⟨by decide,by decide,by decide,by decide,by decide,by decide,by decide⟩ K8 ho)
  have F7:=zW (X.out.blk F7.out ⟨by decide,by decide,by decide,by decide,by decide,by decide,by decide⟩ K8 ho)
  have SR:=zW (show RgR w8 A S (icO pg2 p)from fun i hi=>by
   obtain⟨bb,o,e,hb,hn,r1,r2⟩:=(SR.out.kept (K8.mono fun j _ e=> .inr e)) i hi;exact⟨bb,o,e,hb,fun c=>hn (.inl c),r1,r2⟩)
  have X:=zW (X.out.st R8 K8 (fun j e=> .inr (.inl e)) (.inr fun j ej=>by cases ej))
  clear R8 K8 ho ev
  refine hK _ _ ⟨⟨w8,X.out.bk,X.out.rc.st⟩,rfl⟩ ?_
  clear hK K7
  simp only[Act.put,zQ,zZ,zJ]
  refine mF zGF ?_
  refine zY ?_
  refine List.forall_mem_cons.2 ⟨?_,fun _ h=>absurd h qT⟩
  refine mB zGY zGM ?_
  intro K7 hK
  refine mK (g:=53) (caps:=#[]) (args:=#[.pointer (some ⟨p,0,none⟩),.slice A S.length c]) (.func 53) #[.tmp 78,.tmp 83] _ rfl (enters_of Tryz.func53 zGV rfl) rfl zGK ?_
  refine(WJ X.out.co a2.M S A c OK.out.ok.o.M M2.out (by have:=HX.out;have:=NN.out;omega) SR.out (zR SP.out.1 (zR (show 0+lgE _≤0+16 from Nat.add_le_add_left (zKW _) _) zGL)) (fun s h=>⟨(SP.out.2.1 s h).1,(SP.out.2.1 s h).2.1,(SP.out.2.1 s h).2.2.2⟩) SP.out.2.2).mono ?_
  rintro e w9 ⟨rfl,l9,C9,K9,n9,m9⟩
  refine⟨_,rfl,?_⟩
  have ho:∀j,icO pg2 p j→rA mb b m g p mp pg2 (.slice none 0 0) j:=fun j e=> .inr (.inr (.inl e))
  have QI:=zW (X.out.blk QI.out ⟨by decide,by decide,by decide,by decide,by decide,by decide,by decide⟩ K9 ho)
  have E1:=zW (X.out.blk E1.out ⟨by decide,by decide,by decide,by decide,by decide,by decide,by decide⟩ K9 ho)
  have E2:=zW (X.out.blk E2.out ⟨by decide,by decide,by decide,by decide,by decide,by decide,by decide⟩ K9 ho)
  have F7:=zW (X.out.blk F7.out ⟨by decide,by decide,by decide,by decide,by decide,by decide,by decide⟩ K9 ho)
  have X:=zW (X.out.ic C9 K9 vK.refl)
  have NN:=zW (show h2+k2≤h+k+1∧l9.length≤l.length+1∧(en=true→I.op=38→(mG l9 (gQ a.pc)).isSome=true)from⟨NN.out.1,zR n9 NN.out.2.1,fun e1 e2=>by rw[m9 (jE (Nat.le_zero.1 (by have h:=SP.out.1;rw[e2]at h;exact h)))];exact NN.out.2.2 e1⟩)
  clear C9 K9 n9 m9 ho SR SP
  refine hK _ _ ⟨⟨w9,X.out.bk,X.out.rc.st⟩,rfl⟩ ?_
  clear hK K7
  simp only[Act.put,zQ,zZ,zJ]
  refine vO zGF ?_
  refine zY ?_
  go_upto_region 11 with fail
  refine zH ?_
  iterate 3 go_step
  refine lL fI F7.out rfl rfl (.tmp 6) rfl rfl ?_
  simp only[Act.put,zQ,zZ,zJ]
  refine lL dJ QI.out rfl rfl (.tmp 4) rfl rfl ?_
  simp only[Act.put,zQ,zZ,zJ]
  iterate 3 go_step
  refine qZ rfl fun K hK=>?_
  refine mK (g:=55) (caps:=#[]) (args:=#[.pointer (some ⟨mb,0,none⟩),.agg (efc f),.agg (lB I),.func (.func 65) #[] #[.pointer (some ⟨q5,0,none⟩),.pointer (some ⟨q6,0,none⟩)]]) (.func 55) #[.tmp 85,.tmp 86,.tmp 87,.tmp 88] _ rfl (enters_of Tryz.func55 zGV rfl) rfl zGK ?_
  refine(N4 X.out.bk E1.out E2.out).mono ?_
  rintro e wz ⟨rfl,BZ,KZ⟩
  refine⟨_,rfl,?_⟩
  refine hK _ _ ?_
  clear hK K
  simp only[Act.put,zQ,zZ,zJ]
  have F7:=zW (X.out.blk F7.out ⟨by decide,by decide,by decide,by decide,by decide,by decide,by decide⟩ KZ fun j e=> .inl e)
  have X:=zW (X.out.own_mb BZ KZ (by unfold flE;split;rfl;split;rfl;split<;>rfl))
  clear BZ KZ QI E1 E2
  have e3:wz.cell? ⟨q7,3,none⟩=some (.bool f.drew):=(F7.out.cell 3).trans rfl
  go_wp2
  go_returns
  have X:=X.out
  rw[←ES.out,zNL s a.pc I.x f ⟨HK.out,ZZ.out⟩,←EI.out,←EF.out.1,←ST.out.1,←EF.out.2,←ST.out.2]at X
  exact⟨rfl,pg2,_,l9,h2,k2,X.to_mp OK2.out,X.kp,X.gr,NN.out.1,NN.out.2.1,fun e1 _ e2=>NN.out.2.2 e1 (EI.out▸e2)⟩
theorem i5(N:Nat)(E0:uP N){base mb b m g p mp h k:Nat}{pg:Nat→Option Nat}{v:Value}{en:Bool}{l:nB}{s:mR}{a:AS}{w:World}(H:MP base mb b m g p mp pg v en l h k s a w)(L:cQ w)(hB:1<base)(hb:base≤w.heap.size)(hx:s.ex≤90000)(h1:h+k≤90000)(l1:l.length≤90000):
  Calls Tryz.prog 40 #[.pointer (some ⟨mb,0,none⟩)] w fun e w'=>e=.returned (.bool (bU s a))∧∃pg' v' l' h' k',MP base mb b m g p mp pg' v' en l' h' k' (nmM s a) (yI N s a) w'∧lS (rA mb b m g p mp pg v) w w'∧vK (rA mb b m g p mp pg v) (rA mb b m g p mp pg' v') w.heap.size∧h'+k'≤h+k+1∧l'.length≤l.length+1∧(en=true→s.k=0→(wA s a).op=38→(mG l' (gQ a.pc)).isSome=true):=by
 by_cases hk:s.k=0
 ·rw[show bU s a=(efM s a).drew from by unfold bU;rw[hk];simp];exact T5 N E0 H L hB hb hk hx h1 l1
 ·rw[show bU s a=false from by unfold bU;rw[zO hk];rfl,show nmM s a=s from by unfold nmM;rw[zL hk],show yI N s a=a from by unfold yI;rw[zL hk]];refine(YB H hk).mono ?_;rintro e w' ⟨rfl,bb⟩;exact⟨rfl,pg,v,l,h,k,H.step bb,lS.of_below bb,vK.refl,by omega,by omega,fun _ e=>absurd e hk⟩
end
end Go.Proofs.YtbpniahcjbagmaaGreatDoor
