/- CpuRef11. -/
import Derived.Test.YtcjldabaekbdlaaGreatDoorMk7a
set_option maxRecDepth 400000
set_option maxHeartbeats 64000000
set_option linter.unusedVariables false
set_option linter.unusedSimpArgs false
namespace Go.Proofs.YtcjldabaekbdlaaGreatDoor
section
open Go.RowKit Num Dec Cpu
def uK(R L:List Int):AS:=⟨fun _=>0,0,512,[],yJ R,fun _ _=>false,false,1,[],0,0,cC mU,64,mU,L,0⟩
theorem SS(M G P F L:Sl):Tryz.prog.built 43 [(2,.int .i64 512),(4,.slice M.A M.n M.c),(5,.agg #[.slice G.A G.n G.c,.bool false,.int .i64 1]),(9,.slice P.A P.n P.c),(10,.int .u8 64),(11,.slice F.A F.n F.c),(12,.slice L.A L.n L.c)]=some (cst ⟨fun _=>0,0,512,cX,M,G,false,1,cX,0,0,P,64,F,L,0⟩):=by kernel_rfl
theorem NQ{o:Oper}{a:Act}{K:Act→World→Prop}{Q:Exit→Act→World→Prop}(w:World)(ho:o.op=.makeSlice 22 (.const (.int .i64 16)) (.const (.int .i64 16)))
  (h:∀p w',w.heap.size=p→Blk p 5 (pc mU) w'→Below w.heap.size w w'→K (a.put o.dst (.slice (some ⟨p,0,none⟩) 16 16)) w'):o.wp Tryz.prog a w K Q:=by
 have mk:(Instr.makeSlice 22 (.int .i64 16) (.int .i64 16)).run Tryz.prog w=.ok (.slice (some ⟨w.heap.size,0,none⟩) 16 16) (w.alloc (.cells (pc mU) 5)):=bH 16 16 rfl zBY w;unfold Oper.wp execOp;simp only[ho,Act.eval,qW,mk,qX,jW];exact h _ _ rfl (Blk.new w _ _) (mJ w _)
theorem IQ(N:Nat)(hN:N=8192)(A:Option Addr)(n c:Nat)(R:List Int)(B:Option Addr)(m d:Nat)(L:List Int)(w:World)(hR:Rd w A R)(hn:R.length=n)(n1:n≤65024)(hL:Rd w B L)(hm:L.length=m):
  Calls Tryz.prog 54 #[.slice A n c,.slice B m d] w fun e w'=>∃z,e=.returned (.agg (cst (mT (uK R L) z)))∧RS N w' z (uK R L)∧Below w.heap.size w w'∧z.sk=cX∧z.L=⟨B,m,d⟩∧FrS w z.M∧FrS w z.P∧FrS w z.G:=by
 have NN:=zW hN;have N5:=zW (fun(w':World) (b:Below w.heap.size w w')=>zK5 A n c R w' hn n1 (hR.below b));have RL:=zW (zY hL hm);clear hN hR hn n1 hL hm;go_enter Tryz.func54,Tryz.ntmps54;go_upto_region 0 with fail;refine zN ?_;refine qL rfl fun K hK=>nF xI rfl (hK _ _ ?_);clear hK K;simp only[Act.put,zQ,zZ,zJ];have D:=zW (Blk.new w 43 (cst vP));have BB:=zW (mJ w (.cells (cst vP) 43));obtain⟨g,hg⟩:∃g,w.heap.size=g:=⟨_,rfl⟩;have AT:=zW (jT hg);rw[hg]at D⊢;generalize World.alloc _ _=w1 at D BB⊢;clear hg;go_upto_region 1 with fail;refine xC (C:=fun w'=>∃u:mH w,w'=u.w) (.branch [0,5] [1,3,4] (fun c=>if c=1 then .branch [] [2,3,4] (fun c=>if c=2 then .branch [] [3,4] (fun c=>if c=3 then .branch [] [4] (fun c=> .branch [6] [7] (fun _=> .last []))else .branch [] [3] (fun c=> .branch [6] [7] (fun _=> .last [])))else if c=3 then .branch [] [2,4] (fun c=>if c=2 then .branch [] [4] (fun c=> .branch [6] [7] (fun _=> .last []))else .branch [] [2] (fun c=> .branch [6] [7] (fun _=> .last [])))else .branch [] [2,3] (fun c=>if c=2 then .branch [] [3] (fun c=> .branch [6] [7] (fun _=> .last []))else .branch [] [2] (fun c=> .branch [6] [7] (fun _=> .last []))))else if c=3 then .branch [] [1,4] (fun c=>if c=1 then .branch [] [2,4] (fun c=>if c=2 then .branch [] [4] (fun c=> .branch [6] [7] (fun _=> .last []))else .branch [] [2] (fun c=> .branch [6] [7] (fun _=> .last [])))else .branch [] [1] (fun c=> .branch [] [2] (fun c=> .branch [6] [7] (fun _=> .last []))))else .branch [] [1,3] (fun c=>if c=1 then .branch [] [2,3] (fun c=>if c=2 then .branch [] [3] (fun c=> .branch [6] [7] (fun _=> .last []))else .branch [] [2] (fun c=> .branch [6] [7] (fun _=> .last [])))else .branch [] [1] (fun c=> .branch [] [2] (fun c=> .branch [6] [7] (fun _=> .last [])))))) zBM zBM (fun _ _ d _ _ h=>by cases d<;>exact h) ⟨⟨w1.drew,BB.out.trans ((zB _ _).drew)⟩,rfl⟩ ?_;intro wd hwd;have bd:=show Below w1.heap.size w1 wd by rw[hwd];exact(zB _ _).drew
 have D:=zW (D.out.step bd);have BB:=zW (BB.out.trans (bd.mono BB.out.size));clear hwd bd;repeat' (first
  |exact fun _ h=>absurd h (j6)
  |refine List.forall_mem_cons.2 ⟨?_,?_⟩
  |skip
   show cO _ _ _ _ 1 _ _ _
   refine nP zBG zBB ?_
   intro K7 hK
   refine mF (g:=113) (caps:=#[]) (args:=#[.slice A n c]) (.func 113) #[.tmp 5] #[22] rfl (enters_of Tryz.func113 zBM rfl) rfl zBL ?_
   refine(N5.out _ BB.out).mono ?_
   intro e wn h5
   obtain⟨gm,cm,rfl,hgm,hlm,om,bb⟩:=wK.bytes h5 (dK R) zBH
   have GM:=zW (show g<gm from zS D.out.lt hgm)
   have RM:=zW (show Rm ⟨gm,0,none⟩ (yJ R) wn from⟨hlm,ZW om⟩)
   try have PX:=zW (PX.out.step bb)
   try have BP:=zW (BP.out.step bb)
   try have BF:=zW (BF.out.step bb)
   have D:=zW (D.out.step bb)
   have BB:=zW (BB.out.trans (bb.mono BB.out.size))
   clear bb h5 om hgm hlm
   refine⟨_,rfl,?_⟩
   refine hK _ _ ⟨⟨wn,BB.out⟩,rfl⟩ ?_
   clear hK K7
   simp only[Act.put,zQ,zZ,zJ]
  |skip
   show cO _ _ _ _ 2 _ _ _
   refine nP zBG zBB ?_
   intro K7 hK
   refine mF (g:=114) (caps:=#[]) (args:=#[]) (.func 114) #[] #[] rfl (enters_of Tryz.func114 zBM rfl) rfl zBL ?_
   refine(N9 N NN.out _).mono ?_
   rintro e wn ⟨A',cap',gs',rfl,l8,r8,p8,bb,fA⟩
   have FG:=zW (show∀ad,A'=some ad→w.heap.size≤ad.block from fA.fresh BB.out.size)
   clear fA
   have PX:=zW (show Px4 N A' gs' (fun _ _=>false) wn from⟨l8,r8,p8⟩)
   try have RM:=zW (RM.out.step bb)
   try have BP:=zW (BP.out.step bb)
   try have BF:=zW (BF.out.step bb)
   have D:=zW (D.out.step bb)
   have BB:=zW (BB.out.trans (bb.mono BB.out.size))
   clear bb l8 r8 p8
   refine⟨_,rfl,?_⟩
   refine hK _ _ ⟨⟨wn,BB.out⟩,rfl⟩ ?_
   clear hK K7
   simp only[Act.put,zQ,zZ,zJ]
  |skip
   show cO _ _ _ _ 3 _ _ _
   refine nP zBG zBB ?_
   intro K7 hK
   refine NQ _ rfl ?_
   intro p wn hp BP bb
   have BP:=zW BP
   have GBP:=zW (hp▸D.out.lt)
   try have RM:=zW (RM.out.step bb)
   try have PX:=zW (PX.out.step bb)
   try have BF:=zW (BF.out.step bb)
   have D:=zW (D.out.step bb)
   have BB:=zW (BB.out.trans (bb.mono BB.out.size))
   clear bb hp
   refine hK _ _ ⟨⟨wn,BB.out⟩,rfl⟩ ?_
   clear hK K7
   simp only[Act.put,zQ,zZ,zJ]
  |skip
   show cO _ _ _ _ 4 _ _ _
   refine nP zBG zBB ?_
   intro K7 hK
   refine NQ _ rfl ?_
   intro f wn hp BF bb
   have BF:=zW BF
   have GBF:=zW (hp▸D.out.lt)
   try have RM:=zW (RM.out.step bb)
   try have PX:=zW (PX.out.step bb)
   try have BP:=zW (BP.out.step bb)
   have D:=zW (D.out.step bb)
   have BB:=zW (BB.out.trans (bb.mono BB.out.size))
   clear bb hp
   refine hK _ _ ⟨⟨wn,BB.out⟩,rfl⟩ ?_
   clear hK K7
   simp only[Act.put,zQ,zZ,zJ]
  |skip
   refine cI zBN ?_
   refine sH (ty:=43) (parts:=#[(2,.const (.int .i64 512)),(4,.tmp 6),(5,.tmp 7),(9,.tmp 8),(10,.const (.int .u8 64)),(11,.tmp 9),(12,.tmp 10)]) (cs:=cst (mT (uK R L) {sk:=cX,M:=⟨some ⟨gm,0,none⟩,65536,cm⟩,G:=⟨A',4,cap'⟩,K:=cX,P:=⟨some ⟨p,0,none⟩,16,16⟩,fl:=⟨some ⟨f,0,none⟩,16,16⟩,L:=⟨B,m,d⟩})) rfl rfl (by simp[Act.eval,Act.put];exact SS ⟨some ⟨gm,0,none⟩,65536,cm⟩ ⟨A',4,cap'⟩ ⟨some ⟨p,0,none⟩,16,16⟩ ⟨some ⟨f,0,none⟩,16,16⟩ ⟨B,m,d⟩) ?_
   simp only[Act.put,zQ,zZ,zJ]
   refine zM ?_
   intro c hc
   obtain rfl:c=7:=by simpa using hc
   refine nP zBG zBB ?_
   intro K7 hK
   refine nH (ds:=cst (mT (uK R L) {sk:=cX,M:=⟨some ⟨gm,0,none⟩,65536,cm⟩,G:=⟨A',4,cap'⟩,K:=cX,P:=⟨some ⟨p,0,none⟩,16,16⟩,fl:=⟨some ⟨f,0,none⟩,16,16⟩,L:=⟨B,m,d⟩})) mM D.out (lC _) (lC _) (nZ _) (.tmp 4) (.tmp 11) rfl zBL zBL ?_
   have BZ:=zW (lU BB.out (show w.heap.size≤g from AT.out) (cst (mT (uK R L) {sk:=cX,M:=⟨some ⟨gm,0,none⟩,65536,cm⟩,G:=⟨A',4,cap'⟩,K:=cX,P:=⟨some ⟨p,0,none⟩,16,16⟩,fl:=⟨some ⟨f,0,none⟩,16,16⟩,L:=⟨B,m,d⟩})))
   have RZ:=zW (show RS N (World.setRow _ g (cst (mT (uK R L) {sk:=cX,M:=⟨some ⟨gm,0,none⟩,65536,cm⟩,G:=⟨A',4,cap'⟩,K:=cX,P:=⟨some ⟨p,0,none⟩,16,16⟩,fl:=⟨some ⟨f,0,none⟩,16,16⟩,L:=⟨B,m,d⟩}))) {sk:=cX,M:=⟨some ⟨gm,0,none⟩,65536,cm⟩,G:=⟨A',4,cap'⟩,K:=cX,P:=⟨some ⟨p,0,none⟩,16,16⟩,fl:=⟨some ⟨f,0,none⟩,16,16⟩,L:=⟨B,m,d⟩} (uK R L)from
    ⟨oT.nil 0 _,⟨_,cm,rfl,RM.out.away (show(⟨gm,0,none⟩:Addr).block≠g by have:=GM.out;simp only;omega) zBD (fun k hk=>zA _ _ _ _ hk)⟩,
    ⟨A',cap',gs',rfl,PX.out.away (yA.st D.out) zBD (fun k hk=>zA _ _ _ _ hk)⟩,⟨rfl,qE _,fun i hi=>absurd hi (Nat.not_lt_zero i)⟩,
    ⟨zVD (BP.out.otherRow (by have:=GBP.out;omega) _),rfl⟩,⟨rfl,zVD (BF.out.otherRow (by have:=GBF.out;omega) _)⟩,⟨RL.out.1.below BZ.out,RL.out.2⟩⟩)
   have DZ:=zW (D.out.store (cst (mT (uK R L) {sk:=cX,M:=⟨some ⟨gm,0,none⟩,65536,cm⟩,G:=⟨A',4,cap'⟩,K:=cX,P:=⟨some ⟨p,0,none⟩,16,16⟩,fl:=⟨some ⟨f,0,none⟩,16,16⟩,L:=⟨B,m,d⟩})))
   refine hK _ _ ⟨⟨_,BZ.out⟩,rfl⟩ ?_
   clear hK K7
   simp only[Act.put,zQ,zZ,zJ]
   generalize World.setRow _ _ _=wz at BZ RZ DZ⊢
   refine wA zBN ?_
   refine zM ?_
   go_wp2_with fail
   iterate 4 (try go_step)
   exact zT (zF rfl _ _ g _ _ _ _ rfl DZ.out Tryz.underlying43 rfl zBU) rfl ⟨{sk:=cX,M:=⟨some ⟨gm,0,none⟩,65536,cm⟩,G:=⟨A',4,cap'⟩,K:=cX,P:=⟨some ⟨p,0,none⟩,16,16⟩,fl:=⟨some ⟨f,0,none⟩,16,16⟩,L:=⟨B,m,d⟩},rfl,RZ.out,BZ.out,rfl,rfl,fun _ e=>by(cases e;have:=GM.out;have:=AT.out;simp only;omega),fun _ e=>by(cases e;have:=GBP.out;have:=AT.out;simp only;omega),FG.out⟩
  |skip
   refine cI zBN ?_
   repeat(go_big_quiet_step (rfl))
   refine zM ?_)
end
end Go.Proofs.YtcjldabaekbdlaaGreatDoor
