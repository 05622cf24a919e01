/- MacAwD, MacAwake, MacLawK, MacFrozenW. -/
import Derived.Test.YthknmadinmigfaaGreatDoorMk4b
set_option maxRecDepth 400000
set_option maxHeartbeats 64000000
set_option linter.unusedVariables false
set_option linter.unusedSimpArgs false
namespace Go.Proofs.YthknmadinmigfaaGreatDoor
section
open Go.RowKit Num Dec Cpu
def tG:Pr:=⟨2,false,false,false,false,false,false,false⟩
def bQ:Pr:=⟨1,false,false,false,false,false,false,false⟩
def pF:AS:=xC [0,253] []
def iI:AS:=xC [243,10] []
def zJD:nX:=⟨tG,2,0,512,0,0,1⟩
def pT:nX:=⟨bQ,1,0,0,0,3,1⟩
def WF:AS:={iI with pc:=514}
theorem zQ9:Bts [0,253]:=dS zYK (dS zYK fV)
theorem zQ8:Bts [243,10]:=dS zYK (dS zYK fV)
theorem zQP(b2 b3:Nat):dec 0 253 b2 b3 2=⟨38,0,0,0,0,0,2⟩:=rfl
theorem zQF(b2 b3:Nat):dec 243 10 b2 b3 1=⟨27,3,0,0,0,0,2⟩:=rfl
theorem VF:yE (yN tG) pF=⟨38,0,0,0,0,0,2⟩:=TC [0,253] zYK zQ9 0 0 253 rfl rfl 2 _ zQP
theorem VD:yE (yN bQ) iI=⟨27,3,0,0,0,0,2⟩:=TC [243,10] zYK zQ8 0 243 10 rfl rfl 1 _ zQF
theorem zWO:okM (yN tG) pF=true:=rfl
theorem zWI:okM (yN bQ) iI=true:=rfl
theorem zW1:efM (yN tG) pF=⟨0,true,false,false⟩:=by
 unfold efM;rw[zN zWO,VF];show efA pF 38 0 0 0 tG=_;unfold efA;rw[show caA pF 38 0 0 0 tG=0 from rfl];rfl
theorem ef20b:efM (yN bQ) iI=⟨0,false,true,false⟩:=by
 unfold efM;rw[zN zWI,VD];show efA iI 27 3 0 0 bQ=_;unfold efA;rw[show caA iI 27 3 0 0 bQ=0 from rfl];rfl
theorem nm20a:nmM (yN tG) pF=zJD:=by
 unfold nmM;rw[zN (show(yN tG).k=0 from rfl),zW1];rfl
theorem nm20b:nmM (yN bQ) iI=pT:=by
 unfold nmM;rw[zN (show(yN bQ).k=0 from rfl),ef20b,VD];rfl
theorem st20a(N:Nat):cU N (yN tG) pF=pF:=by
 unfold cU asM;rw[zN (show(yN tG).k=0 from rfl),zN zWO,VF];show stA N pF 38 0 0 0 0 0 2 tG=_;unfold stA;rw[show caA pF 38 0 0 0 tG=0 from rfl];rfl
theorem st20b(N:Nat):cU N (yN bQ) iI=WF:=by
 unfold cU asM;rw[zN (show(yN bQ).k=0 from rfl),zN zWI,VD];show stA N iI 27 3 0 0 0 0 2 bQ=_;unfold stA;rw[show caA iI 27 3 0 0 bQ=0 from rfl];rfl
theorem dr20a:tL (yN tG) pF=false:=by unfold tL;rw[zW1];rfl
def SD:Ev:=⟨7,true⟩
def zQG:Ev:=⟨7,false⟩
def zV3:AS:={WF with ks:=[SD]}
def d20b:AS:={WF with ks:=[SD,zQG],v:=Cpu.upd (fun _=>0) 3 7}
theorem OD:rC pT WF SD=zV3∧t6 pT WF SD=pT:=by
 have h:rlM pT WF SD=false:=zYK;unfold rC t6;rw[h];exact⟨rfl,rfl⟩
theorem OT:rC pT zV3 zQG=d20b∧t6 pT zV3 zQG={pT with k:=0,c:=0,p:=0,y:=0}:=by
 have h:rlM pT zV3 zQG=true:=zYK;unfold rC t6;rw[h];exact⟨rfl,rfl⟩
theorem zV5(N:Nat)(CS:uS N)(E0:d8 N)(w:World)(hL:xA w):Calls Tryz.prog 8 #[] w fun e w'=>e=.returned (.bool true)∧Below w.heap.size w w':=by
 have CC:=zW CS;have LL:=zW hL;have EE:=zW E0;obtain⟨K,hK⟩:∃K:Nat,K=65025:=⟨_,rfl⟩;have mk:=aH K 65025 (by rw[hK];rfl) zYQ;have HK:=zW (show 65024<K∧K≤1000000 by omega);clear hK CS E0 hL;go_enter Tryz.func8,Tryz.ntmps8;have R1:=zW (show Rd (w.alloc (.cells #[.int .u8 0,.int .u8 253] 5)) (some ⟨w.heap.size,0,none⟩) [0,253]from fX (Blk.new w 5 #[.int .u8 0,.int .u8 253]) 0 [0,253] fun j hj=>by rcases j with _|_|j;rfl;rfl;exact absurd hj zYY);have BB:=zW (lM w (.cells #[.int .u8 0,.int .u8 253] 5));go_wp2_with fail;obtain⟨g1,hg1⟩:∃k,w.heap.size=k:=⟨_,rfl⟩;have GL:=zW (show 1<g1 from hg1▸LL.out.lt);rw[hg1]at R1⊢;clear hg1;generalize World.alloc _ _=w1 at R1 BB⊢;refine(newE N CC.out (q:=tG) (en:=true) (LL.out.step BB.out) R1.out rfl zYK Rd.nil rfl zYK zQ9 fV (Fls.nil _ _) rfl zYK).mono ?_;rintro e w2 ⟨ma,Oa,rfl,X,b2⟩;have A:=zW X;have LA:=zW BB.out.size;have BB:=zW (BB.out.trans (b2.mono BB.out.size));clear R1 X b2;go_wp2_with fail;obtain⟨W,hW⟩:∃W,w2.alloc (.cells #[.int .u8 243,.int .u8 10] 5)=W:=⟨_,rfl⟩;have R2:=zW (show Rd W (some ⟨w2.heap.size,0,none⟩) [243,10]from hW▸fX (Blk.new w2 5 #[.int .u8 243,.int .u8 10]) 0 [243,10] fun j hj=>by rcases j with _|_|j;rfl;rfl;exact absurd hj zYY);have b3:=show Below w2.heap.size w2 W from hW▸lM w2 _;have A:=zW (A.out.step b3);have LB:=zW (show w.heap.size≤W.heap.size from zR BB.out.size b3.size);have BB:=zW (BB.out.trans (b3.mono BB.out.size));rw[hW];clear hW b3;refine(newE N CC.out (q:=bQ) (en:=false) (LL.out.step BB.out) R2.out rfl zYK Rd.nil rfl zYK zQ8 fV (Fls.nil _ _) rfl zYK).mono ?_;rintro e w3 ⟨mb,Ob,rfl,Y,b3⟩;have DJ:=zW (show∀j,Oa j→¬Ob j from fun j h1 h2=>by have h3:=(A.out.mch.blt j h1).2;have h4:=(Y.mch.blt j h2).1;omega);have A:=zW (A.out.step b3);have B:=zW Y;have BB:=zW (BB.out.trans (b3.mono BB.out.size));clear Y b3 R2;go_wp2_with fail;have bn:=lM w3 (.cells (arr (List.replicate K 0)) 5);refine(DI (q:=⟨0,false,false,false,false,false,false,false⟩) (en:=false) zYK).mono ?_;rintro e w4 ⟨rfl,b4⟩;have b4:=bn.trans (b4.mono bn.size);clear bn;have A:=zW (A.out.step b4);have B:=zW (B.out.step b4);have BB:=zW (BB.out.trans (b4.mono BB.out.size));clear b4;go_wp2_with fail;have bn:=lM w4 (.cells (arr (List.replicate K 0)) 5);refine(VW (q:=bQ) (en:=false) (L:=[]) N CC.out ((LL.out.step BB.out).step bn) HK.out Rd.nil rfl zYK zYK).mono ?_;rintro e w5 ⟨rfl,b4⟩;have b4:=bn.trans (b4.mono bn.size);clear bn mk HK;have A:=zW (A.out.step b4);have B:=zW (B.out.step b4);have BB:=zW (BB.out.trans (b4.mono BB.out.size));clear b4;go_wp2_with fail;refine(A.out.run N EE.out (LL.out.step BB.out) (zF LL.out.lt LA.out) zYK zYK).mono ?_;rintro e w6 ⟨rfl,O2,X,K6,G6⟩;rw[show tL (yN tG) (xC [0,253] [])=false from dr20a];rw[show nmM (yN tG) (xC [0,253] [])=zJD from nm20a,show cU N (yN tG) (xC [0,253] [])=pF from st20a N]at X;have DK:=zW (T3 DJ.out G6 fun j hj=>(B.out.mch.blt j hj).2);have B:=zW (B.out.keep K6 (fun j h1 h2=>DJ.out j h2 h1) A.out.mch.u8);have BB:=zW (BB.out.trans (A.out.mch.below LA.out K6));have A:=zW X;clear X K6 G6 DJ;go_wp2_with fail;refine(B.out.run N EE.out (LL.out.step BB.out) (zF LL.out.lt LB.out) zYK zYK).mono ?_;rintro e w7 ⟨rfl,O3,X,K7,G7⟩;rw[show nmM (yN bQ) (xC [243,10] [])=pT from nm20b,show cU N (yN bQ) (xC [243,10] [])=WF from st20b N]at X;have DJ:=zW (T3 (fun j h1 h2=>DK.out j h2 h1) G7 fun j hj=>(A.out.mch.blt j hj).2);have A:=zW (A.out.keep K7 (fun j h1 h2=>DK.out j h1 h2) B.out.mch.u8);have BB:=zW (BB.out.trans (B.out.mch.below LB.out K7));have B:=zW X;clear X K7 G7 DK;go_wp2_with fail;refine(uX B.out.mch).mono ?_;rintro e w8 ⟨rfl,b4⟩;have A:=zW (A.out.step b4);have B:=zW (B.out.step b4);have BB:=zW (BB.out.trans (b4.mono BB.out.size));clear b4;rw[show pT.st=xO 1 0 0 0 from rfl];simp only[];go_at_K
 iterate 1 go_step
 refine m5 (ds:=xO 1 0 0 0) uH gW rfl rfl (wM _ _ _ _) rfl rfl rfl (.tmp 11) (.tmp 56) rfl zYZ zYZ ?_;simp only[Act.put,zQ,zZ,zJ];have W11:=zW (Blk.new w8 39 (xO 1 0 0 0));have b4:=lM w8 (.cells (xO 1 0 0 0) 39);obtain⟨q11,hq⟩:∃q,w8.heap.size=q:=⟨_,rfl⟩;have NQ:=zW (show∀j,O3 j→j≠q11 from fun j hj=>by have:=(B.out.mch.blt j hj).2;omega);have A:=zW (A.out.step b4);have B:=zW (B.out.step b4);have BB:=zW (BB.out.trans (b4.mono BB.out.size));clear b4;rw[hq]at W11⊢;clear hq;generalize World.alloc _ _=w9 at A B BB W11⊢;go_wp2_with fail;refine(B.out.key SD zYK).mono ?_;rintro e wa ⟨rfl,X,KK⟩;rw[OD.1,OD.2]at X;have A:=zW (A.out.keep KK (fun j h1 h2=>DJ.out j h2 h1) B.out.mch.u8);have W11:=zW (show Blk q11 39 (xO 1 0 0 0) wa from(KK.block q11 W11.out.lt fun c=>NQ.out q11 c rfl).trans W11.out);have BB:=zW (BB.out.trans (B.out.mch.below LB.out KK));have B:=zW X;clear X KK;go_wp2_with fail;refine(B.out.key zQG zYK).mono ?_;rintro e wb ⟨rfl,X,KK⟩;rw[OT.1,OT.2]at X;have A:=zW (A.out.keep KK (fun j h1 h2=>DJ.out j h2 h1) B.out.mch.u8);have W11:=zW (show Blk q11 39 (xO 1 0 0 0) wb from(KK.block q11 W11.out.lt fun c=>NQ.out q11 c rfl).trans W11.out);have BB:=zW (BB.out.trans (B.out.mch.below LB.out KK));have B:=zW X;clear X KK;go_wp2_with fail;refine(bC N CC.out B.out.mch (LL.out.step BB.out)).mono ?_;rintro e wc ⟨bs,ms,gs,vs,rfl,rc,b4⟩;have A:=zW (A.out.step b4);have B:=zW (B.out.step b4);have W11:=zW (W11.out.step b4);have BB:=zW (BB.out.trans (b4.mono BB.out.size));have S:=zW rc;clear b4 rc;have s35:wc.cell? ⟨bs,35,none⟩=some (.pointer (some ⟨ms,0,none⟩)):=(S.out.st.cell 35).trans (mK _ ms gs zYQ);go_wp2_with fail;clear s35;refine(A.out.entry 512 true (fun l h _=>h (by first|rfl|trivial) (by first|rfl|trivial) (by rw[show yE (yN tG) (xC [0,253] [])=_ from VF]))).mono ?_;rintro e wd ⟨I,rfl,b4⟩;have A:=zW (A.out.step b4);have B:=zW (B.out.step b4);have W11:=zW (W11.out.step b4);have BB:=zW (BB.out.trans (b4.mono BB.out.size));have S:=zW (S.out.step b4);clear b4;simp only[];go_at_K
 iterate 10 go_step
 refine m5 (ds:=lJ I) uG wU rfl rfl (aD I) rfl rfl rfl (.tmp 13) (.tmp 77) rfl zYZ zYZ ?_;simp only[Act.put,zQ,zZ,zJ];have b4:=lM wd (.cells (lJ I) 89);have A:=zW (A.out.step b4);have B:=zW (B.out.step b4);have W11:=zW (W11.out.step b4);have BB:=zW (BB.out.trans (b4.mono BB.out.size));have S:=zW (S.out.step b4);clear b4;generalize wd.heap.size=q13;generalize World.alloc _ _=we at A B W11 BB S⊢;go_wp2_with fail;refine(B.out.entry 512 false (fun l _ h=>by rw[h rfl];rfl)).mono ?_;rintro e wf ⟨I,rfl,b4⟩;have A:=zW (A.out.step b4);have B:=zW (B.out.step b4);have W11:=zW (W11.out.step b4);have BB:=zW (BB.out.trans (b4.mono BB.out.size));have S:=zW (S.out.step b4);clear b4;simp only[];go_at_K
 iterate 10 go_step
 refine m5 (ds:=lJ I) uG wU rfl rfl (aD I) rfl rfl rfl (.tmp 15) (.tmp 82) rfl zYZ zYZ ?_;simp only[Act.put,zQ,zZ,zJ];have b4:=lM wf (.cells (lJ I) 89);have A:=zW (A.out.step b4);have B:=zW (B.out.step b4);have W11:=zW (W11.out.step b4);have BB:=zW (BB.out.trans (b4.mono BB.out.size));have S:=zW (S.out.step b4);clear b4;generalize wf.heap.size=q15;generalize World.alloc _ _=wg at A B W11 BB S⊢;go_wp2_with fail;refine(uX A.out.mch).mono ?_;rintro e wh ⟨rfl,b4⟩;have A:=zW (A.out.step b4);have B:=zW (B.out.step b4);have W11:=zW (W11.out.step b4);have S:=zW (S.out.step b4);have BB:=zW (BB.out.trans (b4.mono BB.out.size));clear b4;rw[show zJD.st=#[.int .i64 2,.int .i64 0,.int .i64 512,.int .i64 0]from rfl];go_wp2_with fail;refine(eD A.out.mch).mono ?_;rintro e _ ⟨rfl,rfl⟩;rw[show zJD.ex=1 from rfl];have d0:wh.cell? ⟨q11,0,none⟩=some (.int .i64 1):=(W11.out.cell 0).trans rfl;have d1:wh.cell? ⟨q11,1,none⟩=some (.int .i64 0):=(W11.out.cell 1).trans rfl;have d2:wh.cell? ⟨q11,2,none⟩=some (.int .i64 0):=(W11.out.cell 2).trans rfl;have d3:wh.cell? ⟨q11,3,none⟩=some (.int .i64 0):=(W11.out.cell 3).trans rfl;go_wp2_with fail;clear d0 d1 d2 d3;refine(uX B.out.mch).mono ?_;rintro e wi ⟨rfl,b4⟩;have A:=zW (A.out.step b4);have B:=zW (B.out.step b4);have W11:=zW (W11.out.step b4);have S:=zW (S.out.step b4);have BB:=zW (BB.out.trans (b4.mono BB.out.size));clear b4;rw[show(nX.st {pT with k:=0,c:=0,p:=0,y:=0})=#[.int .i64 0,.int .i64 0,.int .i64 0,.int .i64 0]from rfl];have e3:wi.cell? ⟨bs,3,none⟩=some (.int .u8 7):=(S.out.st.cell 3).trans ((mK d20b ms gs (j:=3) zYQ).trans rfl);have e17:wi.cell? ⟨bs,17,none⟩=some (.int .i64 514):=(S.out.st.cell 17).trans ((mK d20b ms gs (j:=17) zYQ).trans rfl);go_wp2_with fail;refine(YW _).mono ?_;rintro e wj ⟨rfl,b4⟩;have BB:=zW (BB.out.trans (b4.mono BB.out.size));clear b4 e3 e17;go_wp2_with fail;refine(KY _).mono ?_;rintro e wk ⟨rfl,b4⟩;have BB:=zW (BB.out.trans (b4.mono BB.out.size));go_wp2;go_returns;exact⟨rfl,BB.out⟩
theorem FJ(r l:Value)(q:Pr)(en:Bool)(hr:∃A n c,r=.slice A n c)(hl:∃A n c,l=.slice A n c):Tryz.prog.built 35 [(0,r),(1,l),(2,.agg (prc q)),(3,.bool en)]=some (cfC r l (.slice none 0 0) q en):=by
 obtain⟨A,n,c,rfl⟩:=hr;obtain⟨B,k,d,rfl⟩:=hl;unfold prc;kernel_rfl
theorem OR{c:Prop}[Decidable c]{x y:AS}{v:List Ev}(hx:x.ks=v)(hy:y.ks=v):(if c then x else y).ks=v:=by split<;>assumption
theorem ks_st(N:Nat)(a:AS)(op:Int)(x y n nn:Nat)(addr len:Int)(q:Pr):(stA N a op x y n nn addr len q).ks=a.ks:=by
 have hs:∀(b:AS) (t:Bool) (l:Int),(uO b t l).ks=b.ks:=fun b t l=>by unfold uO;split<;>rfl
 have hm:∀(b:AS) (k:Nat),(aN b op x y k q.ki).ks=b.ks:=fun b k=>by
  have h:(iE b op x y k).ks=b.ks:=by unfold iE;repeat' (first|rfl|refine OR ?_ ?_)
  unfold aN
  split
  ·exact h
  ·exact h
 have h0:(nxA a len).ks=a.ks:=rfl
 have hd:∀b:AS,(bK b op n).ks=b.ks:=fun b=>by unfold bK;repeat' (first|rfl|refine OR ?_ ?_)
 unfold stA
 split
 ·split
  ·rfl
  ·unfold stB;repeat' split
   all_goals (first|rfl|exact(hs ..).trans h0|exact(hm ..).trans h0|skip)
   all_goals (unfold NO;repeat' (first|exact hd (nxA a len)|refine OR ?_ ?_))
 ·rfl
theorem zXU(N:Nat)(s:nX)(a:AS):(cU N s a).ks=a.ks:=by
 unfold cU asM;split
 ·split
  ·exact ks_st ..
  ·rfl
 ·rfl
theorem Mch.off{base:Nat}{O:Nat→Prop}{mb n:Nat}{s:nX}{a:AS}{w:World}(H:Mch base O mb n s a w){q:Nat}{T:TypeId}{cs:Array Value}(hq:Blk q T cs w)(hT:T≠70∧T≠150∧T≠186∧T≠144∧T≠137∧T≠170∧T≠103):¬O q:=by
 have hb:=H.bs;obtain⟨b,m,g,p,mp,pg,v,en,l,h,k,H,rfl,_⟩:=H;exact(H.mr hb).off hq hT
theorem MI{s:nX}(a:AS)(e:Ev)(h:s.k≠1):t6 s a e=s∧rC s a e={a with ks:=a.ks++[e]}:=by
 have hr:rlM s a e=false:=by unfold rlM;rw[zU h,Bool.and_false]
 unfold t6 rC;rw[hr];exact⟨rfl,rfl⟩
theorem eW(N:Nat){s:nX}(a:AS)(h:s.k≠0):nmM s a=s∧cU N s a=a∧tL s a=false:=by
 unfold nmM cU tL;rw[zL h,zL h,zU h];exact⟨rfl,rfl,rfl⟩
theorem O9(N:Nat)(CS:uS N)(E0:d8 N)(A:Option Addr)(n c:Nat)(R:List Int)(B:Option Addr)(k d:Nat)(L:List Int)(q:Pr)(u:Nat)(EA:Option Addr)(ne ce:Nat)(l:List Ev)(w:World)(HA:JO w A n c R)(HB:JO w B k d L)(hu:u<256)(HE:AJ w EA ne ce l)(hL:xA w):
  Calls Tryz.prog 3 #[.slice A n c,.slice B k d,.agg (prc q),.int .u8 (u:Int),.slice EA ne ce] w fun e w'=>e=.returned (.bool true)∧Below w.heap.size w w':=by
 have CC:=zW CS;have EE:=zW E0;have LL:=zW hL;have GA:=zW HA;have GB:=zW HB;have GE:=zW HE;have HU:=zW hu;have AW:=zW (fun w h=>zV5 N CS E0 w h);obtain⟨r,hr⟩:∃r,zVM n k=r:=⟨_,rfl⟩;obtain⟨z,hz⟩:∃z,decide (1≤q.lv∧q.lv≤3)=z:=⟨_,rfl⟩;have FW:=zW (fun w=>hr▸SM A B n c k d (zR HA.cap HA.max) (zR HB.cap HB.max) w);have VA:=zW (fun w=>hz▸zZ9 q w);have HR:=zW hr;have HZ:=zW hz;have wu:IntKind.i64.wrap (u:Int)=(u:Int):=by rw[zO];omega
 clear CS E0 hL HA HB HE hu hr hz;obtain⟨P,hP⟩:∃P,prc q=P:=⟨_,rfl⟩;have sP:P.size=8:=by rw[←hP];rfl
 rw[hP]at VA;rw[hP];have EP:=zW hP;clear hP;go_enter Tryz.func3,Tryz.ntmps3;go_upto_region 0 with fail;refine zB ?_;refine lU rfl _ (.tmp 2) rfl P rfl ?_;simp only[Act.put,zQ,zZ,zJ];have K1:=zW (Blk.new w 24 P);have BB:=zW (lM w (.cells P 24));obtain⟨g0,hg0⟩:∃g,w.heap.size=g:=⟨_,rfl⟩;rw[hg0]at K1⊢;clear hg0;generalize World.alloc w _=w3 at K1 BB⊢;go_upto_region 1 with fail;have LC:=zW (fun x:lT w3=>LL.out.step (BB.out.trans (x.below.mono BB.out.size)));have CQ:=zW (lL K1.out);cases r<;>cases z<;>rcases(show(50:Int)<(ne:Int)∨¬(50:Int)<(ne:Int) by omega)with hne|hne
 rotate_left 7
 all_goals
  refine WJ ?_
  repeat(first
   |(refine mW iY CQ.out sP ?_ (.tmp 7) ?_ ?_ ?_;(focus rfl);(focus rfl);(focus(simp[Act.eval];done));simp only[Act.put,zQ,zZ,zJ])
   |go_big_quiet_step ((first|(go_at_call 8;exact mJ (AW.out _ (LC.out _)))|(go_at_call 9;exact mO (FW.out _))|(go_at_call 10;exact mJ (VA.out _)))))
  refine zY ?_
  intro _ hw'
  obtain⟨x,rfl⟩:=hw'
  have b1:=x.below
  generalize x.w=w4 at*
  have K1:=zW (K1.out.step b1)
  have BB:=zW (BB.out.trans (b1.mono BB.out.size))
  clear b1 LC CQ
 rotate_left 1
 all_goals try
  clear HR HZ FW VA
  go_wp2_with fail
  refine(AW.out _ (LL.out.step BB.out)).mono ?_
  rintro e w5 ⟨rfl,b1⟩
  have BB:=zW (BB.out.trans (b1.mono BB.out.size))
  clear b1
  go_wp2
  go_ret
  exact⟨rfl,BB.out⟩
 have HQ:=zW (qC HZ.out);have NK:=zW (show n≤2000∧k≤100 from by have h:=HR.out;unfold zVM at h;rw[zA]at h;exact⟨qC h.1,qC h.2⟩);have NE:=zW hne;clear HR HZ FW VA AW hne;go_upto_region 3 with fail;refine zB ?_;iterate 6 go_step
 refine lK iY K1.out sP rfl (.tmp 7) rfl rfl ?_;simp only[Act.put,zQ,zZ,zJ];rw[←EP.out];refine mX (cs:=cfC (.slice A n c) (.slice B k d) (.slice none 0 0) q true) rfl rfl (by simp[Act.eval];exact FJ _ _ q true ⟨A,n,c,rfl⟩ ⟨B,k,d,rfl⟩) ?_;simp only[Act.put,zQ,zZ,zJ];rw[EP.out];go_wp2_with fail;refine(newE N CC.out (q:=q) (en:=true) (LL.out.step BB.out) (GA.out.rd.below BB.out) GA.out.len (by have:=NK.out;omega) (GB.out.rd.below BB.out) GB.out.len (by have:=NK.out;omega) (gE.2 GA.out.bd) (gE.2 GB.out.bd) (Fls.nil _ _) rfl HQ.out).mono ?_;rintro e w5 ⟨mb,O,rfl,X,b5⟩;have X:=zW X.mch;have LB:=zW BB.out.size;have BB:=zW (BB.out.trans (b5.mono BB.out.size));clear b5 K1;obtain⟨ba,hba⟩:∃b,w4.heap.size=b:=⟨_,rfl⟩;rw[hba]at X LB;clear hba;have BA:=zW (zF LL.out.lt LB.out);go_wp2_with fail;go_loopw [13] (fun i wr=>∃j:Nat,j≤u∧i=.int .i64 (j:Int)∧Below w.heap.size w wr∧∃O s a,Mch ba O mb j s a wr∧Fz s∧s.ex≤(j:Int)∧a.ks=[]) (fun i _=>u-(intOf i).toNat)
 case atStart=>exact⟨0,qI _,rfl,BB.out,O,_,_,X.out,fz_ini q,Int.le_refl _,rfl⟩
 case round=>
  clear X BB
  obtain⟨j,hj,rfl,hB,O,s,a,hX,hf,hex,hks⟩:=hrel
  have BB:=zW hB
  have X:=zW hX
  have FX:=zW (zM hf (zM hex hks))
  clear hB hX hf hex hks
  by_cases hlt:j<u
  ·have ji:(j:Int)<(u:Int):=zYQ
   have j8:(j:Int)≤255:=by have:=HU.out;omega
   have JX:=zW hlt
   go_wp2_with fail
   refine(oH N EE.out X.out (LL.out.step BB.out) BA.out (by have:=FX.out.2.1;omega) zYQ).mono ?_
   rintro e w7 ⟨rfl,O',X',K7,_⟩
   have BB:=zW (BB.out.trans (X.out.below LB.out K7))
   have X:=zW X'
   clear X' K7
   go_wp2
   go_roundw
   case rel=>exact⟨j+1,JX.out,by go_num,BB.out,O',_,_,X.out,zX7 a FX.out.1,by have:=(zVN s a).2;have:=FX.out.2.1;omega,(zXU N s a).trans FX.out.2.2⟩
   case measure=>have:=JX.out;simp[intOf];omega
  ·have ji:¬(j:Int)<(u:Int):=zYQ
   have JU:=zW (show j=u by omega)
   clear hlt hj
   go_wp2_with fail
   refine(bC N CC.out X.out (LL.out.step BB.out)).mono ?_
   rintro e w7 ⟨bs,ms,gs,vs,rfl,rc,b7⟩
   have SZ:=zW (show∀i,nF bs ms gs vs i→¬O i from fun i h1 h2=>by have:=(rc.lt i h1).1;have:=(X.out.blt i h2).2;omega)
   obtain⟨sb,rc⟩:∃sb,RC sb ⟨0,a.M⟩ bs ms gs vs a w7:=⟨_,rc⟩
   have S:=zW rc
   have X:=zW (X.out.step b7)
   have BB:=zW (BB.out.trans (b7.mono BB.out.size))
   clear rc b7
   go_wp2_with fail
   refine(uX X.out).mono ?_
   rintro e w8 ⟨rfl,b8⟩
   have S:=zW (S.out.step b8)
   have X:=zW (X.out.step b8)
   have BB:=zW (BB.out.trans (b8.mono BB.out.size))
   clear b8
   simp only[]
   go_at_K
   iterate 1 go_step
   refine m5 (ds:=s.st) uH gW rfl rfl (wM _ _ _ _) rfl rfl rfl (.tmp 15) (.tmp 59) rfl zYZ zYZ ?_
   simp only[Act.put,zQ,zZ,zJ]
   have W15:=zW (Blk.new w8 39 s.st)
   have b8:=lM w8 (.cells s.st 39)
   have S:=zW (S.out.step b8)
   have X:=zW (X.out.step b8)
   have BB:=zW (BB.out.trans (b8.mono BB.out.size))
   clear b8
   obtain⟨q15,hq⟩:∃q,w8.heap.size=q:=⟨_,rfl⟩
   rw[hq]at W15⊢
   clear hq
   generalize World.alloc _ _=w9 at S X BB W15⊢
   go_wp2_with fail
   refine(eD X.out).mono ?_
   rintro e _ ⟨rfl,rfl⟩
   have d0:w9.cell? ⟨q15,0,none⟩=some (.int .i64 s.k):=(W15.out.cell 0).trans rfl
   have KR:=zW X.out.ok.k
   by_cases hk:s.k=2∨s.k=3
   ·have HK:=zW hk
    have hcase:(s.k !=2)=false∨((s.k !=2)=true∧(s.k !=3)=false):=by rcases hk with h|h<;>rw[h]<;>simp
    clear hk
    rcases hcase with h2|⟨h2,h3⟩
    all_goals (focus go_upto_region 15 with fail)
    all_goals
     try clear h3
     clear h2 d0
     go_wp2_with fail
     go_loopw [17] (fun i wr=>∃jj:Nat,jj≤ne∧i=.int .i64 (jj:Int)∧Below w.heap.size w wr∧∃O' K,Mch ba O' mb (j+jj) s {a with ks:=K} wr∧K.length≤jj∧(∀i,nF bs ms gs vs i→¬O' i)∧RC sb ⟨0,a.M⟩ bs ms gs vs a wr∧Blk q15 39 s.st wr) (fun i _=>ne-(intOf i).toNat)
     case atStart=>exact⟨0,qI _,rfl,BB.out,O,a.ks,X.out,by rw[FX.out.2.2];exact zH _,SZ.out,S.out,W15.out⟩
     case round=>
      clear X BB S W15 SZ
      obtain⟨jj,hjj,rfl,hB,O',K,hX,hK,hS,hR,hW⟩:=hrel
      have BB:=zW hB
      have X:=zW hX
      have SZ:=zW hS
      have S:=zW hR
      have W15:=zW hW
      have KL:=zW hK
      clear hB hX hS hR hW hK
      by_cases hll:jj<ne
      ·obtain⟨eb,o,rfl,heb,c1,c2,eok⟩:=(GE.out.ev.step BB.out).at_ jj (by rw[GE.out.ev.len];exact hll)
       generalize l[jj]'_=e at c1 c2 eok
       have jI:(jj:Int)<(ne:Int):=zYQ
       have j5:(jj:Int)≤50:=by have:=NE.out;omega
       have JX:=zW (zM hll eok)
       go_wp2_with fail
       refine(U7 X.out e (by have:=KL.out;show K.length<1000;omega)).mono ?_
       rintro x wa ⟨rfl,X',Ka⟩
       rw[(MI _ e zY0).1,(MI _ e zY0).2]at X'
       have S:=zW (S.out.keep Ka SZ.out X.out.u8)
       have W15:=zW (show Blk q15 39 s.st wa from(Ka.block q15 W15.out.lt (X.out.off W15.out ⟨by decide,by decide,by decide,by decide,by decide,by decide,by decide⟩)).trans W15.out)
       have BB:=zW (BB.out.trans (X.out.below LB.out Ka))
       have X:=zW X'
       clear X' Ka c1 c2
       go_wp2_with fail
       refine(oH N EE.out X.out (LL.out.step BB.out) BA.out (by have:=FX.out.2.1;have:=HU.out;have:=JU.out;show s.ex≤90000;omega) (by have:=HU.out;have:=JU.out;omega)).mono ?_
       rintro x wb ⟨rfl,O2,X',Kb,Gb⟩
       rw[(eW N _ zY0).2.2]
       rw[(eW N _ zY0).1,(eW N _ zY0).2.1]at X'
       have SZ2:=zW (show∀i,nF bs ms gs vs i→¬O2 i from fun i h1 h2=>(Gb i h2).elim (SZ.out i h1) fun h=>by have:=(S.out.lt i h1).2;omega)
       have S:=zW (S.out.keep Kb SZ.out X.out.u8)
       have W15:=zW (show Blk q15 39 s.st wb from(Kb.block q15 W15.out.lt (X.out.off W15.out ⟨by decide,by decide,by decide,by decide,by decide,by decide,by decide⟩)).trans W15.out)
       have BB:=zW (BB.out.trans (X.out.below LB.out Kb))
       have X:=zW X'
       clear X' Kb Gb
       go_wp2
       go_roundw
       case rel=>exact⟨jj+1,JX.out.1,by go_num,BB.out,O2,_,X.out,by have:=KL.out;simp;omega,SZ2.out,S.out,W15.out⟩
       case measure=>have:=JX.out.1;simp[intOf];omega
      ·have jI:¬(jj:Int)<(ne:Int):=zYQ
       have OKA:=zW (show a.dl<256∧a.sd<256 from⟨X.out.ok.ok.o.dl,X.out.ok.ok.o.sd⟩)
       go_wp2_with fail
       refine(EJ X.out).mono ?_
       rintro x wa ⟨rfl,X',Ka⟩
       have S:=zW (S.out.keep Ka SZ.out X.out.u8)
       have W15:=zW (show Blk q15 39 s.st wa from(Ka.block q15 W15.out.lt (X.out.off W15.out ⟨by decide,by decide,by decide,by decide,by decide,by decide,by decide⟩)).trans W15.out)
       have BB:=zW (BB.out.trans (X.out.below LB.out Ka))
       have X:=zW X'
       clear X' Ka
       go_wp2_with fail
       refine(bC N CC.out X.out (LL.out.step BB.out)).mono ?_
       rintro x wb ⟨bt,mt,gt,vt,rfl,rc,bb⟩
       have T:=zW rc
       have S:=zW (S.out.step bb)
       have W15:=zW (W15.out.step bb)
       have X:=zW (X.out.step bb)
       have BB:=zW (BB.out.trans (bb.mono BB.out.size))
       clear rc bb
       go_upto_region 25 with fail
       obtain⟨a',ha'⟩:∃a':AS,J6 {a with ks:=K}=a':=⟨_,rfl⟩
       have EA':=zW ha'
       rw[ha']at T
       clear ha'
       have MS:=zW (fun x:lT wb=>show Calls Tryz.prog 14 #[.pointer (some ⟨mb,0,none⟩)] x.w fun e w'=>e=.returned (.agg #[.int .i64 s.k,.int .i64 s.c,.int .i64 s.p,.int .i64 s.y])∧Below x.w.heap.size x.w w' from uX (X.out.step x.below))
       have ME:=zW (fun x:lT wb=>eD (X.out.step x.below))
       have MT:=zW (fun u=>J5 (a.dl:Int) (a.sd:Int) u zYQ (by have:=OKA.out;omega) zYQ (by have:=OKA.out;omega))
       rw[QC,QC]at MT
       have CW:=zW (lL (show Blk q15 39 #[.int .i64 s.k,.int .i64 s.c,.int .i64 s.p,.int .i64 s.y] wb from W15.out))
       have CT:=zW (lL T.out.st)
       have CV:=zW (lL S.out.st)
       have y3:=lT.cell (show wb.cell? ⟨q15,3,none⟩=some (.int .i64 (s.ex-1))from(W15.out.cell 3).trans (by rw[←FX.out.1 zY0];rfl)) W15.out.lt
       have t16:=lT.cell (show wb.cell? ⟨bt,16,none⟩=some (.int .i64 a.i)from(T.out.st.cell 16).trans ((mK _ mt gt (j:=16) zYQ).trans (by rw[←EA'.out];rfl))) T.out.st.lt
       have t17:=lT.cell (show wb.cell? ⟨bt,17,none⟩=some (.int .i64 a.pc)from(T.out.st.cell 17).trans ((mK _ mt gt (j:=17) zYQ).trans (by rw[←EA'.out];rfl))) T.out.st.lt
       have s16:=lT.cell (show wb.cell? ⟨bs,16,none⟩=some (.int .i64 a.i)from(S.out.st.cell 16).trans ((mK _ ms gs (j:=16) zYQ).trans rfl)) S.out.st.lt
       have s17:=lT.cell (show wb.cell? ⟨bs,17,none⟩=some (.int .i64 a.pc)from(S.out.st.cell 17).trans ((mK _ ms gs (j:=17) zYQ).trans rfl)) S.out.st.lt
       have wr:=show IntKind.i64.wrap (s.ex-1)=s.ex-1 from by have:=X.out.ok.ex;have:=FX.out.2.1;have:=HU.out;have:=JU.out;rw[zO];omega
       have ev:a'.v=a.v∧scA a'=scA a∧a'.dl=a.dl-1∧a'.sd=a.sd-1:=by rw[←EA'.out];exact⟨rfl,rfl,rfl,rfl⟩
       refine mP zYJ zYJ ?_
       simp only[List.append_eq,List.cons_append,List.nil_append]
       iterate 2 (go_big_quiet_step ((first|(go_at_call 14;exact mJ (MS.out _))|(go_at_call 15;exact mO (ME.out _))|(go_at_call 18;exact mJ (MT.out _)))))
       refine mW uH CW.out rfl rfl (.tmp 15) rfl zYL ?_
       simp only[Act.put,zQ,zZ,zJ]
       iterate 11 (go_big_quiet_step ((first|(go_at_call 14;exact mJ (MS.out _))|(go_at_call 15;exact mO (ME.out _))|(go_at_call 18;exact mJ (MT.out _)))))
       refine lW (o:=0) cP CT.out zYM rfl (.tmp 109) rfl zYL ?_
       rw[RI,ev.1]
       simp only[Act.put,zQ,zZ,zJ]
       iterate 3 (go_big_quiet_step ((first|(go_at_call 14;exact mJ (MS.out _))|(go_at_call 15;exact mO (ME.out _))|(go_at_call 18;exact mJ (MT.out _)))))
       refine lW (o:=0) cP CV.out zYM rfl (.tmp 113) rfl zYL ?_
       rw[RI]
       simp only[Act.put,zQ,zZ,zJ]
       refine BC (v:=a.v) rfl (.tmp 110) (.tmp 114) _ rfl zYL zYL ?_
       simp only[Act.put,zQ,zZ,zJ]
       iterate 27 (go_big_quiet_step ((first|(go_at_call 14;exact mJ (MS.out _))|(go_at_call 15;exact mO (ME.out _))|(go_at_call 18;exact mJ (MT.out _)))))
       refine lW (o:=36) vY CT.out zYM rfl (.tmp 142) rfl zYL ?_
       rw[xW,ev.2.1]
       simp only[Act.put,zQ,zZ,zJ]
       iterate 3 (go_big_quiet_step ((first|(go_at_call 14;exact mJ (MS.out _))|(go_at_call 15;exact mO (ME.out _))|(go_at_call 18;exact mJ (MT.out _)))))
       refine lW (o:=36) vY CV.out zYM rfl (.tmp 146) rfl zYL ?_
       rw[xW]
       simp only[Act.put,zQ,zZ,zJ]
       refine BP (LM (scA a)) rfl (.tmp 143) (.tmp 147) _ rfl zYL zYL ?_
       simp only[Act.put,zQ,zZ,zJ]
       iterate 5 (go_big_quiet_step ((first|(go_at_call 14;exact mJ (MS.out _))|(go_at_call 15;exact mO (ME.out _))|(go_at_call 18;exact mJ (MT.out _)))))
       refine lW (o:=566) fL CT.out zYM rfl (.tmp 153) rfl zYL ?_
       rw[ZO,ev.2.2.1,ev.2.2.2]
       simp only[Act.put,zQ,zZ,zJ]
       iterate 3 (go_big_quiet_step ((first|(go_at_call 14;exact mJ (MS.out _))|(go_at_call 15;exact mO (ME.out _))|(go_at_call 18;exact mJ (MT.out _)))))
       refine lW (o:=566) fL CV.out zYM rfl (.tmp 157) rfl zYL ?_
       rw[ZO]
       simp only[Act.put,zQ,zZ,zJ]
       iterate 11 (go_big_quiet_step ((first|(go_at_call 14;exact mJ (MS.out _))|(go_at_call 15;exact mO (ME.out _))|(go_at_call 18;exact mJ (MT.out _)))))
       refine zY ?_
       intro _ hw'
       obtain⟨x,rfl⟩:=hw'
       go_wp2
       go_returns
       exact⟨rfl,BB.out.trans (x.below.mono BB.out.size)⟩
   ·have h2:(s.k !=2)=true:=by simp;omega
    have h3:(s.k !=3)=true:=by simp;omega
    go_wp2
    go_returns
    exact⟨rfl,BB.out⟩
end
end Go.Proofs.YthknmadinmigfaaGreatDoor
