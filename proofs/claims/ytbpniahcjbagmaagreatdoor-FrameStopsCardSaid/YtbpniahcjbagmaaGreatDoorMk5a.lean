/- FrmEq, FrmOf, FrmRun, FrmAwD. -/
import Derived.Test.YtbpniahcjbagmaaGreatDoorMFrmRec
set_option maxRecDepth 400000
set_option maxHeartbeats 64000000
set_option linter.unusedVariables false
set_option linter.unusedSimpArgs false
namespace Go.Proofs.YtbpniahcjbagmaaGreatDoor
section
open Go.RowKit Num Dec Cpu
theorem JJ(t:TypeId)(hu:Tryz.prog.underlying t=some (.int .i64))(a:Int)(d:Nat)(w:World):(Op.equalIn (d+1) t (.int .i64 a) (.int .i64 a)).run Tryz.prog w=.ok true w:=by
 rw[run_equalIn_int w d t .i64 .i64 a a hu];simp
theorem UO(k c p y:Int)(d:Nat)(w:World):(Op.equalIn (d+3) 34 (.agg (yH k c p y)) (.agg (yH k c p y))).run Tryz.prog w=.ok true w:=by
 have ht:Tryz.prog.underlying 34=some (.struct (Tryz.prog.fieldsOf 34)):=zLP;have hp:Tryz.prog.stoodInHeld 34=false:=zLP;rw[run_equalIn_struct (P:=Tryz.prog) w (d+2) 34 _ _ ht hp];clear ht hp;simp only[Program.fieldsOf,Tryz.underlying34];refine xN (d+1) _ _ _ (.int .i64 k) w zLC (wM _ _ Tryz.underlying3 rfl _ _ _ rfl w) (JJ _ Tryz.underlying3 k (d+1) w) ?_;refine xN (d+1) _ _ _ (.int .i64 c) w zLC (wM _ _ Tryz.underlying32 rfl _ _ _ rfl w) (JJ _ Tryz.underlying32 c (d+1) w) ?_;refine xN (d+1) _ _ _ (.int .i64 p) w zLC (wM _ _ Tryz.underlying3 rfl _ _ _ rfl w) (JJ _ Tryz.underlying3 p (d+1) w) ?_;refine xN (d+1) _ _ _ (.int .i64 y) w zLC (wM _ _ Tryz.underlying3 rfl _ _ _ rfl w) (JJ _ Tryz.underlying3 y (d+1) w) ?_;simp[Op.eqFields]
theorem EU(r:dD)(d:Nat)(w:World):(Op.equalIn (d+7) 45 (.agg (m5 r)) (.agg (m5 r))).run Tryz.prog w=.ok true w:=by
 have ht:Tryz.prog.underlying 45=some (.struct (Tryz.prog.fieldsOf 45)):=zLP;have hp:Tryz.prog.stoodInHeld 45=false:=zLP;rw[run_equalIn_struct (P:=Tryz.prog) w (d+6) 45 _ _ ht hp];clear ht hp;have h0:(part 42 (m5 r) 0).run Tryz.prog w=.ok (.agg (xW r.P)) w:=by
  rw[xX (P:=Tryz.prog) 42 _ (m5 r) 0 512 w rfl Tryz.underlying42 zJR.i,VO]
 have h1:(part 4 (m5 r) 512).run Tryz.prog w=.ok (.bool r.hi) w:=wM _ _ Tryz.underlying4 rfl _ _ _ (wL r zLF) w;have h2:(part 4 (m5 r) 513).run Tryz.prog w=.ok (.bool r.so) w:=wM _ _ Tryz.underlying4 rfl _ _ _ (wL r zLF) w;have h3:(part 43 (m5 r) 514).run Tryz.prog w=.ok (.agg (pc r.pat)) w:=by
  rw[xX (P:=Tryz.prog) 43 _ (m5 r) 514 16 w rfl Tryz.underlying43 cU.i,zKK]
 have h4:(part 5 (m5 r) 530).run Tryz.prog w=.ok (.int .u8 r.pt) w:=wM _ _ Tryz.underlying5 rfl _ _ _ (wL r zLF) w;have h5:(part 34 (m5 r) 531).run Tryz.prog w=.ok (.agg (yH r.k r.c r.p r.y)) w:=by
  rw[xX (P:=Tryz.prog) 34 _ (m5 r) 531 4 w rfl Tryz.underlying34 rM.i,zKX]
 have e0:(Op.equalIn (d+6) 42 (.agg (xW r.P)) (.agg (xW r.P))).run Tryz.prog w=.ok true w:=by
  have h:=wX (P:=Tryz.prog) (d+5) 42 41 _ 4 128 (xW r.P) (xW r.P) (fun i=>wJ (r.P i) (r.P i)) rfl Tryz.underlying42 Tryz.underlying41 uC.i (fun i hi w=>by
   rw[zKW _ i hi];exact pV _ _ (d+1) w) w
  rw[h];congr 1
  rw[jV]
  exact fun i _=>zX0 fun _ _=>rfl
 have e1:∀b,(Op.equalIn (d+6) 4 (.bool b) (.bool b)).run Tryz.prog w=.ok true w:=fun b=>by rw[zWI b b (d+5)];simp
 have e3:(Op.equalIn (d+6) 43 (.agg (pc r.pat)) (.agg (pc r.pat))).run Tryz.prog w=.ok true w:=by rw[EO r.pat r.pat (d+4),zWA]
 have e4:(Op.equalIn (d+6) 5 (.int .u8 r.pt) (.int .u8 r.pt)).run Tryz.prog w=.ok true w:=by rw[BV _ _ (d+5)];simp
 have e5:=UO r.k r.c r.p r.y (d+3) w;generalize m5 r=C at*;generalize xW r.P=Q at*;simp only[Program.fieldsOf,Tryz.underlying45];refine xN (d+5) _ _ _ _ w zLC h0 e0 ?_;refine xN (d+5) _ _ _ _ w zLC h1 (e1 _) ?_;refine xN (d+5) _ _ _ _ w zLC h2 (e1 _) ?_;refine xN (d+5) _ _ _ _ w zLC h3 e3 ?_;refine xN (d+5) _ _ _ _ w zLC h4 e4 ?_;refine xN (d+5) _ _ _ _ w zLC h5 e5 ?_;simp[Op.eqFields]
theorem zWU(r:dD)(w:World):(binOp .eql 45 (.agg (m5 r)) (.agg (m5 r))).run Tryz.prog w=.ok (.bool true) w:=by
 have h:=EU r 9993 w;have e:(10000:Nat)=9993+7:=zLC;rw[run_eql_struct,e,h];simp only[Result.andThen_ok]
theorem W0:Tryz.prog.eqGuardType Tryz.prog.depth 45=false:=by kernel_rfl
theorem WI{o:Oper}{ρ:Operand→Value}{w:World}(x y:Operand)(z:TypeId)(ho:o.op=.binOp .eql 45 x y z)(r:dD)(hx:ρ x=.agg (m5 r))(hy:ρ y=.agg (m5 r)):(execOp ρ o).run Tryz.prog w=.ok (.value (.bool true)) w:=by
 unfold execOp;simp only[ho,hx,hy];rw[zA,zA,run_eqGuard_agg w .eql 45 x y (m5 r) (m5 r) W0,Result.andThen_ok,zWU,Result.andThen_ok,Sem.run_pure]
section
variable {ops:Array Oper} {C:World→Prop}
theorem M8{Q:Act→Prop}{o:Oper}{rest:List Oper}{a:Act}(r:dD)(hw:Region.wanted o (yielded ops a.tmps)=true)(x y:Operand)(z:TypeId)(ho:o.op=.binOp .eql 45 x y z)(hx:a.eval x=.agg (m5 r))(hy:a.eval y=.agg (m5 r))
  (h:wpQuiet Tryz.prog ops C Q rest (a.put o.dst (.bool true))):wpQuiet Tryz.prog ops C Q (o::rest) a:=
 rE hw (.bool true) (fun w' _=>WI x y z ho r hx hy) h
end
def xV(s:mR)(a:AS):dD:=⟨(scA a).P,a.hi,onT (a.sd:Int),ptA a,(a.pt:Int),s.k,s.c,s.p,s.y⟩
theorem fU{xs c:Array Value}{o m:Nat}(h:xs.extract o (o+m)=c){j:Nat}(hj:j<m):xs[o+j]?=c[j]?:=by
 rw[←h,jF];by_cases hs:o+j<xs.size
 ·rw[zN zLF]
 ·rw[zL zLF,zD zLF]
theorem NL{xs c d:Array Value}{o m k:Nat}(h:xs.extract o (o+m)=c)(hk:k≤m)(hs:o+m≤xs.size)(hd:d.size=k)(e:∀j,j<k→c[j]?=d[j]?):xs.extract o (o+k)=d:=by
 apply qZ
 intro j
 rw[jF];by_cases hj:j<k
 ·rw[zN zLF,fU h zLF,e j hj]
 ·rw[zL zLF,zD zLF]
theorem VZ(a:AS)(m g:Nat):(stC a m g).extract 36 (36+512)=xW (scA a).P:=NL (xD a m g) zLF (by rw[lG];omega) (gZ _) fun j hj=>by
 rw[mN _ _ zLF];unfold yZ xW;rw[zN hj];simp[hj]
theorem zXF(a:AS)(m g:Nat):(stC a m g).extract 568 (568+16)=pc (ptA a):=NL (dU a m g) zLF (by rw[lG];omega) (nX _) fun j hj=>by
 rw[dT _ _ _ hj,yT _ _ hj]
theorem EZ(a:AS)(m g:Nat):(stC a m g)[548]?=some (.bool a.hi):=(fU (xD a m g) (j:=512) zLF).trans (mN _ _ zLF)
theorem EQ(a:AS)(m g:Nat):(stC a m g)[584]?=some (.int .u8 (a.pt:Int)):=(fU (dU a m g) (j:=16) zLF).trans (by rw[wF _ _ _ zLF];rfl)
theorem NF(N:Nat)(C:xK N){base:Nat}{O:Nat→Prop}{mb n:Nat}{s:mR}{a:AS}{w:World}(H:Mch base O mb n s a w)(L:xQ w):
  Calls Tryz.prog 22 #[.pointer (some ⟨mb,0,none⟩)] w fun e w'=>e=.returned (.agg (m5 (xV s a)))∧Below w.heap.size w w':=by
 have X:=zW H;have CC:=zW C;have LL:=zW L;clear H C L;go_enter Tryz.func22,Tryz.ntmps22;go_upto_region 0 with fail;refine zB ?_;refine qG rfl fun K hK=>nD wE rfl (hK _ _ ?_);clear hK K;simp only[Act.put,zQ,zZ,zJ];refine wpList_nil ?_;have RV:=zW (Blk.new w 45 (m5 vE));have BB:=zW (lY w (.cells (m5 vE) 45));have X:=zW (X.out.step BB.out);obtain⟨gb,hgb⟩:∃k,w.heap.size=k:=⟨_,rfl⟩;have AT:=zW (show w.heap.size≤gb by omega);rw[hgb]at RV⊢;clear hgb;generalize World.alloc _ _=w1 at RV BB X⊢;go_wp2_with fail;refine(tY N CC.out X.out (LL.out.step BB.out)).mono ?_;rintro e w2 ⟨bs,ms,gs,vs,rfl,rc,b2⟩;have S:=zW rc;have X:=zW (X.out.step b2);have RV:=zW (RV.out.step b2);have BB:=zW (BB.out.trans (b2.mono BB.out.size));clear rc b2;go_upto_region 4 with fail;have CV:=zW (lL S.out.st);have k548:=lB.cell (show w2.cell? ⟨bs,548,none⟩=some (.bool a.hi)from(S.out.st.cell 548).trans (EZ a ms gs)) S.out.st.lt;have k584:=lB.cell (show w2.cell? ⟨bs,584,none⟩=some (.int .u8 (a.pt:Int))from(S.out.st.cell 584).trans (EQ a ms gs)) S.out.st.lt;refine lV (C:=fun w'=>∃u:lB w2,w'=u.w) 28 [([0,1,2,3,4,5,6,7,8,9,10,11,12,13,15,16,17,18,19,20,21,22,23,24,25],14,true),([],26,true)] [27] [] zLP zLP ?_ ?_ ⟨⟨w2.drew,(zG _ _).drew⟩,rfl⟩ ?_
 ·exact zMO
 ·exact zMA
 intro wd hwd;clear hwd;refine WH ?_;iterate 4 (go_big_quiet_step (fail))
 refine lW (o:=36) zJR CV.out zL0 rfl (.tmp 12) rfl zLS ?_;rw[VZ];simp only[Act.put,zQ,zZ,zJ];iterate 8 (go_big_quiet_step (fail))
 refine lW (o:=566) eS CV.out zL0 rfl (.tmp 21) rfl zLS ?_;rw[fR];simp only[Act.put,zQ,zZ,zJ];iterate 4 (go_big_quiet_step (fail))
 refine lW (o:=568) cU CV.out zL0 rfl (.tmp 27) rfl zLS ?_;rw[zXF];simp only[Act.put,zQ,zZ,zJ];iterate 6 (go_big_quiet_step (fail))
 refine zY ?_;refine lP (v:=.bool (onT (a.sd:Int))) (mM (g:=33) (caps:=#[]) (args:=#[.agg #[.int .u8 (a.dl:Int),.int .u8 (a.sd:Int)]]) (.func 33) _ _ rfl rfl (enters_of Tryz.func33 zLP rfl) (fun w' hw=>zXG _ _ w') rfl zLS) ?_;simp only[Act.put,zQ,zZ,zJ];refine lS zL4 zLA ?_;refine zY ?_;refine lP (v:=.agg (yH s.k s.c s.p s.y)) (mM (g:=13) (caps:=#[]) (args:=#[.pointer (some ⟨mb,0,none⟩)]) (.func 13) _ _ rfl rfl (enters_of Tryz.func13 zLP rfl) (fun w' hw=>by obtain⟨u,rfl⟩:=hw;exact gY (X.out.step u.below)) rfl zLS) ?_;simp only[Act.put,zQ,zZ,zJ];refine WN ?_;refine xF rfl rfl (by simp[Act.eval,Act.put];exact A9 (xV s a)) ?_;simp only[Act.put,zQ,zZ,zJ];refine zY ?_;refine lD rfl ?_;intro w5 g5 C5 K hK;obtain⟨u5,rfl⟩:=C5;have RV:=zW (RV.out.step u5.below);have BB:=zW (BB.out.trans (u5.below.mono BB.out.size));generalize u5.w=w5 at*;refine nM (ds:=m5 (xV s a)) uK RV.out (nJ _) (nJ _) (wY _) (.tmp 2) (.tmp 36) rfl zLS zLS ?_;have RW:=zW (RV.out.store (m5 (xV s a)));have BW:=zW (lA BB.out AT.out (m5 (xV s a)));clear RV BB;generalize World.setRow _ _ _=w6 at RW BW hK⊢;refine hK _ _ ?_;clear hK K;simp only[Act.put,zQ,zZ,zJ];try simp only[kA]
 refine zY ?_;intro w7 g7;have RW:=zW (RW.out.step g7);have BW:=zW (BW.out.trans (g7.mono BW.out.size));go_wp2_with fail;iterate 4 (try go_step)
 exact zP (zE rfl _ _ gb _ _ _ _ rfl RW.out Tryz.underlying45 rfl (by rw[uK.i,nJ])) rfl ⟨rfl,BW.out⟩
end
section
open Go.RowKit Go.Shelf Num Dec Cpu
def kyN(l:List Ev)(x:mR×AS):mR×AS:=l.foldl (fun y e=>(uU y.1 y.2 e,rY y.1 y.2 e)) x
theorem zLK(s:mR)(a:AS)(e:Ev):(uU s a e).ex=s.ex:=by unfold uU;split<;>rfl
theorem zLX(s:mR)(a:AS)(e:Ev):(rY s a e).ks.length=a.ks.length+1:=by show(a.ks++[e]).length=_;simp
theorem JP(l:List Ev)(x:mR×AS)(k:Nat)(e:Ev)(h:l[k]?=some e):kyN (l.take (k+1)) x=(uU (kyN (l.take k) x).1 (kyN (l.take k) x).2 e,rY (kyN (l.take k) x).1 (kyN (l.take k) x).2 e):=by
 unfold kyN;obtain⟨hk,he⟩:=kN.1 h;rw[kB hk,List.foldl_append,he];rfl
theorem eK{W:World}{l:Nat}{o:Obj}:lH (fun j=>j=l) W (W.putObj l o):=⟨rfl,rfl,rfl,by simp,fun k _ hn=>jX hn⟩
theorem E5{base:Nat}{O:Nat→Prop}{mb n:Nat}{s:mR}{a:AS}{w:World}(H:Mch base O mb n s a w)(EA:Option Addr)(ne ce:Nat)(nn:Int)(hn:nn<0∨65535<nn):
  Calls Tryz.prog 14 #[.pointer (some ⟨mb,0,none⟩),.slice EA ne ce,.int .i64 nn] w fun e w'=>e=.returned (.tuple #[.agg (m5 vE),.int .i64 5])∧Below w.heap.size w w':=by
 clear H;refine(callsIn_wide (n:=6)).1 ?_;refine callsIn_of_wp_marks Tryz.func14 rfl trivial ?_ rfl;simp only[Tryz.ntmps14,jZ,List.length_cons,List.length_nil,Nat.reduceAdd,Nat.reduceSub,qO,Array.replicate_zero,jK,q8,List.nil_append,List.cons_append];refine wpIn_wide.2 ?_;go_upto_region 0 with fail;refine zB ?_;refine qG rfl fun K hK=>nD wE rfl (hK _ _ ?_);clear hK K;simp only[Act.put,zQ,zZ,zJ];have RV:=zW (Blk.new w 45 (m5 vE));have BB:=zW (lY w (.cells (m5 vE) 45));obtain⟨gb,hgb⟩:∃k,w.heap.size=k:=⟨_,rfl⟩;have AT:=zW (show w.heap.size≤gb by omega);rw[hgb]at RV⊢;clear hgb;generalize World.alloc _ _=w1 at RV BB⊢;have hcase:(nn<0)∨(¬nn<0∧(65535:Int)<nn):=zLF;rcases hcase with h1|⟨h1,h2⟩
 all_goals (focus go_upto_region 2 with fail)
 all_goals
  refine zB ?_
  refine mZ (cs:=m5 vE) rfl rfl (by simp;exact RI) ?_
  simp only[Act.put,zQ,zZ,zJ]
  refine kO (ds:=m5 vE) uK RV.out (nJ _) (nJ _) (wY _) rfl (.tmp 6) (.tmp 17) rfl rfl rfl ?_
  simp only[Act.put,zQ,zZ,zJ]
  have RW:=zW (RV.out.store (m5 vE))
  have BW:=zW (lA BB.out AT.out (m5 vE))
  generalize World.setRow _ _ _=w2 at RW BW⊢
  go_wp2_with fail
  iterate 6 (try go_step)
  exact⟨_,mC rfl _ _ gb _ _ _ (.int .i64 5) rfl rfl RW.out uK (nJ _),rfl,BW.out⟩
theorem L4(mb:Nat)(nn:Int)(w:World):Calls Tryz.prog 27 #[.pointer (some ⟨mb,0,none⟩),.int .i64 nn] w fun e w'=>e=.returned (.func (.func 39) #[] #[.pointer (some ⟨w.heap.size+1,0,none⟩),.pointer (some ⟨w.heap.size,0,none⟩)])∧w'=(w.alloc (.cells #[.pointer (some ⟨mb,0,none⟩)] 29)).alloc (.cells #[.int .i64 nn] 3):=by
 go_enter Tryz.func27,Tryz.ntmps27;go_wp2;go_returns;simp
structure FrR(base:Nat)(O:Nat→Prop)(w w8:World)(mb n gb:Nat)(s:mR)(a:AS)(W:World):Prop where
 m:∃O',Mch base O' mb n s a W∧nS O O' w.heap.size∧¬O' (w8.heap.size+1)∧¬O' w8.heap.size
 k:lH O w W
 r:Blk gb 45 (m5 vE) W
 l:∃o,W.heap[w8.heap.size+1]?=some o∧o.isCells=false
 d:W.heap[w8.heap.size]?=some (.deferred (some []))
theorem o8(N:Nat)(CS:xK N)(E0:tU N){base:Nat}{O:Nat→Prop}{mb n:Nat}{s:mR}{a:AS}{w:World}(H:Mch base O mb n s a w)(L:xQ w)(hB:1<base)(EA:Option Addr)(ne ce:Nat)(l:List Ev)(HE:Evs w EA ne l)(hEO:∀ad,EA=some ad→0<ne→¬O ad.block)(hne:ne≤100)(nn:Nat)(hnn:nn≤65535)(hx:s.ex+(nn:Int)≤90000)(hn:n+nn≤90000)(hks:a.ks.length+ne<1000):
  Calls Tryz.prog 14 #[.pointer (some ⟨mb,0,none⟩),.slice EA ne ce,.int .i64 (nn:Int)] w fun e w'=>e=.returned (.tuple #[.agg (m5 (xV (frN N nn (kyN l (s,a)).1 (kyN l (s,a)).2).1 (frN N nn (kyN l (s,a)).1 (kyN l (s,a)).2).2)),.int .i64 0])∧∃O',Mch base O' mb (n+nn) (frN N nn (kyN l (s,a)).1 (kyN l (s,a)).2).1 (rD (frN N nn (kyN l (s,a)).1 (kyN l (s,a)).2).2) w'∧lH O w w'∧nS O O' w.heap.size:=by
 have HH:=zW H;have HC:=zW CS;have HS:=zW E0;have HL:=zW (fun u (k:lH O w u)=>L.below (k.below H.bs fun j hj=>(H.blt j hj).1) hB);have HBB:=zW hB;have HEV:=zW HE;have HX:=zW (zM hx (zM hn (zM hks hne)));have OLT:=zW (fun j (h:O j)=>(H.blt j h).2);have HEO:=zW hEO;clear H CS E0 L hB HE hx hn hks hEO;obtain⟨sy,ay,hy⟩:∃sy ay,kyN l (s,a)=(sy,ay):=⟨_,_,rfl⟩;have HY:=zW hy;rw[hy];clear hy;obtain⟨sf,af,hf⟩:∃sf af,frN N nn sy ay=(sf,af):=⟨_,_,rfl⟩;have HF:=zW hf;simp only[hf];clear hf;refine(callsIn_wide (n:=6)).1 ?_;refine callsIn_of_wp_marks Tryz.func14 rfl trivial ?_ rfl;simp only[Tryz.ntmps14,jZ,List.length_cons,List.length_nil,Nat.reduceAdd,Nat.reduceSub,qO,Array.replicate_zero,jK,q8,List.nil_append,List.cons_append];refine wpIn_wide.2 ?_;go_upto_region 0 with fail;refine zB ?_;refine qG rfl fun K hK=>nD wE rfl (hK _ _ ?_);clear hK K;simp only[Act.put,zQ,zZ,zJ];have RV:=zW (Blk.new w 45 (m5 vE));have KK:=zW (show lH O w (w.alloc (.cells (m5 vE) 45))from lH.of_below (lY w _));have X:=zW (HH.out.step (lY w (.cells (m5 vE) 45)));obtain⟨gb,hgb⟩:∃k,w.heap.size=k:=⟨_,rfl⟩;have AT:=zW (show w.heap.size≤gb by omega);rw[hgb]at RV⊢;clear hgb;generalize World.alloc _ _=w1 at RV KK X⊢;have r1:¬(nn:Int)<0:=zLF;have r2:¬(65535:Int)<(nn:Int):=zLF;go_wp2_with fail;go_loopw [20] (fun i wr=>∃k:Nat,k≤ne∧i=.int .i64 (k:Int)∧lH O w wr∧Mch base O mb n (kyN (l.take k) (s,a)).1 (kyN (l.take k) (s,a)).2 wr∧(kyN (l.take k) (s,a)).2.ks.length=a.ks.length+k∧(kyN (l.take k) (s,a)).1.ex=s.ex∧Blk gb 45 (m5 vE) wr) (fun i _=>ne-(intOf i).toNat)
 case atStart=>exact⟨0,qC _,rfl,KK.out,X.out,rfl,rfl,RV.out⟩
 case round=>
  clear X KK RV HH
  obtain⟨k,hk,rfl,hK,hX,hkl,hex,hR⟩:=hrel
  have KK:=zW hK
  have X:=zW hX
  have FF:=zW (zM hkl hex)
  have RV:=zW hR
  clear hK hX hkl hex hR
  obtain⟨sk,ak,hsa⟩:∃sk ak,kyN (l.take k) (s,a)=(sk,ak):=⟨_,_,rfl⟩
  have SA:=zW hsa
  rw[hsa]at X FF
  clear hsa
  by_cases hlt:k<ne
  ·have il:k<l.length:=by rw[HEV.out.len];exact hlt
   obtain⟨eb,o,rfl,heb,c1,c2,eok⟩:=HEV.out.at_ k il
   obtain⟨e,he⟩:∃e,l[k]=e:=⟨_,rfl⟩
   rw[he]at c1 c2 eok
   have EK:=zW (show l[k]?=some e from by rw[←he];exact zS il)
   have ebO:¬O eb:=HEO.out _ rfl zLF
   have c1:=(KK.out.cell (a:=⟨eb,o+k*2,none⟩) heb ebO).trans c1
   have c2:=(KK.out.cell (a:=⟨eb,o+k*2+1,none⟩) heb ebO).trans c2
   have ki:(k:Int)<(ne:Int):=zLF
   have k100:(k:Int)≤100:=zLF
   have JX:=zW hlt
   clear he il ebO
   have X5:=zW (lY wr (.cells #[.int .i64 e.k,.bool e.d] 69))
   have B5:=zW (Blk.new wr 69 #[.int .i64 e.k,.bool e.d])
   go_upto_region 6 with fail
   have X:=zW (X.out.step X5.out)
   have RV:=zW (RV.out.step X5.out)
   have KK:=zW (KK.out.trans (lH.of_below (O:=fun _=>False) X5.out) fun _ c=>c.elim)
   obtain⟨g5,hg5⟩:∃g,wr.heap.size=g:=⟨_,rfl⟩
   rw[hg5]at B5⊢
   clear hg5 X5 c1 c2
   generalize World.alloc _ _=w5 at X RV KK B5⊢
   have c1:w5.cell? ⟨g5,0,none⟩=some (.int .i64 e.k):=(B5.out.cell 0).trans rfl
   have c2:w5.cell? ⟨g5,1,none⟩=some (.bool e.d):=(B5.out.cell 1).trans rfl
   go_wp2_with fail
   refine(zQR X.out e (by rw[FF.out.1];have:=HX.out.2.2.1;have:=JX.out;omega)).mono ?_
   rintro x w6 ⟨rfl,X6,K6⟩
   have RV:=zW (show Blk gb 45 (m5 vE) w6 from(K6.block gb RV.out.lt (X.out.off RV.out ⟨by decide,by decide,by decide,by decide,by decide,by decide,by decide⟩)).trans RV.out)
   have KK:=zW (KK.out.trans K6 nS.refl)
   have X:=zW X6
   clear X6 K6 c1 c2
   go_wp2
   go_roundw
   case rel=>exact⟨k+1,JX.out,by go_num,KK.out,by rw[JP l _ k e EK.out,SA.out];exact X.out,by rw[JP l _ k e EK.out,SA.out];simp only;rw[zLX,FF.out.1];omega,by rw[JP l _ k e EK.out,SA.out];simp only;rw[zLK,FF.out.2],RV.out⟩
   case measure=>have:=JX.out;simp[intOf];omega
  ·have ki:¬(k:Int)<(ne:Int):=zLF
   have EK:=(show(sk,ak)=(sy,ay)from by rw[←SA.out,←HY.out,qW (by rw[HEV.out.len];omega)])
   injection EK with e1 e2
   subst e1 e2
   go_wp2_with fail
   refine(L4 mb (nn:Int) wr).mono ?_
   rintro x w8 ⟨rfl,hw8⟩
   have BM:=zW (show Blk wr.heap.size 29 #[.pointer (some ⟨mb,0,none⟩)] w8 from hw8▸(Blk.new wr 29 #[.pointer (some ⟨mb,0,none⟩)]).alloc _)
   have BI:=zW (show Blk (wr.heap.size+1) 3 #[.int .i64 (nn:Int)] w8 from by
    have h:=Blk.new (wr.alloc (.cells #[.pointer (some ⟨mb,0,none⟩)] 29)) 3 #[.int .i64 (nn:Int)];rw[zT,←hw8]at h;exact h)
   have b8:Below wr.heap.size wr w8:=by rw[hw8];exact((zG _ _).alloc (zH _) _).alloc zLI _
   have X:=zW (X.out.step b8)
   have RV:=zW (RV.out.step b8)
   have KK:=zW (KK.out.trans (lH.of_below (O:=fun _=>False) b8) fun _ c=>c.elim)
   clear hw8 b8
   generalize wr.heap.size=g8 at BM BI⊢
   go_wp2_with fail
   refine bO (gf:=39) (lb:=#[.pointer (some ⟨g8+1,0,none⟩),.pointer (some ⟨g8,0,none⟩)]) rfl (enters_of Tryz.func39 zLP rfl) rfl ?_ ?_ (FrR base O w w8 mb (n+nn) gb sf af) ?_ ?_
   ·intro l' W K hK
    gi_wp2
    exact hK
   ·intro l' W
    gi_wp2
    all_goals exact⟨rfl,rfl⟩
   ·intro l' o W1 hoc hl hW1 hY
    have b1:Below w8.heap.size w8 W1:=by rw[hW1];exact((zG _ _).alloc (zH _) _).alloc zLI _
    have sz1:W1.heap.size=w8.heap.size+2:=by rw[hW1];simp
    have hl1:W1.heap[l']?=some o:=by
     rw[hW1,hl];have h:=World.alloc_heap_new (w8.alloc (.deferred (some []))) o;rwa [zT]at h
    have hd1:W1.heap[w8.heap.size]?=some (.deferred (some [])):=by
     rw[hW1];exact(Below.heap_alloc _ _ _ zLI).trans (World.alloc_heap_new w8 _)
    have K1:=KK.out.trans (lH.of_below (O:=fun _=>False) b1) fun _ c=>c.elim
    have sw:=KK.out.size
    have nO:∀j,w8.heap.size≤j→¬O j:=fun j hj c=>by have:=OLT.out _ c;omega
    have X1:=X.out.step b1
    refine(DT N HS.out l' o hoc hY X1 (HL.out W1 K1) HBB.out nn (g8+1) g8 (BI.out.step b1) (BM.out.step b1) hl1 (nO _ zLF) (by rw[FF.out.2];exact HX.out.1) HX.out.2.1 hnn).mono ?_
    rintro e W' ⟨hv,hl2,O',X2,K2,G2⟩
    rw[HF.out]at X2
    refine⟨hv,hl2,⟨O',X2,fun j hj=>(G2 j hj).imp id fun h=>by omega,fun c=>(G2 _ c).elim (nO _ zLF) fun h=>by omega,fun c=>(G2 _ c).elim (nO _ zLF) fun h=>by omega⟩,K1.trans K2 nS.refl,?_,⟨o,by rw[←hl];exact hl2,hoc⟩,?_⟩
    ·exact(K2.block gb (RV.out.step b1).lt (X1.off (RV.out.step b1) ⟨by decide,by decide,by decide,by decide,by decide,by decide,by decide⟩)).trans (RV.out.step b1)
    ·exact(K2.block _ zLF (nO _ (zH _))).trans hd1
   ·intro W o hR
    obtain⟨⟨O',X2,G2,n1,n2⟩,k2,r2,⟨o',hl2,hoc2⟩,hd2⟩:=hR
    have gl:=RV.out.lt
    have sw:=KK.out.size
    have X:=zW (X2.keep (eK (l:=w8.heap.size+1) (o:=o)) (fun j hj e=>n1 (e▸hj)) (fun j e cs fr c=>by rw[e,hl2]at c;injection c with c;rw[c]at hoc2;cases hoc2))
    have RV:=zW (show Blk gb 45 (m5 vE) (W.putObj (w8.heap.size+1) o)from(jX zLF).trans r2)
    have KK:=zW (k2.trans (eK (l:=w8.heap.size+1) (o:=o)) fun j e=> .inr zLF)
    have HD:=zW (show(W.putObj (w8.heap.size+1) o).heap[w8.heap.size]?=some (.deferred (some []))from(jX zLF).trans hd2)
    have GG:=zW (zM G2 n2)
    have DW:=zW (show w.heap.size≤w8.heap.size∧gb<w8.heap.size from⟨sw,gl⟩)
    clear X2 G2 n1 n2 k2 r2 hl2 hoc2 hd2 gl sw BM BI
    generalize w8.heap.size=D at*
    generalize W.putObj _ _=w9 at*
    go_wp2_with fail
    refine(NF N HC.out X.out (HL.out _ KK.out)).mono ?_
    rintro e wa ⟨rfl,ba⟩
    have X:=zW (X.out.step ba)
    have RV:=zW (RV.out.step ba)
    have HD:=zW ((ba.block D (qX.1 HD.out).1).trans HD.out)
    have KK:=zW (KK.out.trans (lH.of_below (O:=fun _=>False) ba) fun _ c=>c.elim)
    clear ba
    obtain⟨C,hC⟩:∃C,m5 (xV sf af)=C:=⟨_,rfl⟩
    have CE:=zW (show C.size=535∧nI C∧m5 (xV sf af)=C from by rw[←hC];exact⟨nJ _,wY _,rfl⟩)
    rw[hC]
    clear hC
    simp only[]
    go_at_K
    iterate 1 go_step
    refine mA (ds:=C) uK wE (nJ _) CE.out.1 CE.out.2.1 rfl rfl rfl (.tmp 10) (.tmp 32) rfl zLS zLS ?_
    simp only[Act.put,zQ,zZ,zJ]
    have R10:=zW (Blk.new wa 45 C)
    have ba:=lY wa (.cells C 45)
    have X:=zW (X.out.step ba)
    have RV:=zW (RV.out.step ba)
    have HD:=zW ((ba.block D (qX.1 HD.out).1).trans HD.out)
    have KK:=zW (KK.out.trans (lH.of_below (O:=fun _=>False) ba) fun _ c=>c.elim)
    clear ba
    obtain⟨g10,hg⟩:∃q,wa.heap.size=q:=⟨_,rfl⟩
    rw[hg]at R10⊢
    clear hg
    generalize World.alloc _ _=wb at X RV HD KK R10⊢
    go_wp2_with fail
    refine(PN X.out).mono ?_
    rintro e wc ⟨rfl,Xc,Kc⟩
    have RV:=zW (show Blk gb 45 (m5 vE) wc from(Kc.block gb RV.out.lt (X.out.off RV.out ⟨by decide,by decide,by decide,by decide,by decide,by decide,by decide⟩)).trans RV.out)
    have R10:=zW (show Blk g10 45 C wc from(Kc.block g10 R10.out.lt (X.out.off R10.out ⟨by decide,by decide,by decide,by decide,by decide,by decide,by decide⟩)).trans R10.out)
    have HD:=zW ((Kc.block D (qX.1 HD.out).1 GG.out.2).trans HD.out)
    have KK:=zW (KK.out.trans Kc GG.out.1)
    have X:=zW Xc
    clear Xc Kc
    go_upto_region 11 with fail
    refine zB ?_
    refine lJ uK R10.out CE.out.1 rfl (.tmp 10) rfl rfl ?_
    simp only[Act.put,zQ,zZ,zJ]
    refine kO (ds:=C) uK RV.out (nJ _) CE.out.1 CE.out.2.1 rfl (.tmp 6) (.tmp 35) rfl rfl rfl ?_
    simp only[Act.put,zQ,zZ,zJ]
    have RW:=zW (RV.out.store C)
    have XW:=zW (X.out.keep (wH (b:=gb) (cs:=C)) (fun j hj e=>X.out.off RV.out ⟨by decide,by decide,by decide,by decide,by decide,by decide,by decide⟩ (e▸hj)) (fun j e=>e▸KV RV.out zLC))
    have KW:=zW (KK.out.trans (wH (b:=gb) (cs:=C) (w:=wc)) fun j e=> .inr (e▸AT.out))
    have HD:=zW (show(wc.setRow gb C).heap[D]?=some (.deferred (some []))from(zO _ _ _ _ (by have:=DW.out.2;omega)).trans HD.out)
    generalize World.setRow _ _ _=wd at RW XW KW HD⊢
    go_wp2_with fail
    iterate 6 (try go_step)
    refine⟨by simp,.inl ⟨_,_,rfl,run_takeDeferred HD.out,?_⟩⟩
    refine⟨_,mC rfl _ _ gb _ _ _ (.int .i64 0) rfl rfl ((jX (by have:=DW.out.2;omega)).trans RW.out) uK CE.out.1,by rw[CE.out.2.2],O',?_,KW.out.trans (eK (l:=D)) fun j e=> .inr (by have:=DW.out.1;omega),GG.out.1⟩
    exact XW.out.keep (eK (l:=D)) (fun j hj e=>GG.out.2 (e▸hj)) (fun j e cs fr c=>by rw[e,HD.out]at c;cases c)
theorem sK(N:Nat)(CS:xK N)(E0:tU N){base:Nat}{O:Nat→Prop}{mb n:Nat}{s:mR}{a:AS}{w:World}(H:Mch base O mb n s a w)(L:xQ w)(hB:1<base)(EA:Option Addr)(ne ce:Nat)(l:List Ev)(HE:Evs w EA ne l)(hEO:∀ad,EA=some ad→¬O ad.block)(hne:ne≤100)(nn:Nat)(hnn:nn≤65535)(hx:s.ex+(nn:Int)≤90000)(hn:n+nn≤90000)(hks:a.ks.length+ne<1000):
  Calls Tryz.prog 14 #[.pointer (some ⟨mb,0,none⟩),.slice EA ne ce,.int .i64 (nn:Int)] w fun e w'=>e=.returned (.tuple #[.agg (m5 (xV (frN N nn (kyN l (s,a)).1 (kyN l (s,a)).2).1 (frN N nn (kyN l (s,a)).1 (kyN l (s,a)).2).2)),.int .i64 0])∧∃O',Mch base O' mb (n+nn) (frN N nn (kyN l (s,a)).1 (kyN l (s,a)).2).1 (rD (frN N nn (kyN l (s,a)).1 (kyN l (s,a)).2).2) w'∧lH O w w'∧nS O O' w.heap.size:=
 o8 N CS E0 H L hB EA ne ce l HE (fun ad h _=>hEO ad h) hne nn hnn hx hn hks
end
section
open Go.RowKit Num Dec Cpu
def R21:List Int:=[97,2,241,24,241,21,18,6]
theorem YV:Bts R21:=by
 unfold R21;exact uD zLC (uD zLC (uD zLC (uD zLC (uD zLC (uD zLC (uD zLC (uD zLC BF)))))))
def dG:AS:=uB R21 []
def fL:AS:={dG with v:=Cpu.upd (fun _=>0) 1 2,pc:=514}
def fY:AS:={fL with sd:=2,pc:=516}
def fW:AS:={fY with dl:=2,pc:=518}
def e21:Ev:=⟨3,true⟩
def tG:AS:={rD fW with ks:=[e21]}
def s21(k:Int):mR:=⟨t6,0,0,0,0,0,k⟩
theorem dec21a(b2 b3:Nat):dec 97 2 b2 b3 1=⟨8,1,0,0,2,0,2⟩:=rfl
theorem dec21b(b2 b3:Nat):dec 241 24 b2 b3 1=⟨29,1,0,0,0,0,2⟩:=rfl
theorem dec21c(b2 b3:Nat):dec 241 21 b2 b3 1=⟨28,1,0,0,0,0,2⟩:=rfl
theorem dec21d(b2 b3:Nat):dec 18 6 b2 b3 1=⟨3,0,0,0,0,518,2⟩:=rfl
theorem zQ9:yA (s21 0) dG=⟨8,1,0,0,2,0,2⟩:=fO R21 zLC YV 0 97 2 rfl rfl 1 _ dec21a
theorem zLZ:okM (s21 0) dG=true:=rfl
theorem zLL:efM (s21 0) dG=⟨0,false,false,false⟩:=by
 unfold efM;rw[zN zLZ,zQ9];show efA dG 8 1 0 0 t6=_;unfold efA;rw[show caA dG 8 1 0 0 t6=0 from rfl];rfl
theorem nm21a:nmM (s21 0) dG=s21 1:=by
 unfold nmM;rw[zN (show(s21 0).k=0 from rfl),zLL];rfl
theorem st21a(N:Nat):vA N (s21 0) dG=fL:=by
 unfold vA asM;rw[zN (show(s21 0).k=0 from rfl),zN zLZ,zQ9];show stA N dG 8 1 0 0 2 0 2 t6=_;unfold stA;rw[show caA dG 8 1 0 0 t6=0 from rfl];rfl
theorem dr21a:uT (s21 0) dG=false:=by unfold uT;rw[zLL];rfl
theorem zQ8:yA (s21 1) fL=⟨29,1,0,0,0,0,2⟩:=fO R21 zLC YV 2 241 24 rfl rfl 1 _ dec21b
theorem zLQ:okM (s21 1) fL=true:=rfl
theorem zLY:efM (s21 1) fL=⟨0,false,false,false⟩:=by
 unfold efM;rw[zN zLQ,zQ8];show efA fL 29 1 0 0 t6=_;unfold efA;rw[show caA fL 29 1 0 0 t6=0 from rfl];rfl
theorem nm21b:nmM (s21 1) fL=s21 2:=by
 unfold nmM;rw[zN (show(s21 1).k=0 from rfl),zLY];rfl
theorem st21b(N:Nat):vA N (s21 1) fL=fY:=by
 unfold vA asM;rw[zN (show(s21 1).k=0 from rfl),zN zLQ,zQ8];show stA N fL 29 1 0 0 0 0 2 t6=_;unfold stA;rw[show caA fL 29 1 0 0 t6=0 from rfl];rfl
theorem dr21b:uT (s21 1) fL=false:=by unfold uT;rw[zLY];rfl
theorem zQ7:yA (s21 2) fY=⟨28,1,0,0,0,0,2⟩:=fO R21 zLC YV 4 241 21 rfl rfl 1 _ dec21c
theorem zY9:okM (s21 2) fY=true:=rfl
theorem zLW:efM (s21 2) fY=⟨0,false,false,false⟩:=by
 unfold efM;rw[zN zY9,zQ7];show efA fY 28 1 0 0 t6=_;unfold efA;rw[show caA fY 28 1 0 0 t6=0 from rfl];rfl
theorem nm21c:nmM (s21 2) fY=s21 3:=by
 unfold nmM;rw[zN (show(s21 2).k=0 from rfl),zLW];rfl
theorem st21c(N:Nat):vA N (s21 2) fY=fW:=by
 unfold vA asM;rw[zN (show(s21 2).k=0 from rfl),zN zY9,zQ7];show stA N fY 28 1 0 0 0 0 2 t6=_;unfold stA;rw[show caA fY 28 1 0 0 t6=0 from rfl];rfl
theorem dr21c:uT (s21 2) fY=false:=by unfold uT;rw[zLW];rfl
theorem zQ6:yA (s21 3) tG=⟨3,0,0,0,0,518,2⟩:=fO R21 zLC YV 6 18 6 rfl rfl 1 _ dec21d
theorem zY8:okM (s21 3) tG=true:=rfl
theorem zLV:efM (s21 3) tG=⟨0,false,false,false⟩:=by
 unfold efM;rw[zN zY8,zQ6];show efA tG 3 0 0 0 t6=_;unfold efA;rw[show caA tG 3 0 0 0 t6=0 from rfl];rfl
theorem nm21d:nmM (s21 3) tG=s21 4:=by
 unfold nmM;rw[zN (show(s21 3).k=0 from rfl),zLV];rfl
theorem st21d(N:Nat):vA N (s21 3) tG=tG:=by
 unfold vA asM;rw[zN (show(s21 3).k=0 from rfl),zN zY8,zQ6];show stA N tG 3 0 0 0 0 518 2 t6=_;unfold stA;rw[show caA tG 3 0 0 0 t6=0 from rfl];rfl
theorem dr21d:uT (s21 3) tG=false:=by unfold uT;rw[zLV];rfl
theorem fr21a(N:Nat):frN N 3 (s21 0) dG=(s21 3,fW):=by
 unfold frN;rw[zL zLC,zL (by rw[dr21a];decide),nm21a,st21a];unfold frN;rw[zL zLC,zL (by rw[dr21b];decide),nm21b,st21b];unfold frN;rw[zL zLC,zL (by rw[dr21c];decide),nm21c,st21c];rfl
theorem fr21d(N:Nat):frN N 1 (s21 3) tG=(s21 4,tG):=by
 unfold frN;rw[zL zLC,zL (by rw[dr21d];decide),nm21d,st21d];rfl
theorem ky21:kyN [e21] (s21 3,rD fW)=(s21 3,tG):=by
 have h:rlM (s21 3) (rD fW) e21=false:=zLC;show(uU (s21 3) (rD fW) e21,rY (s21 3) (rD fW) e21)=_;unfold uU rY;rw[h];rfl
theorem WT(N:Nat)(CS:xK N){base:Nat}{O:Nat→Prop}{mb n:Nat}{s:mR}{a:AS}{w:World}(H:Mch base O mb n s a w)(L:xQ w)(h0:a.dl=0∧a.sd=0)(nn:Nat)(hn:nn≤1000):
  Calls Tryz.prog 23 #[.pointer (some ⟨mb,0,none⟩),.int .i64 (nn:Int)] w fun e w'=>e=.returned (.int .i64 0)∧Below w.heap.size w w':=by
 have X:=zW H;have SP:=zW (tY N CS H L);have Z:=zW h0;have LF:=zW (fun u=>zQO 0 0 u zLC zLC zLC zLC);have hm:min (nn:Int) 0=0:=zLF;clear H CS L h0;go_enter Tryz.func23,Tryz.ntmps23;go_wp2_with fail;refine SP.out.mono ?_;rintro e w2 ⟨bs,ms,gs,vs,rfl,rc,b2⟩;have S:=zW rc;have BB:=zW b2;clear rc b2;go_upto_region 5 with fail;refine zB ?_;iterate 12 go_step
 refine vL (o:=566) eS S.out.st zL0 rfl (.tmp 16) rfl rfl ?_;rw[fR,Z.out.1,Z.out.2];simp only[Act.put,zQ,zZ,zJ];go_wp2_with fail;refine(LF.out _).mono ?_;rintro e w3 ⟨rfl,b3⟩;have BB:=zW (BB.out.trans (b3.mono BB.out.size));clear b3;go_wp2_with fail;go_loopw [6,20] (fun j i wr=>j=.int .i64 0∧i=.int .i64 0∧wr=w3) (fun _ _ _=>0)
 case atStart=>exact⟨rfl,rfl,rfl⟩
 case round=>
  obtain⟨rfl,rfl,rfl⟩:=hrel
  go_wp2
  go_returns
  exact⟨rfl,BB.out⟩
theorem MP.lower{base base2 mb b m g p mp h k:Nat}{pg:Nat→Option Nat}{v:Value}{en:Bool}{l:m6}{s:mR}{a:AS}{w:World}(H:MP base mb b m g p mp pg v en l h k s a w)(hb:base2≤base):MP base2 mb b m g p mp pg v en l h k s a w:=
 ⟨H.bk,H.rc.down hb,H.co,H.fl,H.ok,zR hb H.low.1,zR hb H.low.2.1,fun j hj=>zR hb (H.low.2.2 j hj)⟩
theorem Mch.lower{base base2:Nat}{O:Nat→Prop}{mb n:Nat}{s:mR}{a:AS}{w:World}(H:Mch base O mb n s a w)(hb:base2≤base):Mch base2 O mb n s a w:=by
 obtain⟨b,m,g,p,mp,pg,v,en,l,h,k,H,r⟩:=H;exact⟨b,m,g,p,mp,pg,v,en,l,h,k,H.lower hb,r⟩
end
end Go.Proofs.YtbpniahcjbagmaaGreatDoor
