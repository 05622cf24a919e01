/- FrmEq, FrmOf, FrmRun, FrmAwD. -/
import Derived.Test.YtbpniahcjbagmaaGreatDoorMFrmRec
set_option maxRecDepth 400000
set_option maxHeartbeats 64000000
set_option linter.unusedVariables false
set_option linter.unusedSimpArgs false
namespace Go.Proofs.YtbpniahcjbagmaaGreatDoor
section
open Go.RowKit Num Dec Cpu
theorem MD(t:TypeId)(hu:Tryz.prog.underlying t=some (.int .i64))(a:Int)(d:Nat)(w:World):(Op.equalIn (d+1) t (.int .i64 a) (.int .i64 a)).run Tryz.prog w=.ok true w:=by
 rw[run_equalIn_int w d t .i64 .i64 a a hu];simp
theorem Y3(k c p y:Int)(d:Nat)(w:World):(Op.equalIn (d+3) 34 (.agg (xN k c p y)) (.agg (xN k c p y))).run Tryz.prog w=.ok true w:=by
 have ht:Tryz.prog.underlying 34=some (.struct (Tryz.prog.fieldsOf 34)):=zGV;have hp:Tryz.prog.stoodInHeld 34=false:=zGV;rw[run_equalIn_struct (P:=Tryz.prog) w (d+2) 34 _ _ ht hp];clear ht hp;simp only[Program.fieldsOf,Tryz.underlying34];refine yK (d+1) _ _ _ (.int .i64 k) w zGL (rN _ _ Tryz.underlying3 rfl _ _ _ rfl w) (MD _ Tryz.underlying3 k (d+1) w) ?_;refine yK (d+1) _ _ _ (.int .i64 c) w zGL (rN _ _ Tryz.underlying32 rfl _ _ _ rfl w) (MD _ Tryz.underlying32 c (d+1) w) ?_;refine yK (d+1) _ _ _ (.int .i64 p) w zGL (rN _ _ Tryz.underlying3 rfl _ _ _ rfl w) (MD _ Tryz.underlying3 p (d+1) w) ?_;refine yK (d+1) _ _ _ (.int .i64 y) w zGL (rN _ _ Tryz.underlying3 rfl _ _ _ rfl w) (MD _ Tryz.underlying3 y (d+1) w) ?_;simp[Op.eqFields]
theorem UN(r:cE)(d:Nat)(w:World):(Op.equalIn (d+7) 45 (.agg (nQ r)) (.agg (nQ r))).run Tryz.prog w=.ok true w:=by
 have ht:Tryz.prog.underlying 45=some (.struct (Tryz.prog.fieldsOf 45)):=zGV;have hp:Tryz.prog.stoodInHeld 45=false:=zGV;rw[run_equalIn_struct (P:=Tryz.prog) w (d+6) 45 _ _ ht hp];clear ht hp;have h0:(part 42 (nQ r) 0).run Tryz.prog w=.ok (.agg (cY r.P)) w:=by
  rw[xU (P:=Tryz.prog) 42 _ (nQ r) 0 512 w rfl Tryz.underlying42 XA.i,oR]
 have h1:(part 4 (nQ r) 512).run Tryz.prog w=.ok (.bool r.hi) w:=rN _ _ Tryz.underlying4 rfl _ _ _ (bG r zGX) w;have h2:(part 4 (nQ r) 513).run Tryz.prog w=.ok (.bool r.so) w:=rN _ _ Tryz.underlying4 rfl _ _ _ (bG r zGX) w;have h3:(part 43 (nQ r) 514).run Tryz.prog w=.ok (.agg (pc r.pat)) w:=by
  rw[xU (P:=Tryz.prog) 43 _ (nQ r) 514 16 w rfl Tryz.underlying43 xP.i,zYO]
 have h4:(part 5 (nQ r) 530).run Tryz.prog w=.ok (.int .u8 r.pt) w:=rN _ _ Tryz.underlying5 rfl _ _ _ (bG r zGX) w;have h5:(part 34 (nQ r) 531).run Tryz.prog w=.ok (.agg (xN r.k r.c r.p r.y)) w:=by
  rw[xU (P:=Tryz.prog) 34 _ (nQ r) 531 4 w rfl Tryz.underlying34 wV.i,M9]
 have e0:(Op.equalIn (d+6) 42 (.agg (cY r.P)) (.agg (cY r.P))).run Tryz.prog w=.ok true w:=by
  have h:=yF (P:=Tryz.prog) (d+5) 42 41 _ 4 128 (cY r.P) (cY r.P) (fun i=>wC (r.P i) (r.P i)) rfl Tryz.underlying42 Tryz.underlying41 wP.i (fun i hi w=>by
   rw[AR _ i hi];exact bW _ _ (d+1) w) w
  rw[h];congr 1
  rw[jJ]
  exact fun i _=>AM fun _ _=>rfl
 have e1:∀b,(Op.equalIn (d+6) 4 (.bool b) (.bool b)).run Tryz.prog w=.ok true w:=fun b=>by rw[zNB b b (d+5)];simp
 have e3:(Op.equalIn (d+6) 43 (.agg (pc r.pat)) (.agg (pc r.pat))).run Tryz.prog w=.ok true w:=by rw[UH r.pat r.pat (d+4),zNG]
 have e4:(Op.equalIn (d+6) 5 (.int .u8 r.pt) (.int .u8 r.pt)).run Tryz.prog w=.ok true w:=by rw[IQ _ _ (d+5)];simp
 have e5:=Y3 r.k r.c r.p r.y (d+3) w;generalize nQ r=C at*;generalize cY r.P=Q at*;simp only[Program.fieldsOf,Tryz.underlying45];refine yK (d+5) _ _ _ _ w zGL h0 e0 ?_;refine yK (d+5) _ _ _ _ w zGL h1 (e1 _) ?_;refine yK (d+5) _ _ _ _ w zGL h2 (e1 _) ?_;refine yK (d+5) _ _ _ _ w zGL h3 e3 ?_;refine yK (d+5) _ _ _ _ w zGL h4 e4 ?_;refine yK (d+5) _ _ _ _ w zGL h5 e5 ?_;simp[Op.eqFields]
theorem EH:Tryz.prog.eqGuardType Tryz.prog.depth 45=false:=by kernel_rfl
section
variable {ops:Array Oper} {C:World→Prop}
end
def xI(s:mR)(a:AS):cE:=⟨(scA a).P,a.hi,onT (a.sd:Int),ptA a,(a.pt:Int),s.k,s.c,s.p,s.y⟩
theorem NL{xs c:Array Value}{o m:Nat}(h:xs.extract o (o+m)=c){j:Nat}(hj:j<m):xs[o+j]?=c[j]?:=by
 rw[←h,jS];by_cases hs:o+j<xs.size
 ·rw[zN zGX]
 ·rw[zL zGX,zF zGX]
theorem VR{xs c d:Array Value}{o m k:Nat}(h:xs.extract o (o+m)=c)(hk:k≤m)(hs:o+m≤xs.size)(hd:d.size=k)(e:∀j,j<k→c[j]?=d[j]?):xs.extract o (o+k)=d:=by
 apply qH
 intro j
 rw[jS];by_cases hj:j<k
 ·rw[zN zGX,NL h zGX,e j hj]
 ·rw[zL zGX,zF zGX]
theorem T8(a:AS)(m g:Nat):(stC a m g).extract 36 (36+512)=cY (scA a).P:=VR (yN a m g) zGX (by rw[lI];omega) (tZ _) fun j hj=>by
 rw[mA _ _ zGX];unfold yC cY;rw[zN hj];simp[hj]
theorem zYX(a:AS)(m g:Nat):(stC a m g).extract 568 (568+16)=pc (ptA a):=VR (sR a m g) zGX (by rw[lI];omega) (nF _) fun j hj=>by
 rw[sV _ _ _ hj,uL _ _ hj]
theorem I2(a:AS)(m g:Nat):(stC a m g)[548]?=some (.bool a.hi):=(NL (yN a m g) (j:=512) zGX).trans (mA _ _ zGX)
theorem II(a:AS)(m g:Nat):(stC a m g)[584]?=some (.int .u8 (a.pt:Int)):=(NL (sR a m g) (j:=16) zGX).trans (by rw[rS _ _ _ zGX];rfl)
theorem zX0(N:Nat)(C:vR N){base:Nat}{O:Nat→Prop}{mb n:Nat}{s:mR}{a:AS}{w:World}(H:Mch base O mb n s a w)(L:cQ w):
  Calls Tryz.prog 22 #[.pointer (some ⟨mb,0,none⟩)] w fun e w'=>e=.returned (.agg (nQ (xI s a)))∧Below w.heap.size w w':=by
 have X:=zW H;have CC:=zW C;have LL:=zW L;clear H C L;go_enter Tryz.func22,Tryz.ntmps22;go_upto_region 0 with fail;refine zH ?_;refine qZ rfl fun K hK=>nJ wL rfl (hK _ _ ?_);clear hK K;simp only[Act.put,zQ,zZ,zJ];refine wpList_nil ?_;have RV:=zW (Blk.new w 45 (nQ vM));have BB:=zW (lV w (.cells (nQ vM) 45));have X:=zW (X.out.step BB.out);obtain⟨gb,hgb⟩:∃k,w.heap.size=k:=⟨_,rfl⟩;have AT:=zW (show w.heap.size≤gb by omega);rw[hgb]at RV⊢;clear hgb;generalize World.alloc _ _=w1 at RV BB X⊢;go_wp2_with fail;refine(BC N CC.out X.out (LL.out.step BB.out)).mono ?_;rintro e w2 ⟨bs,ms,gs,vs,rfl,rc,b2⟩;have S:=zW rc;have X:=zW (X.out.step b2);have RV:=zW (RV.out.step b2);have BB:=zW (BB.out.trans (b2.mono BB.out.size));clear rc b2;go_upto_region 4 with fail;have CV:=zW (lD S.out.st);have k548:=lA.cell (show w2.cell? ⟨bs,548,none⟩=some (.bool a.hi)from(S.out.st.cell 548).trans (I2 a ms gs)) S.out.st.lt;have k584:=lA.cell (show w2.cell? ⟨bs,584,none⟩=some (.int .u8 (a.pt:Int))from(S.out.st.cell 584).trans (II a ms gs)) S.out.st.lt;refine lT (C:=fun w'=>∃u:lA w2,w'=u.w) 28 [([0,1,2,3,4,5,6,7,8,9,10,11,12,13,15,16,17,18,19,20,21,22,23,24,25],14,true),([],26,true)] [27] [] zGV zGV ?_ ?_ ⟨⟨w2.drew,(zB _ _).drew⟩,rfl⟩ ?_
 ·exact zBB
 ·exact zBN
 intro wd hwd;clear hwd;refine DN ?_;iterate 4 (go_big_quiet_step (fail))
 refine lR (o:=36) XA CV.out zGG rfl (.tmp 12) rfl zGK ?_;rw[T8];simp only[Act.put,zQ,zZ,zJ];iterate 8 (go_big_quiet_step (fail))
 refine lR (o:=566) XC CV.out zGG rfl (.tmp 21) rfl zGK ?_;rw[F9];simp only[Act.put,zQ,zZ,zJ];iterate 4 (go_big_quiet_step (fail))
 refine lR (o:=568) xP CV.out zGG rfl (.tmp 27) rfl zGK ?_;rw[zYX];simp only[Act.put,zQ,zZ,zJ];iterate 6 (go_big_quiet_step (fail))
 refine zY ?_;refine mW (v:=.bool (onT (a.sd:Int))) (mC (g:=33) (caps:=#[]) (args:=#[.agg #[.int .u8 (a.dl:Int),.int .u8 (a.sd:Int)]]) (.func 33) _ _ rfl rfl (enters_of Tryz.func33 zGV rfl) (fun w' hw=>zYQ _ _ w') rfl zGK) ?_;simp only[Act.put,zQ,zZ,zJ];refine mV zGF zGY ?_;refine zY ?_;refine mW (v:=.agg (xN s.k s.c s.p s.y)) (mC (g:=13) (caps:=#[]) (args:=#[.pointer (some ⟨mb,0,none⟩)]) (.func 13) _ _ rfl rfl (enters_of Tryz.func13 zGV rfl) (fun w' hw=>by obtain⟨u,rfl⟩:=hw;exact aM (X.out.step u.below)) rfl zGK) ?_;simp only[Act.put,zQ,zZ,zJ];refine DM ?_;refine vV rfl rfl (by simp[Act.eval,Act.put];exact zQ2 (xI s a)) ?_;simp only[Act.put,zQ,zZ,zJ];refine zY ?_;refine mJ rfl ?_;intro w5 g5 C5 K hK;obtain⟨u5,rfl⟩:=C5;have RV:=zW (RV.out.step u5.below);have BB:=zW (BB.out.trans (u5.below.mono BB.out.size));generalize u5.w=w5 at*;refine nY (ds:=nQ (xI s a)) vF RV.out (mU _) (mU _) (uW _) (.tmp 2) (.tmp 36) rfl zGK zGK ?_;have RW:=zW (RV.out.store (nQ (xI s a)));have BW:=zW (lU BB.out AT.out (nQ (xI s a)));clear RV BB;generalize World.setRow _ _ _=w6 at RW BW hK⊢;refine hK _ _ ?_;clear hK K;simp only[Act.put,zQ,zZ,zJ];try simp only[lW]
 refine zY ?_;intro w7 g7;have RW:=zW (RW.out.step g7);have BW:=zW (BW.out.trans (g7.mono BW.out.size));go_wp2_with fail;iterate 4 (try go_step)
 exact zP (zE rfl _ _ gb _ _ _ _ rfl RW.out Tryz.underlying45 rfl (by rw[vF.i,mU])) rfl ⟨rfl,BW.out⟩
end
section
open Go.RowKit Go.Shelf Num Dec Cpu
def kyN(l:List Ev)(x:mR×AS):mR×AS:=l.foldl (fun y e=>(uE y.1 y.2 e,wZ y.1 y.2 e)) x
theorem zH2(s:mR)(a:AS)(e:Ev):(uE s a e).ex=s.ex:=by unfold uE;split<;>rfl
theorem zH1(s:mR)(a:AS)(e:Ev):(wZ s a e).ks.length=a.ks.length+1:=by show(a.ks++[e]).length=_;simp
theorem NC(l:List Ev)(x:mR×AS)(k:Nat)(e:Ev)(h:l[k]?=some e):kyN (l.take (k+1)) x=(uE (kyN (l.take k) x).1 (kyN (l.take k) x).2 e,wZ (kyN (l.take k) x).1 (kyN (l.take k) x).2 e):=by
 unfold kyN;obtain⟨hk,he⟩:=jP.1 h;rw[lQ hk,List.foldl_append,he];rfl
theorem pJ{W:World}{l:Nat}{o:Obj}:lS (fun j=>j=l) W (W.putObj l o):=⟨rfl,rfl,rfl,by simp,fun k _ hn=>jM hn⟩
theorem YG(mb:Nat)(nn:Int)(w:World):Calls Tryz.prog 27 #[.pointer (some ⟨mb,0,none⟩),.int .i64 nn] w fun e w'=>e=.returned (.func (.func 39) #[] #[.pointer (some ⟨w.heap.size+1,0,none⟩),.pointer (some ⟨w.heap.size,0,none⟩)])∧w'=(w.alloc (.cells #[.pointer (some ⟨mb,0,none⟩)] 29)).alloc (.cells #[.int .i64 nn] 3):=by
 go_enter Tryz.func27,Tryz.ntmps27;go_wp2;go_returns;simp
structure FrR(base:Nat)(O:Nat→Prop)(w w8:World)(mb n gb:Nat)(s:mR)(a:AS)(W:World):Prop where
 m:∃O',Mch base O' mb n s a W∧vK O O' w.heap.size∧¬O' (w8.heap.size+1)∧¬O' w8.heap.size
 k:lS O w W
 r:Blk gb 45 (nQ vM) W
 l:∃o,W.heap[w8.heap.size+1]?=some o∧o.isCells=false
 d:W.heap[w8.heap.size]?=some (.deferred (some []))
theorem UB(N:Nat)(CS:vR N)(E0:uP N){base:Nat}{O:Nat→Prop}{mb n:Nat}{s:mR}{a:AS}{w:World}(H:Mch base O mb n s a w)(L:cQ w)(hB:1<base)(EA:Option Addr)(ne ce:Nat)(l:List Ev)(HE:Evs w EA ne l)(hEO:∀ad,EA=some ad→0<ne→¬O ad.block)(hne:ne≤100)(nn:Nat)(hnn:nn≤65535)(hx:s.ex+(nn:Int)≤90000)(hn:n+nn≤90000)(hks:a.ks.length+ne<1000):
  Calls Tryz.prog 14 #[.pointer (some ⟨mb,0,none⟩),.slice EA ne ce,.int .i64 (nn:Int)] w fun e w'=>e=.returned (.tuple #[.agg (nQ (xI (frN N nn (kyN l (s,a)).1 (kyN l (s,a)).2).1 (frN N nn (kyN l (s,a)).1 (kyN l (s,a)).2).2)),.int .i64 0])∧∃O',Mch base O' mb (n+nn) (frN N nn (kyN l (s,a)).1 (kyN l (s,a)).2).1 (rU (frN N nn (kyN l (s,a)).1 (kyN l (s,a)).2).2) w'∧lS O w w'∧vK O O' w.heap.size:=by
 have HH:=zW H;have HC:=zW CS;have HS:=zW E0;have HL:=zW (fun u (k:lS O w u)=>L.below (k.below H.bs fun j hj=>(H.blt j hj).1) hB);have HBB:=zW hB;have HEV:=zW HE;have HX:=zW (zM hx (zM hn (zM hks hne)));have OLT:=zW (fun j (h:O j)=>(H.blt j h).2);have HEO:=zW hEO;clear H CS E0 L hB HE hx hn hks hEO;obtain⟨sy,ay,hy⟩:∃sy ay,kyN l (s,a)=(sy,ay):=⟨_,_,rfl⟩;have HY:=zW hy;rw[hy];clear hy;obtain⟨sf,af,hf⟩:∃sf af,frN N nn sy ay=(sf,af):=⟨_,_,rfl⟩;have HF:=zW hf;simp only[hf];clear hf;refine(callsIn_wide (n:=6)).1 ?_;refine callsIn_of_wp_marks Tryz.func14 rfl trivial ?_ rfl;simp only[Tryz.ntmps14,jN,List.length_cons,List.length_nil,Nat.reduceAdd,Nat.reduceSub,jY,Array.replicate_zero,jR,jL,List.nil_append,List.cons_append];refine wpIn_wide.2 ?_;go_upto_region 0 with fail;refine zH ?_;refine qZ rfl fun K hK=>nJ wL rfl (hK _ _ ?_);clear hK K;simp only[Act.put,zQ,zZ,zJ];have RV:=zW (Blk.new w 45 (nQ vM));have KK:=zW (show lS O w (w.alloc (.cells (nQ vM) 45))from lS.of_below (lV w _));have X:=zW (HH.out.step (lV w (.cells (nQ vM) 45)));obtain⟨gb,hgb⟩:∃k,w.heap.size=k:=⟨_,rfl⟩;have AT:=zW (show w.heap.size≤gb by omega);rw[hgb]at RV⊢;clear hgb;generalize World.alloc _ _=w1 at RV KK X⊢;have r1:¬(nn:Int)<0:=zGX;have r2:¬(65535:Int)<(nn:Int):=zGX;go_wp2_with fail;go_loopw [20] (fun i wr=>∃k:Nat,k≤ne∧i=.int .i64 (k:Int)∧lS O w wr∧Mch base O mb n (kyN (l.take k) (s,a)).1 (kyN (l.take k) (s,a)).2 wr∧(kyN (l.take k) (s,a)).2.ks.length=a.ks.length+k∧(kyN (l.take k) (s,a)).1.ex=s.ex∧Blk gb 45 (nQ vM) wr) (fun i _=>ne-(intOf i).toNat)
 case atStart=>exact⟨0,qW _,rfl,KK.out,X.out,rfl,rfl,RV.out⟩
 case round=>
  clear X KK RV HH
  obtain⟨k,hk,rfl,hK,hX,hkl,hex,hR⟩:=hrel
  have KK:=zW hK
  have X:=zW hX
  have FF:=zW (zM hkl hex)
  have RV:=zW hR
  clear hK hX hkl hex hR
  obtain⟨sk,ak,hsa⟩:∃sk ak,kyN (l.take k) (s,a)=(sk,ak):=⟨_,_,rfl⟩
  have SA:=zW hsa
  rw[hsa]at X FF
  clear hsa
  by_cases hlt:k<ne
  ·have il:k<l.length:=by rw[HEV.out.len];exact hlt
   obtain⟨eb,o,rfl,heb,c1,c2,eok⟩:=HEV.out.at_ k il
   obtain⟨e,he⟩:∃e,l[k]=e:=⟨_,rfl⟩
   rw[he]at c1 c2 eok
   have EK:=zW (show l[k]?=some e from by rw[←he];exact zS il)
   have ebO:¬O eb:=HEO.out _ rfl zGX
   have c1:=(KK.out.cell (a:=⟨eb,o+k*2,none⟩) heb ebO).trans c1
   have c2:=(KK.out.cell (a:=⟨eb,o+k*2+1,none⟩) heb ebO).trans c2
   have ki:(k:Int)<(ne:Int):=zGX
   have k100:(k:Int)≤100:=zGX
   have JX:=zW hlt
   clear he il ebO
   have X5:=zW (lV wr (.cells #[.int .i64 e.k,.bool e.d] 69))
   have B5:=zW (Blk.new wr 69 #[.int .i64 e.k,.bool e.d])
   go_upto_region 6 with fail
   have X:=zW (X.out.step X5.out)
   have RV:=zW (RV.out.step X5.out)
   have KK:=zW (KK.out.trans (lS.of_below (O:=fun _=>False) X5.out) fun _ c=>c.elim)
   obtain⟨g5,hg5⟩:∃g,wr.heap.size=g:=⟨_,rfl⟩
   rw[hg5]at B5⊢
   clear hg5 X5 c1 c2
   generalize World.alloc _ _=w5 at X RV KK B5⊢
   have c1:w5.cell? ⟨g5,0,none⟩=some (.int .i64 e.k):=(B5.out.cell 0).trans rfl
   have c2:w5.cell? ⟨g5,1,none⟩=some (.bool e.d):=(B5.out.cell 1).trans rfl
   go_wp2_with fail
   refine(zX7 X.out e (by rw[FF.out.1];have:=HX.out.2.2.1;have:=JX.out;omega)).mono ?_
   rintro x w6 ⟨rfl,X6,K6⟩
   have RV:=zW (show Blk gb 45 (nQ vM) w6 from(K6.block gb RV.out.lt (X.out.off RV.out ⟨by decide,by decide,by decide,by decide,by decide,by decide,by decide⟩)).trans RV.out)
   have KK:=zW (KK.out.trans K6 vK.refl)
   have X:=zW X6
   clear X6 K6 c1 c2
   go_wp2
   go_roundw
   case rel=>exact⟨k+1,JX.out,by go_num,KK.out,by rw[NC l _ k e EK.out,SA.out];exact X.out,by rw[NC l _ k e EK.out,SA.out];simp only;rw[zH1,FF.out.1];omega,by rw[NC l _ k e EK.out,SA.out];simp only;rw[zH2,FF.out.2],RV.out⟩
   case measure=>have:=JX.out;simp[intOf];omega
  ·have ki:¬(k:Int)<(ne:Int):=zGX
   have EK:=(show(sk,ak)=(sy,ay)from by rw[←SA.out,←HY.out,qV (by rw[HEV.out.len];omega)])
   injection EK with e1 e2
   subst e1 e2
   go_wp2_with fail
   refine(YG mb (nn:Int) wr).mono ?_
   rintro x w8 ⟨rfl,hw8⟩
   have BM:=zW (show Blk wr.heap.size 29 #[.pointer (some ⟨mb,0,none⟩)] w8 from hw8▸(Blk.new wr 29 #[.pointer (some ⟨mb,0,none⟩)]).alloc _)
   have BI:=zW (show Blk (wr.heap.size+1) 3 #[.int .i64 (nn:Int)] w8 from by
    have h:=Blk.new (wr.alloc (.cells #[.pointer (some ⟨mb,0,none⟩)] 29)) 3 #[.int .i64 (nn:Int)];rw[zT,←hw8]at h;exact h)
   have b8:Below wr.heap.size wr w8:=by rw[hw8];exact((zB _ _).alloc (zG _) _).alloc zGN _
   have X:=zW (X.out.step b8)
   have RV:=zW (RV.out.step b8)
   have KK:=zW (KK.out.trans (lS.of_below (O:=fun _=>False) b8) fun _ c=>c.elim)
   clear hw8 b8
   generalize wr.heap.size=g8 at BM BI⊢
   go_wp2_with fail
   refine eT (gf:=39) (lb:=#[.pointer (some ⟨g8+1,0,none⟩),.pointer (some ⟨g8,0,none⟩)]) rfl (enters_of Tryz.func39 zGV rfl) rfl ?_ ?_ (FrR base O w w8 mb (n+nn) gb sf af) ?_ ?_
   ·intro l' W K hK
    gi_wp2
    exact hK
   ·intro l' W
    gi_wp2
    all_goals exact⟨rfl,rfl⟩
   ·intro l' o W1 hoc hl hW1 hY
    have b1:Below w8.heap.size w8 W1:=by rw[hW1];exact((zB _ _).alloc (zG _) _).alloc zGN _
    have sz1:W1.heap.size=w8.heap.size+2:=by rw[hW1];simp
    have hl1:W1.heap[l']?=some o:=by
     rw[hW1,hl];have h:=World.alloc_heap_new (w8.alloc (.deferred (some []))) o;rwa [zT]at h
    have hd1:W1.heap[w8.heap.size]?=some (.deferred (some [])):=by
     rw[hW1];exact(Below.heap_alloc _ _ _ zGN).trans (World.alloc_heap_new w8 _)
    have K1:=KK.out.trans (lS.of_below (O:=fun _=>False) b1) fun _ c=>c.elim
    have sw:=KK.out.size
    have nO:∀j,w8.heap.size≤j→¬O j:=fun j hj c=>by have:=OLT.out _ c;omega
    have X1:=X.out.step b1
    refine(IP N HS.out l' o hoc hY X1 (HL.out W1 K1) HBB.out nn (g8+1) g8 (BI.out.step b1) (BM.out.step b1) hl1 (nO _ zGX) (by rw[FF.out.2];exact HX.out.1) HX.out.2.1 hnn).mono ?_
    rintro e W' ⟨hv,hl2,O',X2,K2,G2⟩
    rw[HF.out]at X2
    refine⟨hv,hl2,⟨O',X2,fun j hj=>(G2 j hj).imp id fun h=>by omega,fun c=>(G2 _ c).elim (nO _ zGX) fun h=>by omega,fun c=>(G2 _ c).elim (nO _ zGX) fun h=>by omega⟩,K1.trans K2 vK.refl,?_,⟨o,by rw[←hl];exact hl2,hoc⟩,?_⟩
    ·exact(K2.block gb (RV.out.step b1).lt (X1.off (RV.out.step b1) ⟨by decide,by decide,by decide,by decide,by decide,by decide,by decide⟩)).trans (RV.out.step b1)
    ·exact(K2.block _ zGX (nO _ (zG _))).trans hd1
   ·intro W o hR
    obtain⟨⟨O',X2,G2,n1,n2⟩,k2,r2,⟨o',hl2,hoc2⟩,hd2⟩:=hR
    have gl:=RV.out.lt
    have sw:=KK.out.size
    have X:=zW (X2.keep (pJ (l:=w8.heap.size+1) (o:=o)) (fun j hj e=>n1 (e▸hj)) (fun j e cs fr c=>by rw[e,hl2]at c;injection c with c;rw[c]at hoc2;cases hoc2))
    have RV:=zW (show Blk gb 45 (nQ vM) (W.putObj (w8.heap.size+1) o)from(jM zGX).trans r2)
    have KK:=zW (k2.trans (pJ (l:=w8.heap.size+1) (o:=o)) fun j e=> .inr zGX)
    have HD:=zW (show(W.putObj (w8.heap.size+1) o).heap[w8.heap.size]?=some (.deferred (some []))from(jM zGX).trans hd2)
    have GG:=zW (zM G2 n2)
    have DW:=zW (show w.heap.size≤w8.heap.size∧gb<w8.heap.size from⟨sw,gl⟩)
    clear X2 G2 n1 n2 k2 r2 hl2 hoc2 hd2 gl sw BM BI
    generalize w8.heap.size=D at*
    generalize W.putObj _ _=w9 at*
    go_wp2_with fail
    refine(zX0 N HC.out X.out (HL.out _ KK.out)).mono ?_
    rintro e wa ⟨rfl,ba⟩
    have X:=zW (X.out.step ba)
    have RV:=zW (RV.out.step ba)
    have HD:=zW ((ba.block D (qM.1 HD.out).1).trans HD.out)
    have KK:=zW (KK.out.trans (lS.of_below (O:=fun _=>False) ba) fun _ c=>c.elim)
    clear ba
    obtain⟨C,hC⟩:∃C,nQ (xI sf af)=C:=⟨_,rfl⟩
    have CE:=zW (show C.size=535∧n8 C∧nQ (xI sf af)=C from by rw[←hC];exact⟨mU _,uW _,rfl⟩)
    rw[hC]
    clear hC
    simp only[]
    go_at_K
    iterate 1 go_step
    refine lO (ds:=C) vF wL (mU _) CE.out.1 CE.out.2.1 rfl rfl rfl (.tmp 10) (.tmp 32) rfl zGK zGK ?_
    simp only[Act.put,zQ,zZ,zJ]
    have R10:=zW (Blk.new wa 45 C)
    have ba:=lV wa (.cells C 45)
    have X:=zW (X.out.step ba)
    have RV:=zW (RV.out.step ba)
    have HD:=zW ((ba.block D (qM.1 HD.out).1).trans HD.out)
    have KK:=zW (KK.out.trans (lS.of_below (O:=fun _=>False) ba) fun _ c=>c.elim)
    clear ba
    obtain⟨g10,hg⟩:∃q,wa.heap.size=q:=⟨_,rfl⟩
    rw[hg]at R10⊢
    clear hg
    generalize World.alloc _ _=wb at X RV HD KK R10⊢
    go_wp2_with fail
    refine(OY X.out).mono ?_
    rintro e wc ⟨rfl,Xc,Kc⟩
    have RV:=zW (show Blk gb 45 (nQ vM) wc from(Kc.block gb RV.out.lt (X.out.off RV.out ⟨by decide,by decide,by decide,by decide,by decide,by decide,by decide⟩)).trans RV.out)
    have R10:=zW (show Blk g10 45 C wc from(Kc.block g10 R10.out.lt (X.out.off R10.out ⟨by decide,by decide,by decide,by decide,by decide,by decide,by decide⟩)).trans R10.out)
    have HD:=zW ((Kc.block D (qM.1 HD.out).1 GG.out.2).trans HD.out)
    have KK:=zW (KK.out.trans Kc GG.out.1)
    have X:=zW Xc
    clear Xc Kc
    go_upto_region 11 with fail
    refine zH ?_
    refine lL vF R10.out CE.out.1 rfl (.tmp 10) rfl rfl ?_
    simp only[Act.put,zQ,zZ,zJ]
    refine lM (ds:=C) vF RV.out (mU _) CE.out.1 CE.out.2.1 rfl (.tmp 6) (.tmp 35) rfl rfl rfl ?_
    simp only[Act.put,zQ,zZ,zJ]
    have RW:=zW (RV.out.store C)
    have XW:=zW (X.out.keep (uH (b:=gb) (cs:=C)) (fun j hj e=>X.out.off RV.out ⟨by decide,by decide,by decide,by decide,by decide,by decide,by decide⟩ (e▸hj)) (fun j e=>e▸ZU RV.out zGL))
    have KW:=zW (KK.out.trans (uH (b:=gb) (cs:=C) (w:=wc)) fun j e=> .inr (e▸AT.out))
    have HD:=zW (show(wc.setRow gb C).heap[D]?=some (.deferred (some []))from(qQ _ _ _ _ (by have:=DW.out.2;omega)).trans HD.out)
    generalize World.setRow _ _ _=wd at RW XW KW HD⊢
    go_wp2_with fail
    iterate 6 (try go_step)
    refine⟨by simp,.inl ⟨_,_,rfl,run_takeDeferred HD.out,?_⟩⟩
    refine⟨_,mL rfl _ _ gb _ _ _ (.int .i64 0) rfl rfl ((jM (by have:=DW.out.2;omega)).trans RW.out) vF CE.out.1,by rw[CE.out.2.2],O',?_,KW.out.trans (pJ (l:=D)) fun j e=> .inr (by have:=DW.out.1;omega),GG.out.1⟩
    exact XW.out.keep (pJ (l:=D)) (fun j hj e=>GG.out.2 (e▸hj)) (fun j e cs fr c=>by rw[e,HD.out]at c;cases c)
end
section
open Go.RowKit Num Dec Cpu

end
end Go.Proofs.YtbpniahcjbagmaaGreatDoor
