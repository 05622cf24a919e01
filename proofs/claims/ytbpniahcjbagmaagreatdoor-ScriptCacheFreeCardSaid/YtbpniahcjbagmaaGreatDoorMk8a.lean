/- SptFramesW, SptFreeW, SptRejW. -/
import Derived.Test.YtbpniahcjbagmaaGreatDoorMSptAwake
set_option maxRecDepth 400000
set_option maxHeartbeats 64000000
set_option linter.unusedVariables false
set_option linter.unusedSimpArgs false
namespace Go.Proofs.YtbpniahcjbagmaaGreatDoor
section
open Go.RowKit Go.Shelf Num Dec Cpu
def Sp.wc(s:Sp)(c:Int):Sp:={s with cy:=c}
theorem zZ0(s:Sp)(c:Int):(spC s).setIfInBounds 10 (.int .i64 c)=spC (s.wc c):=rfl
theorem wW.wc{s:Sp}{w:World}{R L F:List Int}{l:List Fv}(h:wW s w R L F l):wW (s.wc 0) w R L F l:=⟨h.a,h.b,h.f,h.g,h.lv,by show(-9223372036854775808:Int)≤0∧(0:Int)≤9223372036854775807;decide⟩
theorem zNH{s:Sp}{l:List Fv}(h:gG s l=true):gG (s.wc 0) l=true:=by
 unfold gG at h⊢;simp only[zC,qK]at h⊢;exact⟨h.1,h.2.1,by show(0:Int)≤60;decide⟩
theorem Q9{s:Sp}(h:xO s=true):xO (s.wc 0)=true:=by
 unfold xO at h⊢;simp only[zC,qK]at h⊢;exact⟨h.1,by show(0:Int)≤0;decide,by show(0:Int)≤65535;decide⟩
theorem VB:nQ {vM with pt:=64}=(((Array.replicate 512 (Value.int .u64 0))++ #[.bool false,.bool false])++(Array.replicate 16 (Value.int .u8 0)))++ #[.int .u8 64,.int .i64 0,.int .i64 0,.int .i64 0,.int .i64 0]:=by kernel_rfl
theorem RP:Tryz.prog.built 45 [(4,.int .u8 64)]=some (nQ {vM with pt:=64}):=by
 rw[VB];kernel_rfl
theorem zJI(N:Nat)(s:Sp)(R L:List Int)(l:List (List Ev)):∀r∈rsS N (s.wc 0) R L l,r={vM with pt:=64}:=by
 intro r hr;unfold rsS at hr;split at hr
 ·rw[←zLU];exact JN N l (wU s.q,uB R L) ⟨rfl,rfl,rfl,rfl⟩ rfl rfl rfl rfl rfl r hr
 ·cases hr
theorem AG(N:Nat)(s:Sp)(R L:List Int)(l:List (List Ev))(h:xO s=true):(rsS N s R L l).length=l.length:=by
 unfold rsS;rw[zN h,wR]
section
variable {P:Program} {t:TypeId} {cs:Array Value} {ops:Array Oper} {Q:Exit→Act→World→Prop} {o:Oper} {rest:List Oper} {a:Act} {w:World}
theorem WQ(S:hH P t cs)(hg:o.guard=none)(x y:Operand)(z:TypeId)(ho:o.op=.binOp .neq t x y z)(hx:a.eval x=.agg cs)(hy:a.eval y=.agg cs)
  (h:wpList P ops Q rest (a.put o.dst (.bool false)) w):wpList P ops Q (o::rest) a w:=
 qZ hg fun K hK=>by unfold Oper.wp;rw[aS S x y z ho hx hy];exact hK _ _ h
end
theorem zKO(N:Nat)(CS:vR N)(E0:uP N)(s:Sp){R L F:List Int}{l:List Fv}(w:World)(H:wW s w R L F l)(hL:cQ w):
  Calls Tryz.prog 7 #[.agg (spC s)] w fun e w'=>e=.returned (.bool true)∧Below w.heap.size w w':=by
 have CC:=zW CS;have EE:=zW E0;have LL:=zW hL;have HH:=zW H;have AW:=zW (fun w h=>iS N CS E0 w h);obtain⟨r,hr⟩:∃r,gG s l=r:=⟨_,rfl⟩;obtain⟨v,hv⟩:∃v,xO s=v:=⟨_,rfl⟩;have FW:=zW (fun u (bu:Below w.heap.size w u)=>hr▸fG s l u (H.step bu));have VA:=zW (fun u=>hv▸aZ s u);have HR:=zW hr;have HV:=zW hv;clear CS E0 hL H hr hv;go_enter Tryz.func7,Tryz.ntmps7;go_upto_region 0 with fail;refine zH ?_;refine lE rfl _ (.tmp 0) rfl (spC s) rfl ?_;simp only[Act.put,zQ,zZ,zJ];have K1:=zW (Blk.new w 55 (spC s));have BB:=zW (lV w (.cells (spC s) 55));obtain⟨g1,hg1⟩:∃g,w.heap.size=g:=⟨_,rfl⟩;rw[hg1]at K1⊢;clear hg1;generalize World.alloc w _=w1 at K1 BB⊢;go_upto_region 1 with fail;have LC:=zW (fun x:lA w1=>LL.out.step (BB.out.trans (x.below.mono BB.out.size)));have FC:=zW (fun x:lA w1=>FW.out _ (BB.out.trans (x.below.mono BB.out.size)));have CQ:=zW (lD K1.out);cases r<;>cases v
 rotate_left 3
 all_goals
  refine gD ?_
  repeat(first
   |(refine mN tL CQ.out rfl ?_ (.tmp 1) ?_ ?_ ?_;(focus rfl);(focus rfl);(focus(simp[Act.eval];done));simp only[Act.put,zQ,zZ,zJ])
   |go_big_quiet_step ((first|(go_at_call 15;exact nK (AW.out _ (LC.out _)))|(go_at_call 16;exact nK (FC.out _))|(go_at_call 19;exact nK (VA.out _)))))
  refine zY ?_
  intro _ hw'
  obtain⟨x,rfl⟩:=hw'
  have b1:=x.below
  generalize x.w=w2 at*
  have K1:=zW (K1.out.step b1)
  have BB:=zW (BB.out.trans (b1.mono BB.out.size))
  clear b1 LC FC CQ
 rotate_left 1
 all_goals try
  clear HR HV FW
  go_wp2_with fail
  refine(AW.out _ (LL.out.step BB.out)).mono ?_
  rintro e w3 ⟨rfl,b1⟩
  have BB:=zW (BB.out.trans (b1.mono BB.out.size))
  clear b1
  go_wp2
  go_ret
  exact⟨rfl,BB.out⟩
 have NK:=zW (pW HH.out.g HR.out);clear FW AW;go_upto_region 3 with fail;refine zH ?_;refine lL tL K1.out rfl rfl (.tmp 1) rfl rfl ?_;simp only[Act.put,zQ,zZ,zJ];go_wp2_with fail;refine(y8 (s) _).mono ?_;rintro e w3 ⟨rfl,bb⟩;have K1:=zW (K1.out.step bb);have BB:=zW (BB.out.trans (bb.mono BB.out.size));clear bb;go_wp2_with fail;refine(u6 N CC.out EE.out (s) _ (LL.out.step BB.out) (HH.out.step BB.out) (HR.out)).mono ?_;rintro e w4 ⟨A,n,rfl,rd,bb⟩;rw[show erS s=0 from zN HV.out];have K1:=zW (K1.out.step bb);have BB:=zW (BB.out.trans (bb.mono BB.out.size));clear bb;have RA:=zW rd;clear rd;simp only[];go_at_K
 iterate 10 go_step
 refine lO (ds:=rsK false (.slice A n n)) vD cN rfl rfl (cH _ _ rfl) rfl rfl rfl (.tmp 3) (.tmp 26) rfl zGK zGK ?_;simp only[Act.put,zQ,zZ,zJ];have V3:=zW (Blk.new w4 61 (rsK false (.slice A n n)));have bb:=lV w4 (.cells (rsK false (.slice A n n)) 61);have K1:=zW (K1.out.step bb);have BB:=zW (BB.out.trans (bb.mono BB.out.size));have RA:=zW (RA.out.step bb);clear bb;obtain⟨g3,hg⟩:∃g,w4.heap.size=g:=⟨_,rfl⟩;rw[hg]at V3⊢;clear hg;generalize World.alloc w4 _=w5 at K1 BB RA V3⊢;go_upto_region 4 with fail;refine zH ?_;refine lL tL K1.out rfl rfl (.tmp 1) rfl rfl ?_;simp only[Act.put,zQ,zZ,zJ];refine lO (ds:=spC s) tL TC rfl rfl (gZ _) rfl rfl rfl (.tmp 5) (.tmp 28) rfl zGK zGK ?_;simp only[Act.put,zQ,zZ,zJ];have K5:=zW (Blk.new w5 55 (spC s));have bh:=zW (lV w5 (.cells (spC s) 55));obtain⟨g5,hg⟩:∃g,w5.heap.size=g:=⟨_,rfl⟩;have GE:=zW (show w5.heap.size≤g5 from kE hg);rw[hg]at K5⊢;clear hg;generalize World.alloc w5 _=w6 at bh K5⊢;have f5:w6.frozen? ⟨g5,10,none⟩=false:=K5.out.frozen 10;have c5:w6.cell? ⟨g5,10,none⟩=some (.int .i64 s.cy):=(K5.out.cell 10).trans rfl;go_upto_region 6 with fail;have K5:=zW ((K5.out.put 10 (.int .i64 0)).eq (zZ0 s 0));have bh:=zW (bh.out.setCell (p:=⟨g5,10,none⟩) GE.out (.int .i64 0));clear f5 c5;generalize World.setCell _ _ _=w7 at bh K5⊢;have bb:=bh.out;have K1:=zW (K1.out.step bb);have BB:=zW (BB.out.trans (bb.mono BB.out.size));have RA:=zW (RA.out.step bb);have V3:=zW (V3.out.step bb);clear bb;clear bh GE;go_upto_region 6 with fail;refine zH ?_;refine lL tL K5.out rfl rfl (.tmp 5) rfl rfl ?_;simp only[Act.put,zQ,zZ,zJ];go_wp2_with fail;refine(y8 (s.wc 0) _).mono ?_;rintro e w8 ⟨rfl,bb⟩;have K1:=zW (K1.out.step bb);have BB:=zW (BB.out.trans (bb.mono BB.out.size));have RA:=zW (RA.out.step bb);have V3:=zW (V3.out.step bb);have K5:=zW (K5.out.step bb);clear bb;go_wp2_with fail;refine(u6 N CC.out EE.out (s.wc 0) _ (LL.out.step BB.out) ((HH.out.step BB.out).wc) (zNH HR.out)).mono ?_;rintro e w9 ⟨A2,n2,rfl,rd,bb⟩;rw[show erS (s.wc 0)=0 from zN (Q9 HV.out)];have K1:=zW (K1.out.step bb);have BB:=zW (BB.out.trans (bb.mono BB.out.size));have RA:=zW (RA.out.step bb);have V3:=zW (V3.out.step bb);have K5:=zW (K5.out.step bb);clear bb;have RB22:=zW rd;clear rd;simp only[];go_at_K
 iterate 10 go_step
 refine lO (ds:=rsK false (.slice A2 n2 n2)) vD cN rfl rfl (cH _ _ rfl) rfl rfl rfl (.tmp 6) (.tmp 34) rfl zGK zGK ?_;simp only[Act.put,zQ,zZ,zJ];have V6:=zW (Blk.new w9 61 (rsK false (.slice A2 n2 n2)));have bb:=lV w9 (.cells (rsK false (.slice A2 n2 n2)) 61);have K1:=zW (K1.out.step bb);have BB:=zW (BB.out.trans (bb.mono BB.out.size));have RA:=zW (RA.out.step bb);have V3:=zW (V3.out.step bb);have K5:=zW (K5.out.step bb);have RB22:=zW (RB22.out.step bb);clear bb;obtain⟨g6,hg⟩:∃g,w9.heap.size=g:=⟨_,rfl⟩;rw[hg]at V6⊢;clear hg;generalize World.alloc w9 _=wa at K1 BB RA V3 K5 RB22 V6⊢;have n1:=zW (show n=s.gn from by rw[←RA.out.len,AG N s R L _ HV.out,qI];exact HH.out.g.len);have n2e:=zW (show n2=s.gn from by rw[←RB22.out.len,AG N (s.wc 0) R L _ (Q9 HV.out),qI];exact HH.out.g.len);have RZ:=zW (zJI N s R L (l.map Fv.ev));obtain⟨rz,hrz⟩:∃rz,rsS N (s.wc 0) R L (l.map Fv.ev)=rz:=⟨_,rfl⟩;rw[hrz]at RB22 RZ;clear hrz RA;obtain rfl:=n1.out;obtain rfl:=n2e.out;have m8:(s.gn:Int)≤8:=by have:=NK.out;omega
 have k13:wa.cell? ⟨g1,13,none⟩=some (.slice s.G s.gn s.gc):=(K1.out.cell 13).trans rfl;have k31:wa.cell? ⟨g3,1,none⟩=some (.slice A s.gn s.gn):=(V3.out.cell 1).trans rfl;have k61:wa.cell? ⟨g6,1,none⟩=some (.slice A2 s.gn s.gn):=(V6.out.cell 1).trans rfl;have e13:(spC s)[13]?=some (.slice s.G s.gn s.gc):=rfl;clear n1 n2e;obtain⟨C,hC⟩:∃C,nQ {vM with pt:=64}=C:=⟨_,rfl⟩;have CE:=zW (show C.size=535∧hH Tryz.prog 45 C∧Tryz.prog.built 45 [(4,.int .u8 64)]=some C from by rw[←hC];exact⟨mU _,MY _,RP⟩);have RC:=zW (show∀j,j<s.gn→∃g,A2=some ⟨g,0,none⟩∧wa.rangeAt g (j*535) C.toList from fun j hj=>by
  have hl:j<rz.length:=by rw[RB22.out.len];exact hj
  obtain⟨g,hA,_,hr⟩:=RB22.out.get hl;refine⟨g,hA,?_⟩;rw[RZ.out _ (j4 hl),hC]at hr;exact hr)
 clear hC RB22 RZ;go_wp2_with fail;go_loopw [8] (fun i wr=>∃j:Nat,j≤s.gn∧i=.int .i64 (j:Int)∧wr=wa) (fun i _=>s.gn-(intOf i).toNat)
 case atStart=>exact⟨0,qW _,rfl,rfl⟩
 case round=>
  obtain⟨j,hj,rfl,rfl⟩:=hrel
  by_cases hlt:j<s.gn
  ·obtain⟨g,rfl,hr⟩:=RC.out j hlt
   have AT:=zW hr
   have JX:=zW hlt
   have ji:(j:Int)<(s.gn:Int):=zGX
   have j8:(j:Int)≤8:=zGX
   clear hr
   go_upto_region 12 with fail
   refine zH ?_
   iterate 12 go_step
   refine pZ (o:=j*535) vF AT.out CE.out.1 rfl (.tmp 70) rfl zGK ?_
   simp only[Act.put,zQ,zZ,zJ]
   refine lC (cs:=C) rfl rfl (by simp;exact CE.out.2.2) ?_
   simp only[Act.put,zQ,zZ,zJ]
   refine WQ CE.out.2.1 rfl (.tmp 71) (.tmp 72) 45 rfl rfl rfl ?_
   simp only[Act.put,zQ,zZ,zJ]
   go_wp2
   go_roundw
   case rel=>exact⟨j+1,JX.out,by go_num,by trivial⟩
   case measure=>have:=JX.out;simp[intOf];omega
  ·have ji:¬(j:Int)<(s.gn:Int):=zGX
   go_wp2
   go_returns
   exact⟨rfl,BB.out⟩
def Sp.wf(s:Sp)(c:Bool)(A:Option Addr)(n d:Nat):Sp:={s with ca:=c,FA:=A,fn:=n,fc:=d}
theorem zHP(s:Sp)(c c':Bool)(A:Option Addr)(n d:Nat):(spC (s.wf c A n d)).setIfInBounds 11 (.bool c')=spC (s.wf c' A n d):=rfl
theorem zHS(s:Sp)(c:Bool)(A A':Option Addr)(n d n' d':Nat):(spC (s.wf c A n d)).setIfInBounds 12 (.slice A' n' d')=spC (s.wf c A' n' d'):=rfl
theorem wW.wf{s:Sp}{w:World}{R L F:List Int}{l:List Fv}(h:wW s w R L F l)(c:Bool){A:Option Addr}{n d:Nat}{F':List Int}(hf:QE w A n d F'):wW (s.wf c A n d) w R L F' l:=⟨h.a,h.b,hf,h.g,h.lv,h.cy⟩
theorem N5{s:Sp}{l:List Fv}(h:gG s l=true)(c:Bool)(A:Option Addr){n:Nat}(hn:n≤100)(d:Nat):gG (s.wf c A n d) l=true:=by
 unfold gG at h⊢;simp only[zC,qK]at h⊢;exact⟨h.1,⟨⟨h.2.1.1.1,hn⟩,h.2.1.2⟩,h.2.2⟩
theorem rsS_le(N:Nat)(s:Sp)(R L:List Int)(l:List (List Ev)):(rsS N s R L l).length≤l.length:=by
 unfold rsS;split
 ·rw[wR];exact zG _
 ·exact qW _
theorem free22(N:Nat)(CS:vR N)(E0:uP N)(s:Sp){R L F:List Int}{l:List Fv}{F2:List Int}(B:Option Addr)(k d:Nat)(w:World)(H:wW s w R L F l)(HB:QE w B k d F2)(hL:cQ w):
  Calls Tryz.prog 4 #[.agg (spC s),.slice B k d] w fun e w'=>e=.returned (.bool true)∧Below w.heap.size w w':=by
 have CC:=zW CS;have EE:=zW E0;have LL:=zW hL;have HH:=zW H;have GB:=zW HB;have AW:=zW (fun w h=>iS N CS E0 w h);obtain⟨r,hr⟩:∃r,gG s l=r:=⟨_,rfl⟩;obtain⟨v,hv⟩:∃v,decide (k≤100)=v:=⟨_,rfl⟩;have FW:=zW (fun u (bu:Below w.heap.size w u)=>hr▸fG s l u (H.step bu));have HR:=zW hr;have HV:=zW hv;have k1:(k:Int)≤9223372036854775807:=by have h1:=HB.cap;have h2:=HB.max;unfold maxLen at h2;omega
 clear HB;clear CS E0 hL H hr hv;go_enter Tryz.func4,Tryz.ntmps4;go_upto_region 0 with fail;refine zH ?_;refine lE rfl _ (.tmp 0) rfl (spC s) rfl ?_;simp only[Act.put,zQ,zZ,zJ];have K1:=zW (Blk.new w 55 (spC s));have BB:=zW (lV w (.cells (spC s) 55));obtain⟨g1,hg1⟩:∃g,w.heap.size=g:=⟨_,rfl⟩;rw[hg1]at K1⊢;clear hg1;generalize World.alloc w _=w1 at K1 BB⊢;go_upto_region 1 with fail;have LC:=zW (fun x:lA w1=>LL.out.step (BB.out.trans (x.below.mono BB.out.size)));have FC:=zW (fun x:lA w1=>FW.out _ (BB.out.trans (x.below.mono BB.out.size)));have CQ:=zW (lD K1.out);cases r<;>cases v
 rotate_left 3
 all_goals
  first|have q0:¬(100:Int)<(k:Int):=by(have:=qA HV.out;omega)|have q0:(100:Int)<(k:Int):=by(have:=of_decide_eq_false HV.out;omega)
  refine gD ?_
  repeat(first
   |(refine mN tL CQ.out rfl ?_ (.tmp 2) ?_ ?_ ?_;(focus rfl);(focus rfl);(focus(simp[Act.eval];done));simp only[Act.put,zQ,zZ,zJ])
   |go_big_quiet_step ((first|(go_at_call 15;exact nK (AW.out _ (LC.out _)))|(go_at_call 16;exact nK (FC.out _)))))
  refine zY ?_
  intro _ hw'
  obtain⟨x,rfl⟩:=hw'
  have b1:=x.below
  generalize x.w=w2 at*
  have K1:=zW (K1.out.step b1)
  have BB:=zW (BB.out.trans (b1.mono BB.out.size))
  clear b1 LC FC CQ
 rotate_left 1
 all_goals try
  clear HR HV FW
  go_wp2_with fail
  refine(AW.out _ (LL.out.step BB.out)).mono ?_
  rintro e w3 ⟨rfl,b1⟩
  have BB:=zW (BB.out.trans (b1.mono BB.out.size))
  clear b1
  go_wp2
  go_ret
  exact⟨rfl,BB.out⟩
 have NK:=zW (pW HH.out.g HR.out);clear FW AW;have K100:=zW (qA HV.out);clear q0;go_upto_region 3 with fail;refine zH ?_;refine lL tL K1.out rfl rfl (.tmp 2) rfl rfl ?_;simp only[Act.put,zQ,zZ,zJ];go_wp2_with fail;refine(y8 s _).mono ?_;rintro e w3 ⟨rfl,bb⟩;rw[show spC s=spC (s.wf s.ca s.FA s.fn s.fc)from rfl];have K1:=zW (K1.out.step bb);have BB:=zW (BB.out.trans (bb.mono BB.out.size));clear bb;clear K1;simp only[];go_at_K
 iterate 1 go_step
 refine lO (ds:=spC (s.wf s.ca s.FA s.fn s.fc)) eN LZ rfl rfl (gZ _) rfl rfl rfl (.tmp 5) (.tmp 29) rfl zGK zGK ?_;simp only[Act.put,zQ,zZ,zJ];have K5:=zW (Blk.new w3 57 (spC (s.wf s.ca s.FA s.fn s.fc)));have bh:=zW (lV w3 (.cells (spC (s.wf s.ca s.FA s.fn s.fc)) 57));obtain⟨g5,hg⟩:∃g,w3.heap.size=g:=⟨_,rfl⟩;have GE:=zW (show w3.heap.size≤g5 from kE hg);rw[hg]at K5⊢;clear hg;generalize World.alloc w3 _=w4 at bh K5⊢;have f5:w4.frozen? ⟨g5,11,none⟩=false:=K5.out.frozen 11;have c5:w4.cell? ⟨g5,11,none⟩=some (.bool s.ca):=(K5.out.cell 11).trans rfl;go_upto_region 5 with fail;have K5:=zW ((K5.out.put 11 (.bool true)).eq (zHP s s.ca true s.FA s.fn s.fc));have bh:=zW (bh.out.setCell (p:=⟨g5,11,none⟩) GE.out (.bool true));clear f5 c5;generalize World.setCell _ _ _=w5 at bh K5⊢;have f5:w5.frozen? ⟨g5,12,none⟩=false:=K5.out.frozen 12;have c5:w5.cell? ⟨g5,12,none⟩=some (.slice s.FA s.fn s.fc):=(K5.out.cell 12).trans rfl;go_upto_region 6 with fail;have K5:=zW ((K5.out.put 12 (.slice none 0 0)).eq (zHS s true s.FA none s.fn s.fc 0 0));have bh:=zW (bh.out.setCell (p:=⟨g5,12,none⟩) GE.out (.slice none 0 0));clear f5 c5;generalize World.setCell _ _ _=w6 at bh K5⊢;have bb:=bh.out;have BB:=zW (BB.out.trans (bb.mono BB.out.size));clear bb;clear bh GE;refine zH ?_;refine lL eN K5.out rfl rfl (.tmp 5) rfl rfl ?_;simp only[Act.put,zQ,zZ,zJ];refine lO (ds:=spC (s.wf true none 0 0)) eN LZ rfl rfl (gZ _) rfl rfl rfl (.tmp 6) (.tmp 32) rfl zGK zGK ?_;simp only[Act.put,zQ,zZ,zJ];have K6:=zW (Blk.new w6 57 (spC (s.wf true none 0 0)));have bh:=zW (lV w6 (.cells (spC (s.wf true none 0 0)) 57));obtain⟨g6,hg⟩:∃g,w6.heap.size=g:=⟨_,rfl⟩;have GE:=zW (show w6.heap.size≤g6 from kE hg);rw[hg]at K6⊢;clear hg;generalize World.alloc w6 _=w7 at bh K6⊢;have f5:w7.frozen? ⟨g6,11,none⟩=false:=K6.out.frozen 11;have c5:w7.cell? ⟨g6,11,none⟩=some (.bool true):=(K6.out.cell 11).trans rfl;go_upto_region 8 with fail;have K6:=zW ((K6.out.put 11 (.bool false)).eq (zHP s true false none 0 0));have bh:=zW (bh.out.setCell (p:=⟨g6,11,none⟩) GE.out (.bool false));clear f5 c5;generalize World.setCell _ _ _=w8 at bh K6⊢;have bb:=bh.out;have BB:=zW (BB.out.trans (bb.mono BB.out.size));have K5:=zW (K5.out.step bb);clear bb;clear bh GE;refine zH ?_;refine lL eN K5.out rfl rfl (.tmp 5) rfl rfl ?_;simp only[Act.put,zQ,zZ,zJ];refine lO (ds:=spC (s.wf true none 0 0)) eN LZ rfl rfl (gZ _) rfl rfl rfl (.tmp 7) (.tmp 34) rfl zGK zGK ?_;simp only[Act.put,zQ,zZ,zJ];have K7:=zW (Blk.new w8 57 (spC (s.wf true none 0 0)));have bh:=zW (lV w8 (.cells (spC (s.wf true none 0 0)) 57));obtain⟨g7,hg⟩:∃g,w8.heap.size=g:=⟨_,rfl⟩;have GE:=zW (show w8.heap.size≤g7 from kE hg);rw[hg]at K7⊢;clear hg;generalize World.alloc w8 _=w9 at bh K7⊢;have f5:w9.frozen? ⟨g7,12,none⟩=false:=K7.out.frozen 12;have c5:w9.cell? ⟨g7,12,none⟩=some (.slice none 0 0):=(K7.out.cell 12).trans rfl;go_upto_region 10 with fail;have K7:=zW ((K7.out.put 12 (.slice B k d)).eq (zHS s true none B 0 0 k d));have bh:=zW (bh.out.setCell (p:=⟨g7,12,none⟩) GE.out (.slice B k d));clear f5 c5;generalize World.setCell _ _ _=wa at bh K7⊢;have bb:=bh.out;have BB:=zW (BB.out.trans (bb.mono BB.out.size));have K5:=zW (K5.out.step bb);have K6:=zW (K6.out.step bb);clear bb;clear bh GE;go_upto_region 10 with fail;refine zH ?_;refine lL eN K5.out rfl rfl (.tmp 5) rfl rfl ?_;simp only[Act.put,zQ,zZ,zJ];go_wp2_with fail;refine(u6 N CC.out EE.out (s.wf true none 0 0) _ (LL.out.step BB.out) ((HH.out.step BB.out).wf _ (bO _)) (N5 HR.out _ _ (qW _) _)).mono ?_;rintro e wb ⟨A1,n1,rfl,rd,bb⟩;rw[show erS (s.wf true none 0 0)=erS s from rfl];rw[show rsS N (s.wf true none 0 0) R L (l.map Fv.ev)=rsS N s R L (l.map Fv.ev)from rfl]at rd;have BB:=zW (BB.out.trans (bb.mono BB.out.size));have K5:=zW (K5.out.step bb);have K6:=zW (K6.out.step bb);have K7:=zW (K7.out.step bb);clear bb;have RA:=zW rd;clear rd;simp only[];go_at_K
 iterate 10 go_step
 refine lO (ds:=rsK false (.slice A1 n1 n1)) vD cN rfl rfl (cH _ _ rfl) rfl rfl rfl (.tmp 8) (.tmp 40) rfl zGK zGK ?_;simp only[Act.put,zQ,zZ,zJ];have V8:=zW (Blk.new wb 61 (rsK false (.slice A1 n1 n1)));have bb:=lV wb (.cells (rsK false (.slice A1 n1 n1)) 61);have BB:=zW (BB.out.trans (bb.mono BB.out.size));have K5:=zW (K5.out.step bb);have K6:=zW (K6.out.step bb);have K7:=zW (K7.out.step bb);have RA:=zW (RA.out.step bb);clear bb;obtain⟨g8,hg⟩:∃g,wb.heap.size=g:=⟨_,rfl⟩;rw[hg]at V8⊢;clear hg;generalize World.alloc wb _=wc at BB K5 K6 K7 RA V8⊢;go_upto_region 11 with fail;refine zH ?_;refine lL eN K6.out rfl rfl (.tmp 6) rfl rfl ?_;simp only[Act.put,zQ,zZ,zJ];go_wp2_with fail;refine(u6 N CC.out EE.out (s.wf false none 0 0) _ (LL.out.step BB.out) ((HH.out.step BB.out).wf _ (bO _)) (N5 HR.out _ _ (qW _) _)).mono ?_;rintro e wd ⟨A2,n2,rfl,rd,bb⟩;rw[show erS (s.wf false none 0 0)=erS s from rfl];rw[show rsS N (s.wf false none 0 0) R L (l.map Fv.ev)=rsS N s R L (l.map Fv.ev)from rfl]at rd;have BB:=zW (BB.out.trans (bb.mono BB.out.size));have K5:=zW (K5.out.step bb);have K6:=zW (K6.out.step bb);have K7:=zW (K7.out.step bb);have RA:=zW (RA.out.step bb);have V8:=zW (V8.out.step bb);clear bb;have RB22:=zW rd;clear rd;simp only[];go_at_K
 iterate 10 go_step
 refine lO (ds:=rsK false (.slice A2 n2 n2)) vD cN rfl rfl (cH _ _ rfl) rfl rfl rfl (.tmp 10) (.tmp 45) rfl zGK zGK ?_;simp only[Act.put,zQ,zZ,zJ];have V10:=zW (Blk.new wd 61 (rsK false (.slice A2 n2 n2)));have bb:=lV wd (.cells (rsK false (.slice A2 n2 n2)) 61);have BB:=zW (BB.out.trans (bb.mono BB.out.size));have K5:=zW (K5.out.step bb);have K6:=zW (K6.out.step bb);have K7:=zW (K7.out.step bb);have RA:=zW (RA.out.step bb);have V8:=zW (V8.out.step bb);have RB22:=zW (RB22.out.step bb);clear bb;obtain⟨g10,hg⟩:∃g,wd.heap.size=g:=⟨_,rfl⟩;rw[hg]at V10⊢;clear hg;generalize World.alloc wd _=we at BB K5 K6 K7 RA V8 RB22 V10⊢;go_upto_region 12 with fail;refine zH ?_;refine lL eN K7.out rfl rfl (.tmp 7) rfl rfl ?_;simp only[Act.put,zQ,zZ,zJ];go_wp2_with fail;refine(u6 N CC.out EE.out (s.wf true B k d) _ (LL.out.step BB.out) ((HH.out.step BB.out).wf _ (GB.out.step BB.out)) (N5 HR.out _ _ (K100.out) _)).mono ?_;rintro e wg ⟨A3,n3,rfl,rd,bb⟩;rw[show erS (s.wf true B k d)=erS s from rfl];rw[show rsS N (s.wf true B k d) R L (l.map Fv.ev)=rsS N s R L (l.map Fv.ev)from rfl]at rd;have BB:=zW (BB.out.trans (bb.mono BB.out.size));have K5:=zW (K5.out.step bb);have K6:=zW (K6.out.step bb);have K7:=zW (K7.out.step bb);have RA:=zW (RA.out.step bb);have V8:=zW (V8.out.step bb);have RB22:=zW (RB22.out.step bb);have V10:=zW (V10.out.step bb);clear bb;have RC22:=zW rd;clear rd;simp only[];go_at_K
 iterate 10 go_step
 refine lO (ds:=rsK false (.slice A3 n3 n3)) vD cN rfl rfl (cH _ _ rfl) rfl rfl rfl (.tmp 12) (.tmp 50) rfl zGK zGK ?_;simp only[Act.put,zQ,zZ,zJ];have V12:=zW (Blk.new wg 61 (rsK false (.slice A3 n3 n3)));have bb:=lV wg (.cells (rsK false (.slice A3 n3 n3)) 61);have BB:=zW (BB.out.trans (bb.mono BB.out.size));have K5:=zW (K5.out.step bb);have K6:=zW (K6.out.step bb);have K7:=zW (K7.out.step bb);have RA:=zW (RA.out.step bb);have V8:=zW (V8.out.step bb);have RB22:=zW (RB22.out.step bb);have V10:=zW (V10.out.step bb);have RC22:=zW (RC22.out.step bb);clear bb;obtain⟨g12,hg⟩:∃g,wg.heap.size=g:=⟨_,rfl⟩;rw[hg]at V12⊢;clear hg;generalize World.alloc wg _=wh at BB K5 K6 K7 RA V8 RB22 V10 RC22 V12⊢;obtain⟨rz,hrz⟩:∃rz,rsS N s R L (l.map Fv.ev)=rz:=⟨_,rfl⟩;have RL:=zW (show rz.length≤8 from by rw[←hrz];have h1:=rsS_le N s R L (l.map Fv.ev);rw[qI,HH.out.g.len]at h1;have:=NK.out;omega);rw[hrz]at RA RB22 RC22;clear hrz;have e2:n1=n2:=RA.out.len.symm.trans RB22.out.len;have e3:n1=n3:=RA.out.len.symm.trans RC22.out.len;subst e2 e3;obtain⟨er,her⟩:∃er,erS s=er:=⟨_,rfl⟩;rw[her];clear her;have m8:(n1:Int)≤8:=by have:=RA.out.len;have:=RL.out;omega
 have k8:wh.cell? ⟨g8,1,none⟩=some (.slice A1 n1 n1):=(V8.out.cell 1).trans rfl;have ka:wh.cell? ⟨g10,1,none⟩=some (.slice A2 n1 n1):=(V10.out.cell 1).trans rfl;have kc:wh.cell? ⟨g12,1,none⟩=some (.slice A3 n1 n1):=(V12.out.cell 1).trans rfl;have RC:=zW (show∀j,j<n1→∃a b c C,A1=some ⟨a,0,none⟩∧A2=some ⟨b,0,none⟩∧A3=some ⟨c,0,none⟩∧C.size=535∧hH Tryz.prog 45 C∧∀wr,Below wh.heap.size wh wr→wr.rangeAt a (j*535) C.toList∧wr.rangeAt b (j*535) C.toList∧wr.rangeAt c (j*535) C.toList from fun j hj=>by
  have hl:j<rz.length:=by rw[RA.out.len];exact hj
  obtain⟨a,ha,la,ra⟩:=RA.out.get hl;obtain⟨b,hb,lb,rb⟩:=RB22.out.get hl;obtain⟨c,hc,lc,rc⟩:=RC22.out.get hl;exact⟨a,b,c,nQ rz[j],ha,hb,hc,mU _,MY _,fun wr bw=>⟨fun i v hv=>(bw.cell (p:=⟨a,j*535+i,none⟩) la).trans (ra i v hv),fun i v hv=>(bw.cell (p:=⟨b,j*535+i,none⟩) lb).trans (rb i v hv),fun i v hv=>(bw.cell (p:=⟨c,j*535+i,none⟩) lc).trans (rc i v hv)⟩⟩)
 clear RA RB22 RC22;go_wp2_with fail;go_loopw [14] (fun i wr=>∃j:Nat,j≤n1∧i=.int .i64 (j:Int)∧Below wh.heap.size wh wr) (fun i _=>n1-(intOf i).toNat)
 case atStart=>exact⟨0,qW _,rfl,zB _ _⟩
 case round=>
  obtain⟨j,hj,rfl,hb⟩:=hrel
  have BW:=zW hb
  have L8:=zW V8.out.lt
  have L10:=zW V10.out.lt
  have L12:=zW V12.out.lt
  have k8:=(hb.cell (p:=⟨g8,1,none⟩) L8.out).trans k8
  have ka:=(hb.cell (p:=⟨g10,1,none⟩) L10.out).trans ka
  have kc:=(hb.cell (p:=⟨g12,1,none⟩) L12.out).trans kc
  have BB:=zW (BB.out.trans (hb.mono BB.out.size))
  have KB:=zW hb.size
  clear hb
  by_cases hlt:j<n1
  ·obtain⟨a,b,c,C,rfl,rfl,rfl,hC,hS,hr⟩:=RC.out j hlt
   have CE:=zW (zM hC hS)
   have AT:=zW hr
   have JX:=zW hlt
   have ji:(j:Int)<(n1:Int):=zGX
   have j8:(j:Int)≤8:=zGX
   clear hr hC hS
   have QA:=zW (fun w' (h:∃x:lA wr,w'=x.w)=>show w'.rangeAt a (j*535) C.toList from by obtain⟨x,rfl⟩:=h;exact(AT.out _ (BW.out.trans (x.below.mono KB.out))).1)
   have QB:=zW (fun w' (h:∃x:lA wr,w'=x.w)=>show w'.rangeAt b (j*535) C.toList from by obtain⟨x,rfl⟩:=h;exact(AT.out _ (BW.out.trans (x.below.mono KB.out))).2.1)
   have QC:=zW (fun w' (h:∃x:lA wr,w'=x.w)=>show w'.rangeAt c (j*535) C.toList from by obtain⟨x,rfl⟩:=h;exact(AT.out _ (BW.out.trans (x.below.mono KB.out))).2.2)
   have q8:=lA.cell k8 (zD L8.out KB.out)
   have qa:=lA.cell ka (zD L10.out KB.out)
   have qc:=lA.cell kc (zD L12.out KB.out)
   go_upto_region 18 with fail
   refine m7 zGV zGV ?_
   repeat(first
    |(refine vJ (o:=j*535) vF QA.out CE.out.1 ?_ (.tmp 88) ?_ ?_ ?_;(focus rfl);(focus rfl);(focus(simp[Act.eval];done));simp only[Act.put,zQ,zZ,zJ])
    |(refine vJ (o:=j*535) vF QB.out CE.out.1 ?_ (.tmp 93) ?_ ?_ ?_;(focus rfl);(focus rfl);(focus(simp[Act.eval];done));simp only[Act.put,zQ,zZ,zJ])
    |(refine vJ (o:=j*535) vF QA.out CE.out.1 ?_ (.tmp 100) ?_ ?_ ?_;(focus rfl);(focus rfl);(focus(simp[Act.eval];done));simp only[Act.put,zQ,zZ,zJ])
    |(refine vJ (o:=j*535) vF QC.out CE.out.1 ?_ (.tmp 105) ?_ ?_ ?_;(focus rfl);(focus rfl);(focus(simp[Act.eval];done));simp only[Act.put,zQ,zZ,zJ])
    |(refine uY CE.out.2 ?_ (.tmp 89) (.tmp 94) 45 ?_ ?_ ?_ ?_;(focus rfl);(focus rfl);(focus(simp[Act.eval];done));(focus(simp[Act.eval];done));simp only[Act.put,zQ,zZ,zJ])
    |(refine uY CE.out.2 ?_ (.tmp 101) (.tmp 106) 45 ?_ ?_ ?_ ?_;(focus rfl);(focus rfl);(focus(simp[Act.eval];done));(focus(simp[Act.eval];done));simp only[Act.put,zQ,zZ,zJ])
    |go_big_quiet_step (fail))
   refine zY ?_
   intro _ hw'
   obtain⟨x,rfl⟩:=hw'
   have BW:=zW (BW.out.trans (x.below.mono KB.out))
   generalize x.w=wz at BW⊢
   clear q8 qa qc QA QB QC
   go_wp2
   go_roundw
   case rel=>exact⟨j+1,JX.out,by go_num,BW.out⟩
   case measure=>have:=JX.out;simp[intOf];omega
  ·have ji:¬(j:Int)<(n1:Int):=zGX
   go_wp2
   go_returns
   exact⟨rfl,BB.out⟩
def SR(m K:Nat)(q:Pr)(cy:Int):Sp:=⟨some ⟨m,0,none⟩,K,K,none,0,0,q,cy,false,none,0,0,none,0,0⟩
theorem zVA(m K:Nat)(q:Pr)(cy:Int):Tryz.prog.built 57 [(0,.slice (some ⟨m,0,none⟩) K K),(2,.agg (prc q)),(3,.int .i64 cy)]=some (spC (SR m K q cy)):=by
 unfold prc spC SR;kernel_rfl
theorem sr_ok{m K:Nat}{q:Pr}{cy:Int}{w:World}(hb:Blk m 5 (arr (List.replicate K 0)) w)(hK:K≤1000000)(hl:(Lit.int .i64 q.lv).wf=true)(hc: -9223372036854775808≤cy∧cy≤9223372036854775807):wW (SR m K q cy) w (List.replicate K 0) [] [] []:=
 ⟨⟨iR hb 0 _ fun j hj=>by rw[qL];exact pT _ j hj,List.length_replicate,zG _,by show K≤maxLen;unfold maxLen;omega,fun x hx=>by rw[List.eq_of_mem_replicate hx];decide⟩,pD w,bO w,sY.nil w 0 (qW _) none,hl,hc⟩
theorem sr_run(N:Nat)(CS:vR N)(E0:uP N)(K:Nat)(hK:65024≤K∧K≤65026)(q:Pr)(hq:1≤q.lv∧q.lv≤3)(cy:Int)(hc: -9223372036854775808≤cy∧cy≤9223372036854775807)(hl:(Lit.int .i64 q.lv).wf=true):
  ∃(B:Bool) (er:Int),((cy<0∨65535<cy)→er=5∧B=false)∧(¬(cy<0∨65535<cy)→er=0∧B=decide (65024<K))∧∀(m:Nat) (w:World),cQ w→Blk m 5 (arr (List.replicate K 0)) w→Calls Tryz.prog 18 #[.agg (spC (SR m K q cy))] w fun e w'=>∃A,e=.returned (.tuple #[.agg (rsK B (.slice A 0 0)),.int .i64 er])∧Below w.heap.size w w':=by
 by_cases h:cy<0∨65535<cy
 ·refine⟨false,5,fun _=>⟨rfl,rfl⟩,fun c=>absurd h c,fun m w _ _=>(fW (SR m K q cy) w h).mono ?_⟩;rintro e w' ⟨rfl,b⟩;exact⟨none,rfl,b⟩
 ·by_cases hk:65024<K
  ·refine⟨true,0,fun c=>absurd c h,fun _=>⟨rfl,(qY hk).symm⟩,fun m w hL _=>(oM N CS (SR m K q cy) w hL h hq ⟨hk,by show K≤1000000;omega⟩ Rd.nil rfl (qW _)).mono ?_⟩;rintro e w' ⟨rfl,b⟩;exact⟨none,rfl,b⟩
  ·refine⟨false,0,fun c=>absurd c h,fun _=>⟨rfl,(zO hk).symm⟩,fun m w hL hb=>(dW N CS E0 (SR m K q cy) w hL (sr_ok hb zGX hl hc) cy.toNat (by show cy=(cy.toNat:Int);omega) ⟨by omega,qW _,by show 0*cy.toNat≤1000;rw[Nat.zero_mul];exact qW _,fun i hi=>absurd hi (Nat.not_lt_zero i)⟩ hq (by show K≤65024;omega) (qW _) (qW _)).mono ?_⟩;rintro e w' ⟨g,rfl,_,b⟩;exact⟨some ⟨g,0,none⟩,rfl,b⟩
theorem UC(N:Nat)(CS:vR N)(E0:uP N)(n:Nat)(q:Pr)(cy:Int)(w:World)(hn:n<256)(hl:(Lit.int .i64 q.lv).wf=true)(hc: -9223372036854775808≤cy∧cy≤9223372036854775807)(hL:cQ w):
  Calls Tryz.prog 5 #[.int .u8 (n:Int),.agg (prc q),.int .i64 cy] w fun e w'=>e=.returned (.bool true)∧Below w.heap.size w w':=by
 have CC:=zW CS;have EE:=zW E0;have LL:=zW hL;have AW:=zW (fun w h=>iS N CS E0 w h);obtain⟨P,hP⟩:∃P,prc q=P:=⟨_,rfl⟩;have sP:P.size=8:=by rw[←hP];rfl
 have p0:P[0]?=some (.int .i64 q.lv):=by rw[←hP];rfl
 obtain⟨v3,hv3⟩:∃v,n%3=v:=⟨_,rfl⟩;have V3:=zW (show v3≤2 from by have:=kU n (show 0<3 by decide);omega);obtain⟨K,hK⟩:∃K,65024+v3=K:=⟨_,rfl⟩;have KR:=zW (show 65024≤K∧K≤65026 from by have:=V3.out;omega);have SRr:=zW (fun hq=>sr_run N CS E0 K KR.out q hq cy hc hl);have CY:=zW hc;have HN:=zW hn;have HP:=zW hP;rw[hP];obtain⟨lv,hlv⟩:∃lv,q.lv=lv:=⟨_,rfl⟩;rw[hlv]at p0 SRr;clear CS E0 hL hc hl hP hn hlv;go_enter Tryz.func5,Tryz.ntmps5;go_upto_region 0 with fail;refine zH ?_;refine lE rfl _ (.tmp 1) rfl P rfl ?_;simp only[Act.put,zQ,zZ,zJ];have PB:=zW (Blk.new w 24 P);have BB:=zW (lV w (.cells P 24));obtain⟨g1,hg1⟩:∃g,w.heap.size=g:=⟨_,rfl⟩;rw[hg1]at PB⊢;clear hg1;generalize World.alloc w _=w1 at PB BB⊢;go_wp2_with fail;refine(AW.out _ (LL.out.step BB.out)).mono ?_;rintro e w2 ⟨rfl,bb⟩;have PB:=zW (PB.out.step bb);have BB:=zW (BB.out.trans (bb.mono BB.out.size));clear bb;have c0:w2.cell? ⟨g1,0,none⟩=some (.int .i64 lv):=(PB.out.cell 0).trans p0;have hcase:(lv<1)∨(¬lv<1∧(3:Int)<lv)∨(¬lv<1∧¬(3:Int)<lv):=zGX;rcases hcase with h1|⟨h1,h2⟩|⟨h1,h2⟩
 rotate_left 2
 all_goals try
  clear SRr
  go_wp2_with fail
  refine(AW.out _ (LL.out.step BB.out)).mono ?_
  rintro e w3 ⟨rfl,bb⟩
  have BB:=zW (BB.out.trans (bb.mono BB.out.size))
  clear bb c0
  go_wp2
  go_ret
  exact⟨rfl,BB.out⟩
 obtain⟨B,er,e1,e2,rn⟩:=SRr.out zGX;have E1:=zW e1;have E2:=zW e2;have RN:=zW rn;clear e1 e2 rn SRr AW;have w0:IntKind.u8.wrap ((n:Int).tmod 3)=(v3:Int):=by
  rw[iI _ _ (qG _),show(n:Int)%3=(v3:Int)from by rw[←hv3];simp];unfold IntKind.wrap;have:=V3.out;simp[IntKind.bits];omega
 have w1e:IntKind.i64.wrap (v3:Int)=(v3:Int):=by rw[zU];have:=V3.out;omega
 have w2e:IntKind.i64.wrap (65024+(v3:Int))=(K:Int):=by rw[zU];have:=V3.out;omega
 have hm:65024+(n:Int)%3=(K:Int):=by rw[show(n:Int)%3=(v3:Int)from by rw[←hv3];simp];omega
 have HM:=zW hm;have BSr:=zW (fun m=>(HP.out▸zVA m K q cy:Tryz.prog.built 57 [(0,.slice (some ⟨m,0,none⟩) K K),(2,.agg P),(3,.int .i64 cy)]=some (spC (SR m K q cy))));clear hm;go_upto_region 4 with fail;rw[HM.out];clear w0 w1e w2e hv3 hK h1 h2 c0 p0;have QS:=zW (fun w' (h:∃u:lA w2,w'=u.w)=>lD PB.out w' h);refine wF (fun A a' w'=>∃m g AV,a'=(((((((((((A.put (some 28) (.int .i64 (K:Int))).put (some 29) (.slice (some ⟨m,0,none⟩) K K)).put (some 30) (.agg P)).put (some 31) (.int .i64 cy)).put (some 32) (.agg (spC (SR m K q cy)))).put (some 33) (.tuple #[.agg (rsK B (.slice AV 0 0)),.int .i64 er])).put (some 27) (.tuple #[.agg (rsK B (.slice AV 0 0)),.int .i64 er])).put (some 34) (.agg (rsK B (.slice AV 0 0)))).put (some 35) (.int .i64 er)).put (some 8) (.pointer (some ⟨g,0,none⟩))).put (some 9) (.int .i64 er))∧Blk g 61 (rsK B (.slice AV 0 0)) w'∧Below w2.heap.size w2 w') ?_ ?_
 ·refine nU (C:=fun w'=>∃u:lA w2,w'=u.w) (.branch [0,2,3] [1,9] (fun c=>if c=1 then .branch [4] [5,9] (fun c=>if c=5 then .branch [6,7,8] [9] (fun c=> .branch [] [10] (fun c=> .last [11]))else .branch [] [5] (fun c=> .branch [6,7,8] [10] (fun c=> .last [11])))else .branch [] [1] (fun c=> .branch [4] [5] (fun c=> .branch [6,7,8] [10] (fun c=> .last [11]))))) zGV zGV (fun _ _ d _ _ h=>by cases h.1) ⟨⟨w2.drew,(zB _ _).drew⟩,rfl⟩ ?_;intro wn hwd;have CB:=zW (show Below w2.heap.size w2 wn from by rw[hwd];exact(zB _ _).drew);clear hwd;repeat' (first
   |exact fun _ h=>absurd h qT
   |with_reducible refine List.forall_mem_cons.2 ⟨?_,?_⟩
   |with_reducible show vA _ _ _ _ 1 _ _ _
    refine mB zGY zGM ?_
    intro K7 hK
    refine iC K (by have:=KR.out;omega) wn (.tmp 28) (.tmp 28) rfl rfl rfl ?_
    obtain⟨m,hm⟩:∃m,wn.heap.size=m:=⟨_,rfl⟩
    have MB:=zW (hm▸Blk.new wn 5 (arr (List.replicate K 0)))
    have bb:=lV wn (.cells (arr (List.replicate K 0)) 5)
    try have RV:=zW (RV.out.step bb)
    have CB:=zW (CB.out.trans (bb.mono CB.out.size))
    clear bb
    rw[hm]
    clear hm
    generalize World.alloc _ _=wn at*
    refine hK _ _ ⟨⟨wn,CB.out⟩,rfl⟩ ?_
    clear hK K7
    simp only[Act.put,zQ,zZ,zJ]
   |with_reducible show vA _ _ _ _ 5 _ _ _
    refine mB zGY zGM ?_
    intro K7 hK
    refine mK (g:=18) (caps:=#[]) (args:=#[.agg (spC (SR m K q cy))]) (.func 18) #[.tmp 32] _ rfl (enters_of Tryz.func18 zGV rfl) rfl zGK ?_
    refine(RN.out m wn (LL.out.step (BB.out.trans (CB.out.mono BB.out.size))) MB.out).mono ?_
    rintro e wn ⟨AV,rfl,bb⟩
    try have RV:=zW (RV.out.step bb)
    try have MB:=zW (MB.out.step bb)
    have CB:=zW (CB.out.trans (bb.mono CB.out.size))
    clear bb
    refine⟨_,rfl,?_⟩
    refine hK _ _ ⟨⟨wn,CB.out⟩,rfl⟩ ?_
    clear hK K7
    simp only[Act.put,zQ,zZ,zJ]
   |with_reducible show vA _ _ _ _ 9 _ _ _
    refine mB zGY zGM ?_
    intro K7 hK
    refine nJ cN rfl ?_
    obtain⟨g,hg⟩:∃g,wn.heap.size=g:=⟨_,rfl⟩
    have RV:=zW (hg▸Blk.new wn 61 (rsK false (.slice none 0 0)))
    have GB:=zW (show w2.heap.size≤g from by rw[←hg];exact CB.out.size)
    have bb:=lV wn (.cells (rsK false (.slice none 0 0)) 61)
    try have MB:=zW (MB.out.step bb)
    have CB:=zW (CB.out.trans (bb.mono CB.out.size))
    clear bb
    rw[hg]
    clear hg
    generalize World.alloc _ _=wn at*
    refine hK _ _ ⟨⟨wn,CB.out⟩,rfl⟩ ?_
    clear hK K7
    simp only[Act.put,zQ,zZ,zJ]
   |with_reducible show vA _ _ _ _ 10 _ _ _
    refine mB zGY zGM ?_
    intro K7 hK
    refine nY (ds:=rsK B (.slice AV 0 0)) vD RV.out rfl rfl (cH _ _ rfl) (.tmp 8) (.tmp 34) rfl zGK zGK ?_
    have RW:=zW (RV.out.store (rsK B (.slice AV 0 0)))
    have CB:=zW (lU CB.out GB.out (rsK B (.slice AV 0 0)))
    try have MB:=zW (MB.out.otherRow (rF MB.out RV.out zGL) (rsK B (.slice AV 0 0)))
    clear RV
    generalize World.setRow _ _ _=wn at*
    refine hK _ _ ⟨⟨wn,CB.out⟩,rfl⟩ ?_
    clear hK K7
    simp only[Act.put,zQ,zZ,zJ]
   |with_reducible show xV _ _ _ _ _ _ _
    refine vO zGW ?_
    repeat(go_big_quiet_step (rfl))
    refine zY ?_
    exact⟨rfl,_,_,_,rfl,RW.out,CB.out⟩
   |with_reducible show xV _ _ _ _ _ _ _
    refine mF zGW ?_
    repeat(first
     |(refine mN tM QS.out sP ?_ (.tmp 4) ?_ ?_ ?_;(focus rfl);(focus rfl);(focus(simp[Act.eval,Act.put];done));simp only[Act.put,zQ,zZ,zJ])
     |(refine vV (ty:=57) (parts:=#[(0,.tmp 29),(2,.tmp 30),(3,.tmp 31)]) (cs:=spC (SR m K q cy)) ?_ ?_ ?_ ?_;(focus rfl);(focus rfl);(focus(simp[Act.eval,Act.put];exact BSr.out m));simp only[Act.put,zQ,zZ,zJ])
     |go_big_quiet_step (rfl))
    refine zY ?_)
 rintro _ w3 ⟨m,g8,AV,rfl,r4,bb⟩;have BB:=zW (BB.out.trans (bb.mono BB.out.size));have c80:w3.cell? ⟨g8,0,none⟩=some (.bool B):=(r4.cell 0).trans rfl;have c81:w3.cell? ⟨g8,1,none⟩=some (.slice AV 0 0):=(r4.cell 1).trans rfl;clear r4 bb QS PB RN BSr;simp only[Act.put,zQ,zZ,zJ];have kcase:(65024:Int)<(K:Int)∨¬(65024:Int)<(K:Int):=zGX;have hcase:(cy<0)∨(¬cy<0∧(65535:Int)<cy)∨(¬cy<0∧¬(65535:Int)<cy):=zGX;rcases hcase with h1|⟨h1,h2⟩|⟨h1,h2⟩
 ·obtain⟨rfl,rfl⟩:=E1.out (.inl h1);exact zRV
 ·obtain⟨rfl,rfl⟩:=E1.out (.inr h2);exact zRV
 ·obtain⟨rfl,eB⟩:=E2.out (fun c=>c.elim h1 h2);rcases kcase with k1|k1
  ·obtain rfl:B=true:=by rw[eB];exact qY zGX
   clear eB;exact zRV
  ·obtain rfl:B=false:=by rw[eB];exact zO zGX
   clear eB;exact zRV
end
end Go.Proofs.YtbpniahcjbagmaaGreatDoor
