/- CpuOff, CpuStart, CpuM7, IcRef, IcSpec, IcBox, IcFind, IcPeek, IcInval, IcKeep, IcDecAt, IcGetL, IcThe. -/
import Derived.Test.YtbpniahcjbagmaaGreatDoorMk2c
set_option maxRecDepth 400000
set_option maxHeartbeats 64000000
set_option linter.unusedVariables false
set_option linter.unusedSimpArgs false
namespace Go.Proofs.YtbpniahcjbagmaaGreatDoor
section
open Go.RowKit Num Dec Cpu
theorem rF{b c:Nat}{T U:TypeId}{cs ds:Array Value}{w:World}(h:Blk b T cs w)(k:Blk c U ds w)(e:T≠U):b≠c:=fun hb=>by
 have h:w.heap[b]?=some (.cells cs T (0,0)):=h;have k:w.heap[c]?=some (.cells ds U (0,0)):=k;rw[hb,k]at h;injection h with h
 injection h with _ h
 exact e h.symm
theorem wF{P:Program}{c:Code}{Q:Exit→Act→World→Prop}{a:Act}{w:World}(Mid:Act→Act→World→Prop)(h1:c.wp P (fun x a' w'=>x=.normal∧Mid a a' w') a w)(h2:∀a' w',Mid a a' w'→Q .normal a' w'):c.wp P Q a w:=
 Code.wp_mono (fun e a' w' h=>by obtain⟨rfl,h⟩:=h;exact h2 a' w' h) h1
theorem RS.low{N:Nat}{w:World}{z:Sls}{a:AS}(R:RS N w z a):TD (fun k=>w.heap.size≤k) z:=by
 have key:∀s:Sl,(∀ad,s.A=some ad→0<s.n→ad.block<w.heap.size)→QZ (fun k=>w.heap.size≤k) s:=fun s h ad e hp c=>by
  have h1:=h ad e hp;have c:w.heap.size≤ad.block:=c;omega
 have rdl:∀(A:Option Addr) (L:List Int) (n:Nat),Rd w A L→L.length=n→∀ad,A=some ad→0<n→ad.block<w.heap.size:=fun A L n h hl ad e hp=>by
  obtain⟨ad2,e2,hb,_⟩:=h (by intro c;rw[c]at hl;simp at hl;omega);rw[e]at e2;cases e2
  exact hb
 refine⟨key _ ?_,key _ ?_,key _ ?_,key _ ?_,key _ (rdl _ _ _ R.P.1 R.P.2),key _ (rdl _ _ _ R.fl.2 (by rw[m5];exact R.fl.1.symm)),key _ (rdl _ _ _ R.L.1 R.L.2)⟩
 ·exact zRN
 ·intro ad e _;obtain⟨ad2,c,e2,r⟩:=R.M;rw[e2]at e;cases e
  exact r.1
 ·exact zRK
 ·exact zR1
theorem RS.off{N:Nat}{w w':World}{z:Sls}{a:AS}{O:Nat→Prop}(R:RS N w z a)(f:TD O z)(hp:∀p f,Pxs p f w→¬O p)(k:lS O w w'):RS N w' z a:=by
 refine⟨?_,?_,?_,?_,⟨oT R.P.1 R.P.2 k f.P,R.P.2⟩,⟨R.fl.1,oT R.fl.2 (by rw[m5];exact R.fl.1.symm) k f.fl⟩,⟨oT R.L.1 R.L.2 k f.L,R.L.2⟩⟩
 ·refine⟨fun _ _=>qW _,fun hne=>?_,R.sk.len,R.sk.cap,R.sk.max⟩;obtain⟨b',o,e,hb,hc⟩:=R.sk.row hne;have hn:=f.sk _ e (by have:=List.length_pos_iff.2 hne;rw[R.sk.len]at this;exact this);exact⟨b',o,e,zD hb k.size,fun j hj=>(qU (k.block b' hb hn)).trans (hc j hj)⟩
 ·obtain⟨ad,c,e,r⟩:=R.M;have hn:=f.M ad (by rw[e]) (by rw[e];exact Nat.zero_lt_succ _);exact⟨ad,c,e,zD r.1 k.size,fun j hj=>(qU (by rw[y9];exact k.block _ r.1 hn)).trans (r.2 j hj)⟩
 ·obtain⟨A,cap,gs,e,p⟩:=R.G;refine⟨A,cap,gs,e,p.len,fun hne=>?_,fun i hi=>?_⟩
  ·obtain⟨b',o,eA,hb,hc⟩:=p.row hne;have hn:=f.G _ (by rw[e];exact eA) (by rw[e];exact Nat.zero_lt_succ _);exact⟨b',o,eA,zD hb k.size,fun j hj=>(qU (k.block b' hb hn)).trans (hc j hj)⟩
  ·have P:=p.px i hi;have hk:=k.block _ P.lt (hp _ _ P);exact⟨zD P.lt k.size,fun j hj=>(qU hk).trans (P.at_ j hj),fun j hj=>(World.frozen?_of_block hk).trans (P.fz j hj)⟩
 ·refine⟨R.K.len,R.K.max,fun i hi=>?_⟩;obtain⟨b',o,e,hb,c1,c2,q⟩:=R.K.at_ i hi;have hn:=f.K _ e (by have:=R.K.len;omega);have hk:=k.block b' hb hn;exact⟨b',o,e,zD hb k.size,(qU hk).trans c1,(qU hk).trans c2,q⟩
theorem uH{b:Nat}{cs:Array Value}{w:World}:lS (fun k=>k=b) w (w.setRow b cs):=⟨rfl,rfl,rfl,by simp[World.setRow],fun k _ hn=>qQ _ _ _ _ hn⟩
theorem zW3(q:Pr)(w:World):Calls Tryz.prog 10 #[.agg (prc q)] w fun e w'=>e=.returned (.bool (decide (1≤q.lv∧q.lv≤3)))∧Below w.heap.size w w':=by
 obtain⟨l,b0,b1,b2,b3,b4,b5,b6⟩:=q;unfold prc;by_cases h:1≤l∧l≤3
 ·rw[qY h];obtain rfl|rfl|rfl:l=1∨l=2∨l=3:=by omega
  all_goals
   go_enter Tryz.func10,Tryz.ntmps10
   go_wp2
   go_returns
   exact⟨rfl,by go_grown⟩
 ·rw[zO h];have e1:(l==1)=false:=beq_eq_false_iff_ne.2 zGX;have e2:(l==2)=false:=beq_eq_false_iff_ne.2 zGX;have e3:(l==3)=false:=beq_eq_false_iff_ne.2 zGX;go_enter Tryz.func10,Tryz.ntmps10;go_wp2;exact zBU
theorem CpB.away{p:Nat}{T:TypeId}{cs ds:Array Value}{w w0:World}{lg:Lg}{b m g:Nat}{v:Value}{a:AS}(h:CpB lg b m g v a w0 w)(hp:Blk p T cs w)(hT:T≠89∧T≠144∧T≠148∧T≠168∧T≠5)(hl:w0.heap.size≤p):CpB lg b m g v a w0 (w.setRow p ds):=
 ⟨h.rc.away hp hT (by simp[World.setRow]) (fun k hk=>qQ _ _ _ _ hk),lU h.low hl _⟩
theorem CpB.other{lg:Lg}{b m g:Nat}{lg2:Lg}{b2 m2 g2:Nat}{v v2:Value}{a a2:AS}{wb wc w w':World}(h:CpB lg b m g v a wb w)(h2:CpB lg2 b2 m2 g2 v2 a2 wc w)(k:lS (vH b m g v) w w')(hd:∀j,vH b2 m2 g2 v2 j→¬vH b m g v j)(hl:wc.heap.size≤wb.heap.size):CpB lg2 b2 m2 g2 v2 a2 wc w':=
 ⟨h.rc.other h2.rc k hd,h2.low.trans (k.below h2.low.size fun j hj=>zR hl (h.rc.lt j hj).1)⟩
theorem fail19(N:Nat)(a:AS)(op:Int)(x y n nn:Nat)(addr len:Int)(q:Pr):(efA a op x y n q).c=0∨((efA a op x y n q).c≠0∧stA N a op x y n nn addr len q=a∧(efA a op x y n q).halt=false∧(efA a op x y n q).wait=false∧(efA a op x y n q).drew=false):=by
 unfold efA stA;by_cases h:caA a op x y n q=0
 ·left
  rw[zN h];split<;>rfl
 ·right
  rw[zL h,zL h];exact⟨h,rfl,rfl,rfl,rfl⟩
end
section
open Go.RowKit Num Dec Cpu Go.Maps
def fnV(f:Nat):Value:=.func (.func f) #[] #[]
def vlk:List (Int×Value)→Int→Option Value
 |[],_=>none
 |(k,v)::L,l=>if l=k then some v else vlk L l
def zVE(v:Value):Option (DataW Value×List MemPlace):=some (.held v,[])
structure iW(m n:Nat)(L:List (Int×Value))(w:World)(D:DataW Value):Prop where
 own:w.ownsMap Tryz.prog 3 zVE m n D
 is:IsMap D
 at_:∀l zd,D.atKey (.int .i64 l) zd=match vlk L l with|some v=> .held v|none=>zd
 has_:∀l,has D (.int .i64 l)=(vlk L l).isSome
theorem zKG(l:Int):WideAt.IsKeyLit (.int .i64 l):=by first|trivial|simp[WideAt.IsKeyLit]
theorem iW.new(w:World):iW w.heap.size 0 [] (w.alloc (.map #[] 0)) (.map []):=⟨World.ownsMap_made w _ _ _,⟨_,rfl⟩,fun _ _=>rfl,fun _=>rfl⟩
theorem lG{ops:Array Oper}{rest:List Oper}{o:Oper}{a:Act}{Q:Exit→Act→World→Prop}{w:World}{m n:Nat}{L:List (Int×Value)}{D:DataW Value}(H:iW m n L w D)(hn:n<1000)
  (hg:o.guard=none) (mx xx vx:Operand) (hop:o.op=Op.insert 199 mx xx vx) (hm:a.eval mx=.map (some m)) (k:Int) (f:Value) (hx:a.eval xx=.int .i64 k) (hv:a.eval vx=f) (hk:(Lit.int .i64 k).wf=true)
  {w0:World} (hb:Below w0.heap.size w0 w) (hge:w0.heap.size≤m)
  (h:∀w' D',iW m (n+1) ((k,f)::L) w' D'→Below w0.heap.size w0 w'→w.grownBy w' (some m)→wpList Tryz.prog ops Q rest (a.put o.dst undef) w'):wpList Tryz.prog ops Q (o::rest) a w:=by
 refine xY w hg mx xx vx 199 hop 3 197 uG Tryz.underlying199 zVE m n D hm H.own zGD _ _ (.int .i64 k) hx hv (rZ k hk) (.held f) [] rfl ?_;intro w' o' g';refine h w' _ ⟨o',H.is.put _ _,fun l zd=>?_,fun l=>?_⟩ (hb.grown g' hb.size (fun j hj=>by cases hj;exact hge)) g'
 ·unfold vlk;by_cases hl:l=k
  ·subst hl;rw[zN rfl,atKey_put_same H.is (zKG l)]
  ·rw[zL hl,atKey_put_other zGI,H.at_]
 ·unfold vlk;by_cases hl:l=k
  ·subst hl;rw[zN rfl,has_put_same H.is (zKG l)];rfl
  ·rw[zL hl,has_put_other zGI,H.has_]
theorem lF{b m:Nat}{T:TypeId}{cs:Array Value}{w w':World}(h:Blk b T cs w)(g:w.grownBy w' (some m))(hn:b≠m):Blk b T cs w':=(g.block b h.lt (fun e=>hn (jZ e))).trans h
theorem A8{m n:Nat}{L:List (Int×Value)}{w:World}{D:DataW Value}(h:iW m n L w D):m<w.heap.size:=h.own.lt
theorem JS{m n:Nat}{L:List (Int×Value)}{w:World}{D:DataW Value}(h:iW m n L w D)(o:Obj):iW m n L (w.alloc o) D:=⟨h.own.alloc o,h.is,h.at_,h.has_⟩
theorem zWA(w:World):(zeroValue 197).run Tryz.prog w=.ok .nilFunc w:=by kernel_rfl
def iU(L:List (Int×Value))(op:Int):Value:=match vlk L op with|some f=>f|none=> .nilFunc
theorem TU{P:Program}(hP:P=Tryz.prog){o:Oper}{a:Act}{K:Act→World→Prop}{Q:Exit→Act→World→Prop}{w:World}{m n:Nat}{L:List (Int×Value)}{D:DataW Value}(H:iW m n L w D)(mx xx:Operand)(hop:o.op=Op.lookup 199 mx xx true)(hm:a.eval mx=.map (some m))(op:Int)(hx:a.eval xx=.int .i64 op)(hk:(Lit.int .i64 op).wf=true)
  (h:K (a.put o.dst (.tuple #[iU L op,.bool (vlk L op).isSome])) w):o.wp P a w K Q:=by
 subst hP;obtain⟨v,ps,hrun,hv⟩:=H.own.look_ok uG Tryz.underlying199 (zWA w) (zd:=.held .nilFunc) (zp:=[]) rfl (rZ op hk);have e:v=iU L op:=by
  rw[H.at_]at hv;unfold zVE iU at*;cases hc:vlk L op with
  |none=>rw[hc]at hv;simp only[kZ,kQ,DataW.held.injEq]at hv;exact hv.1
  |some f=>rw[hc]at hv;simp only[kZ,kQ,DataW.held.injEq]at hv;exact hv.1
 rw[e,H.has_]at hrun;unfold Oper.wp;simp[execOp,hop,hm,hx,hrun,Result.andThen];exact h
def nA(gs gb:Nat):List (Int×Value):=[(51,fnV 119),(50,fnV 118),(29,fnV 117),(28,fnV 116),(26,fnV 115),(44,fnV 114),(43,fnV 113),(22,fnV 112),(37,fnV 111),(36,fnV 111),(45,fnV 111),(35,fnV 111),(49,fnV 110),(41,fnV 109),(23,fnV 109),(40,fnV 108),(39,fnV 108),(1,fnV 107),(47,fnV 106),(46,fnV 105),(34,fnV 104),(33,fnV 103),(32,fnV 102),(42,.func (.func 130) #[] #[.pointer (some ⟨gb,0,none⟩)]),(31,.func (.func 130) #[] #[.pointer (some ⟨gs,0,none⟩)]),(30,fnV 98),(48,fnV 97),(20,fnV 97),(27,fnV 96),(38,fnV 95),(2,fnV 94),(4,fnV 93),(21,fnV 92),(3,fnV 91),(25,fnV 90),(24,fnV 90),(19,fnV 89),(7,fnV 89),(6,fnV 89),(5,fnV 89),(18,fnV 88),(16,fnV 88),(17,fnV 88),(15,fnV 88),(14,fnV 88),(13,fnV 88),(12,fnV 88),(11,fnV 88),(10,fnV 88),(9,fnV 88),(8,fnV 88)]
theorem zL6(F:Nat)(w:World):Calls Tryz.prog 99 #[.func (.func F) #[] #[]] w fun e w'=>e=.returned (.func (.func 130) #[] #[.pointer (some ⟨w.heap.size,0,none⟩)])∧w'=w.alloc (.cells #[.func (.func F) #[] #[]] 187):=by
 have hmf:∀(fn:Fn) (first cap:Array Value) (w:World),(Instr.makeFunc fn first cap).run Tryz.prog w=.ok (.func fn first cap) w:=fun _ _ _ _=>rfl;go_enter Tryz.func99,Tryz.ntmps99;go_wp2;exact zRX
theorem zKC(w:World):Calls Tryz.prog 79 #[] w fun e w'=>∃m D gs gb,e=.returned (.map (some m))∧iW m 51 (nA gs gb) w' D∧Below w.heap.size w w'∧Blk gs 187 #[.func (.func 100) #[] #[]] w'∧Blk gb 187 #[.func (.func 101) #[] #[]] w':=by
 have hmm:= @run_makeMap Tryz.prog;have GL:=zW zL6;go_enter Tryz.func79,Tryz.ntmps79;go_upto_region 1 with fail;refine zH ?_;iterate 3 go_step
 have M:=zW (iW.new w);have B:=zW (show Below w.heap.size w (w.alloc (.map #[] 0))from(zB _ _).alloc (zG _) _);obtain⟨m,hm⟩:∃m,w.heap.size=m:=⟨_,rfl⟩;have ML:=zW (kE hm);rw[hm]at M⊢;clear hmm hm;generalize w.alloc (.map #[] 0)=w0 at*;refine lG M.out zGX rfl (.tmp 1) (.const (.int .i64 8)) (.func 88) rfl rfl 8 (fnV 88) rfl rfl zGL B.out ML.out ?_;simp only[Act.put];clear M B;intro w1 D1 mm bb gg;have M:=zW mm;have B:=zW bb;clear mm bb gg;refine lG M.out zGX rfl (.tmp 1) (.const (.int .i64 9)) (.func 88) rfl rfl 9 (fnV 88) rfl rfl zGL B.out ML.out ?_;simp only[Act.put];clear M B;intro w2 D2h mm bb gg;have M:=zW mm;have B:=zW bb;clear mm bb gg;refine lG M.out zGX rfl (.tmp 1) (.const (.int .i64 10)) (.func 88) rfl rfl 10 (fnV 88) rfl rfl zGL B.out ML.out ?_;simp only[Act.put];clear M B;intro w3 D3h mm bb gg;have M:=zW mm;have B:=zW bb;clear mm bb gg;refine lG M.out zGX rfl (.tmp 1) (.const (.int .i64 11)) (.func 88) rfl rfl 11 (fnV 88) rfl rfl zGL B.out ML.out ?_;simp only[Act.put];clear M B;intro w4 D4 mm bb gg;have M:=zW mm;have B:=zW bb;clear mm bb gg;refine lG M.out zGX rfl (.tmp 1) (.const (.int .i64 12)) (.func 88) rfl rfl 12 (fnV 88) rfl rfl zGL B.out ML.out ?_;simp only[Act.put];clear M B;intro w5 D5 mm bb gg;have M:=zW mm;have B:=zW bb;clear mm bb gg;refine lG M.out zGX rfl (.tmp 1) (.const (.int .i64 13)) (.func 88) rfl rfl 13 (fnV 88) rfl rfl zGL B.out ML.out ?_;simp only[Act.put];clear M B;intro w6 D6 mm bb gg;have M:=zW mm;have B:=zW bb;clear mm bb gg;refine lG M.out zGX rfl (.tmp 1) (.const (.int .i64 14)) (.func 88) rfl rfl 14 (fnV 88) rfl rfl zGL B.out ML.out ?_;simp only[Act.put];clear M B;intro w7 D7 mm bb gg;have M:=zW mm;have B:=zW bb;clear mm bb gg;refine lG M.out zGX rfl (.tmp 1) (.const (.int .i64 15)) (.func 88) rfl rfl 15 (fnV 88) rfl rfl zGL B.out ML.out ?_;simp only[Act.put];clear M B;intro w8 D8 mm bb gg;have M:=zW mm;have B:=zW bb;clear mm bb gg;refine lG M.out zGX rfl (.tmp 1) (.const (.int .i64 17)) (.func 88) rfl rfl 17 (fnV 88) rfl rfl zGL B.out ML.out ?_;simp only[Act.put];clear M B;intro w9 D9 mm bb gg;have M:=zW mm;have B:=zW bb;clear mm bb gg;refine lG M.out zGX rfl (.tmp 1) (.const (.int .i64 16)) (.func 88) rfl rfl 16 (fnV 88) rfl rfl zGL B.out ML.out ?_;simp only[Act.put];clear M B;intro w10 D10 mm bb gg;have M:=zW mm;have B:=zW bb;clear mm bb gg;refine lG M.out zGX rfl (.tmp 1) (.const (.int .i64 18)) (.func 88) rfl rfl 18 (fnV 88) rfl rfl zGL B.out ML.out ?_;simp only[Act.put];clear M B;intro w11 D11 mm bb gg;have M:=zW mm;have B:=zW bb;clear mm bb gg;refine lG M.out zGX rfl (.tmp 1) (.const (.int .i64 5)) (.func 89) rfl rfl 5 (fnV 89) rfl rfl zGL B.out ML.out ?_;simp only[Act.put];clear M B;intro w12 D12 mm bb gg;have M:=zW mm;have B:=zW bb;clear mm bb gg;refine lG M.out zGX rfl (.tmp 1) (.const (.int .i64 6)) (.func 89) rfl rfl 6 (fnV 89) rfl rfl zGL B.out ML.out ?_;simp only[Act.put];clear M B;intro w13 D13 mm bb gg;have M:=zW mm;have B:=zW bb;clear mm bb gg;refine lG M.out zGX rfl (.tmp 1) (.const (.int .i64 7)) (.func 89) rfl rfl 7 (fnV 89) rfl rfl zGL B.out ML.out ?_;simp only[Act.put];clear M B;intro w14 D14 mm bb gg;have M:=zW mm;have B:=zW bb;clear mm bb gg;refine lG M.out zGX rfl (.tmp 1) (.const (.int .i64 19)) (.func 89) rfl rfl 19 (fnV 89) rfl rfl zGL B.out ML.out ?_;simp only[Act.put];clear M B;intro w15 D15 mm bb gg;have M:=zW mm;have B:=zW bb;clear mm bb gg;refine lG M.out zGX rfl (.tmp 1) (.const (.int .i64 24)) (.func 90) rfl rfl 24 (fnV 90) rfl rfl zGL B.out ML.out ?_;simp only[Act.put];clear M B;intro w16 D16 mm bb gg;have M:=zW mm;have B:=zW bb;clear mm bb gg;refine lG M.out zGX rfl (.tmp 1) (.const (.int .i64 25)) (.func 90) rfl rfl 25 (fnV 90) rfl rfl zGL B.out ML.out ?_;simp only[Act.put];clear M B;intro w17 D17 mm bb gg;have M:=zW mm;have B:=zW bb;clear mm bb gg;refine lG M.out zGX rfl (.tmp 1) (.const (.int .i64 3)) (.func 91) rfl rfl 3 (fnV 91) rfl rfl zGL B.out ML.out ?_;simp only[Act.put];clear M B;intro w18 D18 mm bb gg;have M:=zW mm;have B:=zW bb;clear mm bb gg;refine lG M.out zGX rfl (.tmp 1) (.const (.int .i64 21)) (.func 92) rfl rfl 21 (fnV 92) rfl rfl zGL B.out ML.out ?_;simp only[Act.put];clear M B;intro w19 D19 mm bb gg;have M:=zW mm;have B:=zW bb;clear mm bb gg;refine lG M.out zGX rfl (.tmp 1) (.const (.int .i64 4)) (.func 93) rfl rfl 4 (fnV 93) rfl rfl zGL B.out ML.out ?_;simp only[Act.put];clear M B;intro w20 D20 mm bb gg;have M:=zW mm;have B:=zW bb;clear mm bb gg;refine lG M.out zGX rfl (.tmp 1) (.const (.int .i64 2)) (.func 94) rfl rfl 2 (fnV 94) rfl rfl zGL B.out ML.out ?_;simp only[Act.put];clear M B;intro w21 D21 mm bb gg;have M:=zW mm;have B:=zW bb;clear mm bb gg;refine lG M.out zGX rfl (.tmp 1) (.const (.int .i64 38)) (.func 95) rfl rfl 38 (fnV 95) rfl rfl zGL B.out ML.out ?_;simp only[Act.put];clear M B;intro w22 D22 mm bb gg;have M:=zW mm;have B:=zW bb;clear mm bb gg;refine lG M.out zGX rfl (.tmp 1) (.const (.int .i64 27)) (.func 96) rfl rfl 27 (fnV 96) rfl rfl zGL B.out ML.out ?_;simp only[Act.put];clear M B;intro w23 D23 mm bb gg;have M:=zW mm;have B:=zW bb;clear mm bb gg;refine lG M.out zGX rfl (.tmp 1) (.const (.int .i64 20)) (.func 97) rfl rfl 20 (fnV 97) rfl rfl zGL B.out ML.out ?_;simp only[Act.put];clear M B;intro w24 D24 mm bb gg;have M:=zW mm;have B:=zW bb;clear mm bb gg;refine lG M.out zGX rfl (.tmp 1) (.const (.int .i64 48)) (.func 97) rfl rfl 48 (fnV 97) rfl rfl zGL B.out ML.out ?_;simp only[Act.put];clear M B;intro w25 D25 mm bb gg;have M:=zW mm;have B:=zW bb;clear mm bb gg;refine lG M.out zGX rfl (.tmp 1) (.const (.int .i64 30)) (.func 98) rfl rfl 30 (fnV 98) rfl rfl zGL B.out ML.out ?_;simp only[Act.put];clear M B;intro w26 D26 mm bb gg;have M:=zW mm;have B:=zW bb;clear mm bb gg;go_wp2_with fail;refine(GL.out 100 _).mono ?_;rintro e w' ⟨rfl,rfl⟩;have S:=zW (Blk.new w26 187 #[.func (.func 100) #[] #[]]);have bz:=lV w26 (.cells #[.func (.func 100) #[] #[]] 187);have Sn:=zW (show w26.heap.size≠m from fun e=>by have:=A8 M.out;omega);have M:=zW (JS M.out (.cells #[.func (.func 100) #[] #[]] 187));have B:=zW (B.out.trans (bz.mono B.out.size));clear bz;obtain⟨gs,hgs⟩:∃g,w26.heap.size=g:=⟨_,rfl⟩;rw[hgs]at S Sn⊢;clear hgs;generalize World.alloc w26 _=w26a at*;simp only[];go_at_K
 iterate 1 go_step
 refine lG M.out zGX rfl (.tmp 1) (.const (.int .i64 31)) (.tmp 2) rfl rfl 31 (.func (.func 130) #[] #[.pointer (some ⟨gs,0,none⟩)]) rfl rfl zGL B.out ML.out ?_;simp only[Act.put];clear M B;intro w27 D27 mm bb gg;have M:=zW mm;have B:=zW bb;have S:=zW (lF S.out gg Sn.out);clear mm bb gg;go_wp2_with fail;refine(GL.out 101 _).mono ?_;rintro e w' ⟨rfl,rfl⟩;have T:=zW (Blk.new w27 187 #[.func (.func 101) #[] #[]]);have bz:=lV w27 (.cells #[.func (.func 101) #[] #[]] 187);have Tn:=zW (show w27.heap.size≠m from fun e=>by have:=A8 M.out;omega);have M:=zW (JS M.out (.cells #[.func (.func 101) #[] #[]] 187));have B:=zW (B.out.trans (bz.mono B.out.size));have S:=zW (S.out.step bz);clear bz;obtain⟨gb,hgb⟩:∃g,w27.heap.size=g:=⟨_,rfl⟩;rw[hgb]at T Tn⊢;clear hgb;generalize World.alloc w27 _=w27a at*;simp only[];go_at_K
 iterate 1 go_step
 refine lG M.out zGX rfl (.tmp 1) (.const (.int .i64 42)) (.tmp 3) rfl rfl 42 (.func (.func 130) #[] #[.pointer (some ⟨gb,0,none⟩)]) rfl rfl zGL B.out ML.out ?_;simp only[Act.put];clear M B;intro w28 D28 mm bb gg;have M:=zW mm;have B:=zW bb;have S:=zW (lF S.out gg Sn.out);have T:=zW (lF T.out gg Tn.out);clear mm bb gg;refine lG M.out zGX rfl (.tmp 1) (.const (.int .i64 32)) (.func 102) rfl rfl 32 (fnV 102) rfl rfl zGL B.out ML.out ?_;simp only[Act.put];clear M B;intro w29 D29 mm bb gg;have M:=zW mm;have B:=zW bb;have S:=zW (lF S.out gg Sn.out);have T:=zW (lF T.out gg Tn.out);clear mm bb gg;refine lG M.out zGX rfl (.tmp 1) (.const (.int .i64 33)) (.func 103) rfl rfl 33 (fnV 103) rfl rfl zGL B.out ML.out ?_;simp only[Act.put];clear M B;intro w30 D30 mm bb gg;have M:=zW mm;have B:=zW bb;have S:=zW (lF S.out gg Sn.out);have T:=zW (lF T.out gg Tn.out);clear mm bb gg;refine lG M.out zGX rfl (.tmp 1) (.const (.int .i64 34)) (.func 104) rfl rfl 34 (fnV 104) rfl rfl zGL B.out ML.out ?_;simp only[Act.put];clear M B;intro w31 D31 mm bb gg;have M:=zW mm;have B:=zW bb;have S:=zW (lF S.out gg Sn.out);have T:=zW (lF T.out gg Tn.out);clear mm bb gg;refine lG M.out zGX rfl (.tmp 1) (.const (.int .i64 46)) (.func 105) rfl rfl 46 (fnV 105) rfl rfl zGL B.out ML.out ?_;simp only[Act.put];clear M B;intro w32 D32 mm bb gg;have M:=zW mm;have B:=zW bb;have S:=zW (lF S.out gg Sn.out);have T:=zW (lF T.out gg Tn.out);clear mm bb gg;refine lG M.out zGX rfl (.tmp 1) (.const (.int .i64 47)) (.func 106) rfl rfl 47 (fnV 106) rfl rfl zGL B.out ML.out ?_;simp only[Act.put];clear M B;intro w33 D33 mm bb gg;have M:=zW mm;have B:=zW bb;have S:=zW (lF S.out gg Sn.out);have T:=zW (lF T.out gg Tn.out);clear mm bb gg;refine lG M.out zGX rfl (.tmp 1) (.const (.int .i64 1)) (.func 107) rfl rfl 1 (fnV 107) rfl rfl zGL B.out ML.out ?_;simp only[Act.put];clear M B;intro w34 D34 mm bb gg;have M:=zW mm;have B:=zW bb;have S:=zW (lF S.out gg Sn.out);have T:=zW (lF T.out gg Tn.out);clear mm bb gg;refine lG M.out zGX rfl (.tmp 1) (.const (.int .i64 39)) (.func 108) rfl rfl 39 (fnV 108) rfl rfl zGL B.out ML.out ?_;simp only[Act.put];clear M B;intro w35 D35 mm bb gg;have M:=zW mm;have B:=zW bb;have S:=zW (lF S.out gg Sn.out);have T:=zW (lF T.out gg Tn.out);clear mm bb gg;refine lG M.out zGX rfl (.tmp 1) (.const (.int .i64 40)) (.func 108) rfl rfl 40 (fnV 108) rfl rfl zGL B.out ML.out ?_;simp only[Act.put];clear M B;intro w36 D36 mm bb gg;have M:=zW mm;have B:=zW bb;have S:=zW (lF S.out gg Sn.out);have T:=zW (lF T.out gg Tn.out);clear mm bb gg;refine lG M.out zGX rfl (.tmp 1) (.const (.int .i64 23)) (.func 109) rfl rfl 23 (fnV 109) rfl rfl zGL B.out ML.out ?_;simp only[Act.put];clear M B;intro w37 D37 mm bb gg;have M:=zW mm;have B:=zW bb;have S:=zW (lF S.out gg Sn.out);have T:=zW (lF T.out gg Tn.out);clear mm bb gg;refine lG M.out zGX rfl (.tmp 1) (.const (.int .i64 41)) (.func 109) rfl rfl 41 (fnV 109) rfl rfl zGL B.out ML.out ?_;simp only[Act.put];clear M B;intro w38 D38 mm bb gg;have M:=zW mm;have B:=zW bb;have S:=zW (lF S.out gg Sn.out);have T:=zW (lF T.out gg Tn.out);clear mm bb gg;refine lG M.out zGX rfl (.tmp 1) (.const (.int .i64 49)) (.func 110) rfl rfl 49 (fnV 110) rfl rfl zGL B.out ML.out ?_;simp only[Act.put];clear M B;intro w39 D39 mm bb gg;have M:=zW mm;have B:=zW bb;have S:=zW (lF S.out gg Sn.out);have T:=zW (lF T.out gg Tn.out);clear mm bb gg;refine lG M.out zGX rfl (.tmp 1) (.const (.int .i64 35)) (.func 111) rfl rfl 35 (fnV 111) rfl rfl zGL B.out ML.out ?_;simp only[Act.put];clear M B;intro w40 D40 mm bb gg;have M:=zW mm;have B:=zW bb;have S:=zW (lF S.out gg Sn.out);have T:=zW (lF T.out gg Tn.out);clear mm bb gg;refine lG M.out zGX rfl (.tmp 1) (.const (.int .i64 45)) (.func 111) rfl rfl 45 (fnV 111) rfl rfl zGL B.out ML.out ?_;simp only[Act.put];clear M B;intro w41 D41 mm bb gg;have M:=zW mm;have B:=zW bb;have S:=zW (lF S.out gg Sn.out);have T:=zW (lF T.out gg Tn.out);clear mm bb gg;refine lG M.out zGX rfl (.tmp 1) (.const (.int .i64 36)) (.func 111) rfl rfl 36 (fnV 111) rfl rfl zGL B.out ML.out ?_;simp only[Act.put];clear M B;intro w42 D42 mm bb gg;have M:=zW mm;have B:=zW bb;have S:=zW (lF S.out gg Sn.out);have T:=zW (lF T.out gg Tn.out);clear mm bb gg;refine lG M.out zGX rfl (.tmp 1) (.const (.int .i64 37)) (.func 111) rfl rfl 37 (fnV 111) rfl rfl zGL B.out ML.out ?_;simp only[Act.put];clear M B;intro w43 D43 mm bb gg;have M:=zW mm;have B:=zW bb;have S:=zW (lF S.out gg Sn.out);have T:=zW (lF T.out gg Tn.out);clear mm bb gg;refine lG M.out zGX rfl (.tmp 1) (.const (.int .i64 22)) (.func 112) rfl rfl 22 (fnV 112) rfl rfl zGL B.out ML.out ?_;simp only[Act.put];clear M B;intro w44 D44 mm bb gg;have M:=zW mm;have B:=zW bb;have S:=zW (lF S.out gg Sn.out);have T:=zW (lF T.out gg Tn.out);clear mm bb gg;refine lG M.out zGX rfl (.tmp 1) (.const (.int .i64 43)) (.func 113) rfl rfl 43 (fnV 113) rfl rfl zGL B.out ML.out ?_;simp only[Act.put];clear M B;intro w45 D45 mm bb gg;have M:=zW mm;have B:=zW bb;have S:=zW (lF S.out gg Sn.out);have T:=zW (lF T.out gg Tn.out);clear mm bb gg;refine lG M.out zGX rfl (.tmp 1) (.const (.int .i64 44)) (.func 114) rfl rfl 44 (fnV 114) rfl rfl zGL B.out ML.out ?_;simp only[Act.put];clear M B;intro w46 D46 mm bb gg;have M:=zW mm;have B:=zW bb;have S:=zW (lF S.out gg Sn.out);have T:=zW (lF T.out gg Tn.out);clear mm bb gg;refine lG M.out zGX rfl (.tmp 1) (.const (.int .i64 26)) (.func 115) rfl rfl 26 (fnV 115) rfl rfl zGL B.out ML.out ?_;simp only[Act.put];clear M B;intro w47 D47 mm bb gg;have M:=zW mm;have B:=zW bb;have S:=zW (lF S.out gg Sn.out);have T:=zW (lF T.out gg Tn.out);clear mm bb gg;refine lG M.out zGX rfl (.tmp 1) (.const (.int .i64 28)) (.func 116) rfl rfl 28 (fnV 116) rfl rfl zGL B.out ML.out ?_;simp only[Act.put];clear M B;intro w48 D48 mm bb gg;have M:=zW mm;have B:=zW bb;have S:=zW (lF S.out gg Sn.out);have T:=zW (lF T.out gg Tn.out);clear mm bb gg;refine lG M.out zGX rfl (.tmp 1) (.const (.int .i64 29)) (.func 117) rfl rfl 29 (fnV 117) rfl rfl zGL B.out ML.out ?_;simp only[Act.put];clear M B;intro w49 D49 mm bb gg;have M:=zW mm;have B:=zW bb;have S:=zW (lF S.out gg Sn.out);have T:=zW (lF T.out gg Tn.out);clear mm bb gg;refine lG M.out zGX rfl (.tmp 1) (.const (.int .i64 50)) (.func 118) rfl rfl 50 (fnV 118) rfl rfl zGL B.out ML.out ?_;simp only[Act.put];clear M B;intro w50 D50 mm bb gg;have M:=zW mm;have B:=zW bb;have S:=zW (lF S.out gg Sn.out);have T:=zW (lF T.out gg Tn.out);clear mm bb gg;refine lG M.out zGX rfl (.tmp 1) (.const (.int .i64 51)) (.func 119) rfl rfl 51 (fnV 119) rfl rfl zGL B.out ML.out ?_;simp only[Act.put];clear M B;intro w51 D51 mm bb gg;have M:=zW mm;have B:=zW bb;have S:=zW (lF S.out gg Sn.out);have T:=zW (lF T.out gg Tn.out);clear mm bb gg;go_wp2_with fail;go_ret;exact⟨m,_,gs,gb,rfl,M.out,B.out,S.out,T.out⟩
end
section
open Go.RowKit Num Dec
def zVV(p:Nat×Ins):List Value:=[.int .i64 (p.1:Int),.int .i64 p.2.op,.int .i64 p.2.x,.int .i64 p.2.y,.int .i64 p.2.n,.int .i64 p.2.nn,.int .i64 p.2.addr,.int .i64 p.2.len]
def FG(w:World)(A:Option Addr)(l:nB):Prop:=l≠[]→∃b,A=some ⟨b,0,none⟩∧b<w.heap.size∧∀k (h:k<l.length) j v,(zVV l[k])[j]?=some v→w.cell? ⟨b,k*8+j,none⟩=some v
theorem FG.nil{w:World}{A:Option Addr}:FG w A []:=fun h=>absurd rfl h
theorem FG.below{w w':World}{A:Option Addr}{l:nB}(h:FG w A l)(hb:Below w.heap.size w w'):FG w' A l:=fun hne=>by
 obtain⟨b,e,hlt,hc⟩:=h hne;exact⟨b,e,zD hlt hb.size,fun k hk j v hv=>(hb.cell (p:=⟨b,k*8+j,none⟩) hlt).trans (hc k hk j v hv)⟩
theorem FG.at_{w:World}{A:Option Addr}{l:nB}(h:FG w A l){k:Nat}(hk:k<l.length):∃b,A=some ⟨b,0,none⟩∧b<w.heap.size∧∀j v,(zVV l[k])[j]?=some v→w.cell? ⟨b,k*8+j,none⟩=some v:=by
 obtain⟨b,e,hlt,hc⟩:=h zG2;exact⟨b,e,hlt,hc k hk⟩
def BtM(M:List Int):Prop:=∀b∈M,0≤b∧b≤255
theorem zJD{M:List Int}(h:BtM M)(a:Int)(n j:Nat)(hM:M.length=65536)(hj:j<n):∃v:Nat,v<256∧(seg M a n)[j]?=some (v:Int):=by
 rw[rO M a n j hM hj];have hlt:((a+(j:Int))%65536).toNat<M.length:=zGX;rw[zS hlt];have:=h _ (j4 hlt);exact⟨(M[((a+(j:Int))%65536).toNat]).toNat,by omega,by rw[Int.toNat_of_nonneg this.1]⟩
theorem yH{M:List Int}(h:BtM M)(a:Int)(j:Nat)(hM:M.length=65536)(hj:j<4):uC M a j<256∧(seg M a 4)[j]?=some ((uC M a j:Nat):Int):=by
 obtain⟨v,hv,e⟩:=zJD h a 4 j hM hj;have:uC M a j=v:=by
  unfold uC;rw[qJ,e];simp
 rw[this];exact⟨hv,e⟩
def gQ(a:Int):Nat:=(a%65536).toNat
abbrev zWB:=(Nat→Prop)→Nat→Int→Bool→nB→Nat→Nat→World→Prop
section
variable {F:zWB} {La:World→Prop} {O O':Nat→Prop} {p h m h' m':Nat} {lv:Int} {en:Bool} {l l':nB} {u w w':World}
structure IcAt(F:zWB)(base:Nat)(O:Nat→Prop)(p:Nat)(lv:Int)(en:Bool)(l:nB)(h m:Nat)(w:World):Prop where
 form:F O p lv en l h m w
 above:∀k,O k→base≤k
 lt:∀k,O k→k<w.heap.size
 base_le:base≤w.heap.size
theorem IcAt.away{base:Nat}(hi:IcAt F base O p lv en l h m w){k:Nat}(hk:k<base):¬O k:=fun c=>by have:=hi.above k c;omega
end
def wD:Option Ins→Array Value
 |none=> #[.bool false,.int .i64 0,.int .i64 0,.int .i64 0,.int .i64 0,.int .i64 0,.int .i64 0,.int .i64 0]
 |some i=> #[.bool true,.int .i64 i.op,.int .i64 i.x,.int .i64 i.y,.int .i64 i.n,.int .i64 i.nn,.int .i64 i.addr,.int .i64 i.len]
theorem zQL(x:Option Ins):(wD x).size=8:=by cases x<;>rfl
theorem fB(x:Option Ins):n8 (wD x):=by cases x<;>(unfold n8 wD;kernel_rfl)
theorem Z9:vZ Tryz.prog 183 8:=⟨⟨_,Tryz.underlying183,rfl⟩,by kernel_rfl⟩
theorem zWV:vZ Tryz.prog 152 256:=⟨⟨_,Tryz.underlying152,rfl⟩,by kernel_rfl⟩
def eQ:Array Value:=((List.replicate 256 (wD none).toList).flatten).toArray
theorem zZB:nH Tryz.prog 190 eQ:=by unfold nH eQ;kernel_rfl
def bD:Array Value:=(List.replicate 256 (Value.pointer none)).toArray
theorem SD:Tryz.prog.built 152 []=some bD:=by unfold bD;kernel_rfl
def VE(N:Nat)(lv:Int)(en:Bool):List Value:=Value.int .i64 lv::Value.bool en::(List.replicate N (Value.pointer none)++[Value.int .i64 0,Value.int .i64 0,Value.int .i64 0])
def ND(lv:Int)(en:Bool):Array Value:=(VE 256 lv en).toArray
theorem PV(lv:Int)(en:Bool):Tryz.prog.built 159 [(0,.int .i64 lv),(1,.bool en)]=some (ND lv en):=by unfold ND VE;kernel_rfl
theorem TA:eQ.size=2048:=by unfold eQ;simp[wD]
theorem zYE(n r j:Nat)(L:List Value)(hr:r<n)(hj:j<L.length):((List.replicate n L).flatten)[r*L.length+j]?=L[j]?:=by
 induction n generalizing r with
 |zero=>omega
 |succ n ih=>
  rw[List.replicate_succ,List.flatten_cons]
  match r,hr with
  |0,_=>rw[Nat.zero_mul,qL,qF hj]
  |r+1,hr=>
   rw[qE (by rw[Nat.succ_mul];omega),show(r+1)*L.length+j-L.length=r*L.length+j by rw[Nat.succ_mul];omega]
   exact ih r zGX
theorem IH(r j:Nat)(hr:r<256)(hj:j<8):eQ[r*8+j]?=(wD none)[j]?:=by
 unfold eQ;rw[zX];have:=zYE 256 r j (wD none).toList hr hj;rw[show(wD none).toList.length=8 from rfl]at this;rw[this];simp
theorem aX(cs ds:Array Value)(o j:Nat)(ho:o+ds.size≤cs.size):(lP cs o ds)[j]?=if o≤j∧j<o+ds.size then ds[j-o]? else cs[j]?:=by
 have h0:(cs.toList.take o).length=o:=by simp;omega
 have h1:(cs.toList.take o++ds.toList).length=o+ds.size:=by simp;omega
 unfold lP;rw[zX];by_cases h:o≤j∧j<o+ds.size
 ·rw[zN h,qF (by rw[h1];omega),qE (by rw[h0];omega),h0];simp
 ·rw[zL h];by_cases h2:j<o
  ·rw[kJ,qF (by rw[h0];omega),List.getElem?_take_of_lt h2];simp
  ·rw[qE (by rw[h1];omega),h1,j5];rw[show o+ds.size+(j-(o+ds.size))=j by omega];simp
theorem aJ(cs ds:Array Value)(o:Nat)(ho:o+ds.size≤cs.size):(lP cs o ds).size=cs.size:=by
 unfold lP;simp;omega
def PB(f:Nat→Option Ins)(b:Nat)(w:World):Prop:=∃cs,Blk b 190 cs w∧cs.size=2048∧∀r j,r<256→j<8→cs[r*8+j]?=(wD (f r))[j]?
def CB(pg:Nat→Option Nat)(p:Nat)(lv:Int)(en:Bool)(n h m:Int)(w:World):Prop:=
 ∃cs,Blk p 159 cs w∧cs.size=261∧cs[0]?=some (.int .i64 lv)∧cs[1]?=some (.bool en)∧(∀k,k<256→cs[2+k]?=some (.pointer ((pg k).map fun b=>⟨b,0,none⟩)))∧
  cs[258]?=some (.int .i64 n)∧cs[259]?=some (.int .i64 h)∧cs[260]?=some (.int .i64 m)
section
variable {f:Nat→Option Ins} {b p:Nat} {w w':World} {pg:Nat→Option Nat} {lv n h m:Int} {en:Bool} {O:Nat→Prop}
theorem PB.lt(H:PB f b w):b<w.heap.size:=by obtain⟨cs,h,_⟩:=H;exact h.lt
theorem PB.keep(H:PB f b w)(e:w'.heap[b]?=w.heap[b]?):PB f b w':=by obtain⟨cs,h,r⟩:=H;exact⟨cs,e.trans h,r⟩
theorem PB.kept(H:PB f b w)(k:lS O w w')(ho:¬O b):PB f b w':=H.keep (k.block b H.lt ho)
theorem PB.cell(H:PB f b w){r j:Nat}(hr:r<256)(hj:j<8):w.cell? ⟨b,r*8+j,none⟩=(wD (f r))[j]?:=by
 obtain⟨cs,hb,hs,hc⟩:=H;rw[hb.cell,hc r j hr hj]
theorem PB.put(H:PB f b w){r:Nat}(hr:r<256)(x:Option Ins):∃cs,Blk b 190 cs w∧cs.size=2048∧PB (fun s=>if s=r then x else f s) b (w.setRow b (lP cs (r*8) (wD x))):=by
 obtain⟨cs,hb,hs,hc⟩:=H;have hz:=zQL x;have hl:r*8+(wD x).size≤cs.size:=zGX;refine⟨cs,hb,hs,_,hb.store _,by rw[aJ _ _ _ hl,hs],?_⟩;intro s j h1 h2;rw[aX _ _ _ _ hl];by_cases e:s=r
 ·subst e;rw[zN zGX,show s*8+j-s*8=j by omega];simp
 ·rw[zL zGX,hc s j h1 h2];simp[e]
theorem PB.new(w:World):PB (fun _=>none) w.heap.size (w.alloc (.cells eQ 190)):=⟨eQ,Blk.new _ _ _,TA,fun r j hr hj=>IH r j hr hj⟩
theorem PB.congr{g:Nat→Option Ins}(H:PB f b w)(e:∀r,r<256→f r=g r):PB g b w:=by
 obtain⟨cs,hb,hs,hc⟩:=H;exact⟨cs,hb,hs,fun r j hr hj=>by rw[hc r j hr hj,e r hr]⟩
theorem CB.lt(H:CB pg p lv en n h m w):p<w.heap.size:=by obtain⟨cs,h,_⟩:=H;exact h.lt
theorem CB.keep(H:CB pg p lv en n h m w)(e:w'.heap[p]?=w.heap[p]?):CB pg p lv en n h m w':=by obtain⟨cs,h,r⟩:=H;exact⟨cs,e.trans h,r⟩
theorem CB.kept(H:CB pg p lv en n h m w)(k:lS O w w')(ho:¬O p):CB pg p lv en n h m w':=H.keep (k.block p H.lt ho)
theorem CB.c0(H:CB pg p lv en n h m w):w.cell? ⟨p,0,none⟩=some (.int .i64 lv):=by obtain⟨cs,hb,_,h0,_⟩:=H;rw[hb.cell,h0]
theorem CB.c1(H:CB pg p lv en n h m w):w.cell? ⟨p,1,none⟩=some (.bool en):=by obtain⟨cs,hb,_,_,h1,_⟩:=H;rw[hb.cell,h1]
theorem CB.page(H:CB pg p lv en n h m w){k:Nat}(hk:k<256):w.cell? ⟨p,2+k,none⟩=some (.pointer ((pg k).map fun b=>⟨b,0,none⟩)):=by obtain⟨cs,hb,_,_,_,hc,_⟩:=H;rw[hb.cell,hc k hk]
theorem CB.cn(H:CB pg p lv en n h m w):w.cell? ⟨p,258,none⟩=some (.int .i64 n):=by obtain⟨cs,hb,_,_,_,_,h3,_⟩:=H;rw[hb.cell,h3]
theorem CB.ch(H:CB pg p lv en n h m w):w.cell? ⟨p,259,none⟩=some (.int .i64 h):=by obtain⟨cs,hb,_,_,_,_,_,h3,_⟩:=H;rw[hb.cell,h3]
theorem CB.cm(H:CB pg p lv en n h m w):w.cell? ⟨p,260,none⟩=some (.int .i64 m):=by obtain⟨cs,hb,_,_,_,_,_,_,h3⟩:=H;rw[hb.cell,h3]
theorem CB.fz(H:CB pg p lv en n h m w)(j:Nat):w.frozen? ⟨p,j,none⟩=false:=by obtain⟨cs,hb,_⟩:=H;exact hb.frozen j
theorem CB.setN(H:CB pg p lv en n h m w)(n':Int):CB pg p lv en n' h m (w.setCell ⟨p,258,none⟩ (.int .i64 n')):=by
 obtain⟨cs,hb,hs,h0,h1,hc,hn,hh,hm⟩:=H;refine⟨_,hb.put 258 _,by simp[hs],?_,?_,fun k hk=>?_,?_,?_,?_⟩
 all_goals rw[qB]
 ·rw[zL zGL];exact h0
 ·rw[zL zGL];exact h1
 ·rw[zL zGX];exact hc k hk
 ·rw[zN rfl,zN zGX]
 ·rw[zL zGL];exact hh
 ·rw[zL zGL];exact hm
theorem CB.setH(H:CB pg p lv en n h m w)(h':Int):CB pg p lv en n h' m (w.setCell ⟨p,259,none⟩ (.int .i64 h')):=by
 obtain⟨cs,hb,hs,h0,h1,hc,hn,hh,hm⟩:=H;refine⟨_,hb.put 259 _,by simp[hs],?_,?_,fun k hk=>?_,?_,?_,?_⟩
 all_goals rw[qB]
 ·rw[zL zGL];exact h0
 ·rw[zL zGL];exact h1
 ·rw[zL zGX];exact hc k hk
 ·rw[zL zGL];exact hn
 ·rw[zN rfl,zN zGX]
 ·rw[zL zGL];exact hm
theorem CB.setM(H:CB pg p lv en n h m w)(m':Int):CB pg p lv en n h m' (w.setCell ⟨p,260,none⟩ (.int .i64 m')):=by
 obtain⟨cs,hb,hs,h0,h1,hc,hn,hh,hm⟩:=H;refine⟨_,hb.put 260 _,by simp[hs],?_,?_,fun k hk=>?_,?_,?_,?_⟩
 all_goals rw[qB]
 ·rw[zL zGL];exact h0
 ·rw[zL zGL];exact h1
 ·rw[zL zGX];exact hc k hk
 ·rw[zL zGL];exact hn
 ·rw[zL zGL];exact hh
 ·rw[zN rfl,zN zGX]
theorem CB.setP(H:CB pg p lv en n h m w){k:Nat}(hk:k<256)(b:Nat):CB (fun j=>if j=k then some b else pg j) p lv en n h m (w.setCell ⟨p,2+k,none⟩ (.pointer (some ⟨b,0,none⟩))):=by
 obtain⟨cs,hb,hs,h0,h1,hc,hn,hh,hm⟩:=H;refine⟨_,hb.put (2+k) _,by simp[hs],?_,?_,fun j hj=>?_,?_,?_,?_⟩
 all_goals rw[qB]
 ·rw[zL zGX];exact h0
 ·rw[zL zGX];exact h1
 ·by_cases e:j=k
  ·subst e;rw[zN rfl,zN zGX];simp
  ·rw[zL zGX,hc j hj];simp[e]
 ·rw[zL zGX];exact hn
 ·rw[zL zGX];exact hh
 ·rw[zL zGX];exact hm
theorem CB.flush(H:CB pg p lv en n h m w):∃cs,Blk p 159 cs w∧cs.size=261∧CB (fun _=>none) p lv en n h m (w.setRow p (lP cs 2 bD)):=by
 obtain⟨cs,hb,hs,h0,h1,hc,hn,hh,hm⟩:=H;have hz:bD.size=256:=by unfold bD;simp
 have hl:2+bD.size≤cs.size:=zGX;refine⟨cs,hb,hs,_,hb.store _,by rw[aJ _ _ _ hl,hs],?_,?_,fun j hj=>?_,?_,?_,?_⟩
 all_goals rw[aX _ _ _ _ hl]
 ·rw[zL zGX];exact h0
 ·rw[zL zGX];exact h1
 ·rw[zN zGX,show 2+j-2=j by omega];unfold bD;rw[zX,List.getElem?_replicate,zN hj];rfl
 ·rw[zL zGX];exact hn
 ·rw[zL zGX];exact hh
 ·rw[zL zGX];exact hm
theorem U9(N:Nat)(lv:Int)(en:Bool)(j:Nat)(hj:j<N):(VE N lv en)[2+j]?=some (.pointer none):=by
 unfold VE;rw[show 2+j=j+1+1 by omega,zK,zK,qF (by rw[List.length_replicate];exact hj),List.getElem?_replicate,zN hj]
theorem fL(N:Nat)(lv:Int)(en:Bool)(j:Nat)(hj:j<3):(VE N lv en)[2+N+j]?=some (.int .i64 0):=by
 unfold VE;rw[show 2+N+j=(N+j)+1+1 by omega,zK,zK,qE (by rw[List.length_replicate];omega),List.length_replicate,show N+j-N=j by omega];match j,hj with
 |0,_=>rfl
 |1,_=>rfl
 |2,_=>rfl
theorem zX4(N:Nat)(lv:Int)(en:Bool):(VE N lv en).length=N+5:=by
 unfold VE;rw[List.length_cons,List.length_cons,jK,List.length_replicate];rfl
theorem CB.new(w:World)(lv:Int)(en:Bool):CB (fun _=>none) w.heap.size lv en 0 0 0 (w.alloc (.cells (ND lv en) 159)):=by
 refine⟨_,Blk.new _ _ _,?_,?_,?_,fun j hj=>?_,?_,?_,?_⟩
 all_goals unfold ND
 ·rw[jN,zX4]
 ·rfl
 ·rfl
 ·rw[zX,U9 _ _ _ _ hj];rfl
 ·rw[zX];exact fL 256 lv en 0 zGL
 ·rw[zX];exact fL 256 lv en 1 zGL
 ·rw[zX];exact fL 256 lv en 2 zGL
end
structure PGS(pg:Nat→Option Nat)(T:Nat→Option Ins)(w:World):Prop where
 some_:∀k b,k<256→pg k=some b→PB (fun r=>T (k*256+r)) b w
 none_:∀k,k<256→pg k=none→∀r,r<256→T (k*256+r)=none
 one:∀j k b,j<256→k<256→pg j=some b→pg k=some b→j=k
def icO(pg:Nat→Option Nat)(p:Nat)(k:Nat):Prop:=k=p∨∃j,j<256∧pg j=some k
section
variable {pg:Nat→Option Nat} {T:Nat→Option Ins} {p:Nat} {w w':World} {lv n h m:Int} {en:Bool} {O:Nat→Prop}
theorem PGS.lt(H:PGS pg T w){j b:Nat}(hj:j<256)(e:pg j=some b):b<w.heap.size:=(H.some_ j b hj e).lt
theorem PGS.kept(H:PGS pg T w)(k:lS O w w')(ho:∀j b,j<256→pg j=some b→¬O b):PGS pg T w':=
 ⟨fun j b hj e=>(H.some_ j b hj e).kept k (ho j b hj e),H.none_,H.one⟩
theorem CB.notPage{pg2:Nat→Option Nat}(C:CB pg2 p lv en n h m w)(H:PGS pg T w){j b:Nat}(hj:j<256)(e:pg j=some b):b≠p:=by
 rintro rfl;obtain⟨cs,h1,h2,_⟩:=C;obtain⟨ds,h3,h4,_⟩:=H.some_ j b hj e;have h1':=h1.symm.trans h3;injection h1' with h1'
 injection h1' with h5
 rw[h5]at h2;omega
theorem fH(C:CB pg p lv en n h m w)(H:PGS pg T w):∀k,icO pg p k→k<w.heap.size:=by
 rintro k (rfl|⟨j,hj,e⟩)
 ·exact C.lt
 ·exact H.lt hj e
theorem PGS.put(H:PGS pg T w){x:Nat}(hx:x<65536)(i:Option Ins){b:Nat}(hb:pg (x/256)=some b):∃cs,Blk b 190 cs w∧cs.size=2048∧PGS pg (fun y=>if y=x then i else T y) (w.setRow b (lP cs (x%256*8) (wD i))):=by
 obtain⟨cs,h1,h2,h3⟩:=(H.some_ _ _ zGX hb).put (by omega:x%256<256) i;refine⟨cs,h1,h2,fun k c hk e=>?_,fun k hk e r hr=>?_,H.one⟩
 ·by_cases hkx:k=x/256
  ·subst hkx;rw[hb]at e;injection e with e
   subst e;refine h3.congr fun r hr=>?_;by_cases e2:r=x%256
   ·rw[zN e2,zN zGX]
   ·rw[zL e2,zL zGX]
  ·have hne:c≠b:=by
    rintro rfl;exact hkx (H.one _ _ _ hk zGX e hb)
   refine((H.some_ k c hk e).keep (qQ w b c _ hne)).congr fun r hr=>?_;rw[zL zGX]
 ·rw[zL]
  ·exact H.none_ k hk e r hr
  ·intro hx2;have:k=x/256:=by omega
   subst this;rw[hb]at e;cases e
end
theorem TR(b j:Nat)(x:Int)(w:World)(hc:w.cell? ⟨b,j,none⟩=some (.int .i64 x))(hz:w.frozen? ⟨b,j,none⟩=false)(x0:0≤x)(x1:x≤1000000):
  Calls Tryz.prog 63 #[.pointer (some ⟨b,j,none⟩),.int .i64 1] w fun e w'=>e=.returned (.int .i64 (x+1))∧w'=w.setCell ⟨b,j,none⟩ (.int .i64 (x+1)):=by
 have hw:IntKind.i64.wrap (x+1)=x+1:=by rw[zU];omega
 have hadd:=run_call_add (P:=Tryz.prog) Tryz.func76 zGV zGV zGV .i64 zGV (y:=1) (s:=x+1) hc hz (by simp[go_sem,hw]);clear hw;obtain⟨s,hs⟩:∃s,x+1=s:=⟨_,rfl⟩;rw[hs]at hadd⊢;clear hs;go_enter Tryz.func63,Tryz.ntmps63;go_wp2;exact zRX
def xT(pg:Nat→Option Nat)(T:Nat→Option Ins)(x:Nat):Value:=match T x,pg (x/256)with
 |some _,some b=> .pointer (some ⟨b,x%256*8,none⟩)
 |_,_=> .pointer none
theorem YV(x:Nat)(hx:x<65536):∃k r:Int,(Int.tdiv (x:Int) 256=k∧IntKind.i64.wrap k=k∧Int.tmod (x:Int) 256=r∧IntKind.i64.wrap r=r)∧k=((x/256:Nat):Int)∧r=((x%256:Nat):Int):=by
 refine⟨_,_,⟨rfl,?_,rfl,?_⟩,?_,?_⟩
 ·rw[Int.tdiv_eq_ediv_of_nonneg zGX,zU];omega
 ·rw[kF zGX,zU];omega
 ·rw[Int.tdiv_eq_ediv_of_nonneg zGX];rfl
 ·rw[kF zGX];rfl
theorem ZG(pg:Nat→Option Nat)(T:Nat→Option Ins)(p:Nat)(lv:Int)(en:Bool)(n h m a:Int)(x:Nat)(w:World)(C:CB pg p lv en n h m w)(G:PGS pg T w)(hx:a%65536=(x:Int)):
  Calls Tryz.prog 75 #[.pointer (some ⟨p,0,none⟩),.int .i64 a] w fun e w'=>e=.returned (xT pg T x)∧w'=w:=by
 have WR:=zW (fun w=>t6 a x w hx);have hx6:x<65536:=zGX;obtain⟨k,r,⟨u1,u2,u3,u4⟩,ek,er⟩:=YV x hx6;have c1:=C.page (show x/256<256 by omega);have hk:x/256<256:=zGX;have hr:x%256<256:=zGX;have hxx:x/256*256+x%256=x:=zGX;have FV:xT pg T x=xT pg T x:=rfl;have HG:=zW G;clear C G hx hx6;cases hp:pg (x/256)with
 |none=>
  rw[hp]at c1
  have E:=zW (show xT pg T x=.pointer none by unfold xT;rw[hp];cases T x<;>rfl)
  subst ek er
  generalize x/256=kk at*
  generalize x%256=rr at*
  clear hp hxx FV
  simp only[Option.map_none]at c1
  go_enter Tryz.func75,Tryz.ntmps75
  go_wp2_with fail
  refine(WR.out _).mono ?_
  rintro e w' ⟨rfl,rfl⟩
  go_wp2_with fail
  go_ret
  exact⟨by rw[E.out];rfl,rfl⟩
 |some b=>
  rw[hp]at c1
  have hc:=((HG.out.some_ _ b hk hp).cell hr (show 0<8 by decide))
  simp only[hxx,Nat.add_zero]at hc
  simp only[Option.map_some]at c1
  cases hT:T x with
  |none=>
   have E:=zW (show xT pg T x=.pointer none by unfold xT;rw[hT])
   rw[hT]at hc
   replace hc:=hc.trans (show(wD none)[0]?=some (.bool false)from rfl)
   subst ek er
   generalize x/256=kk at*
   generalize x%256=rr at*
   clear hp hxx hT FV
   go_enter Tryz.func75,Tryz.ntmps75
   go_wp2_with fail
   refine(WR.out _).mono ?_
   rintro e w' ⟨rfl,rfl⟩
   go_wp2_with fail
   go_ret
   exact⟨by rw[E.out];rfl,rfl⟩
  |some i=>
   have E:=zW (show xT pg T x=.pointer (some ⟨b,x%256*8,none⟩) by unfold xT;rw[hT,hp])
   rw[hT]at hc
   replace hc:=hc.trans (show(wD (some i))[0]?=some (.bool true)from rfl)
   subst ek er
   generalize x/256=kk at*
   generalize x%256=rr at*
   clear hp hxx hT FV
   go_enter Tryz.func75,Tryz.ntmps75
   go_wp2_with fail
   refine(WR.out _).mono ?_
   rintro e w' ⟨rfl,rfl⟩
   go_wp2_with fail
   go_ret
   exact⟨by rw[E.out];rfl,rfl⟩
def zI:Ins:=⟨0,0,0,0,0,0,0⟩
theorem zZD:lB zI=nD:=rfl
theorem S9:Tryz.prog.built 128 []=some nD:=by unfold nD;kernel_rfl
theorem oC(pg:Nat→Option Nat)(T:Nat→Option Ins)(p:Nat)(lv:Int)(en:Bool)(n h m a:Int)(x:Nat)(w:World)(C:CB pg p lv en n h m w)(G:PGS pg T w)(hx:a%65536=(x:Int)):
  Calls Tryz.prog 62 #[.pointer (some ⟨p,0,none⟩),.int .i64 a] w fun e w'=>e=.returned (.tuple #[.agg (lB ((T x).getD zI)),.bool (T x).isSome])∧Below w.heap.size w w':=by
 have hx6:x/256<256:=zGX;have hr6:x%256<256:=zGX;have FI:=zW (fun u (hb:Below w.heap.size w u)=>ZG pg T p lv en n h m a x u (C.keep (hb.block p C.lt)) (G.kept (O:=fun _=>False) (lS.of_below hb) (fun _ _ _ _ c=>c)) hx);have G0:=zW (Blk.new w 128 nD);have B0:=zW ((zB w.heap.size w).alloc (zG _) (.cells nD 128));have HG:=zW G;have hf:(T x=none∧xT pg T x=.pointer none)∨∃i b,T x=some i∧pg (x/256)=some b∧xT pg T x=.pointer (some ⟨b,x%256*8,none⟩):=by
  cases hT:T x with
  |none=>exact .inl ⟨rfl,by unfold xT;rw[hT]⟩
  |some i=>
   cases hp:pg (x/256)with
   |none=>
    have:=G.none_ _ hx6 hp (x%256) hr6
    rw[show x/256*256+x%256=x by omega,hT]at this
    cases this
   |some b=>exact .inr ⟨i,b,rfl,rfl,by unfold xT;rw[hT,hp]⟩
 have HX:=zW (zM hx6 hr6);clear C G hx hx6 hr6;rcases hf with⟨hT,hv⟩|⟨i,b,hT,hp,hv⟩
 ·rw[hv]at FI;rw[hT];clear hT hv;go_enter Tryz.func62,Tryz.ntmps62;go_upto_region 1 with fail;unfold nD at G0 B0;generalize World.alloc _ _=w1 at G0 B0⊢;go_wp2_with fail;refine(FI.out _ B0.out).mono ?_;rintro e w2 ⟨rfl,rfl⟩;clear FI;go_upto_region 5 with fail;refine zH ?_;refine lC rfl rfl (cs:=nD) (by simp only[List.map_toArray,List.map_nil];exact S9) ?_;simp only[Act.put,zQ,zZ,zJ];refine lM mP G0.out rfl rfl (by unfold n8 nD;kernel_rfl) rfl (.tmp 4) (.tmp 15) rfl rfl rfl ?_;simp only[Act.put,zQ,zZ,zJ];have R:=G0.out.store nD;have B:=lU B0.out (zG w.heap.size) nD;exact zRH
 ·rw[hv]at FI;have HC:=zW (fun u (hb:Below w.heap.size w u) j (hj:j<8)=>((HG.out.some_ _ b HX.out.1 hp).keep (hb.block b ((HG.out.some_ _ b HX.out.1 hp).lt))).cell HX.out.2 hj);rw[show x/256*256+x%256=x by omega,hT]at HC;rw[hT];obtain⟨r,hr⟩:∃r,x%256=r:=⟨_,rfl⟩;rw[hr]at FI HC;clear hT hv hr;go_enter Tryz.func62,Tryz.ntmps62;go_upto_region 1 with fail;unfold nD at G0 B0;generalize World.alloc _ _=w1 at G0 B0⊢;go_wp2_with fail;refine(FI.out _ B0.out).mono ?_;rintro e w2 ⟨rfl,rfl⟩;clear FI;go_upto_region 6 with fail;refine zH ?_;iterate 9 go_step
  refine iJ rfl _ (.tmp 18) rfl ⟨b,r*8+1,none⟩ rfl (lB i) mP rfl (fun j v hj=>?_) ?_
  ·have:=HC.out _ B0.out (j+1) (by have:=(qM.1 hj).1;simp[lB]at this;omega);rw[xE,show r*8+1+j=r*8+(j+1) by omega,this,←hj];unfold wD lB;simp
  simp only[Act.put,zQ,zZ,zJ];refine lM mP G0.out rfl rfl (by unfold n8 lB;kernel_rfl) rfl (.tmp 4) (.tmp 19) rfl rfl rfl ?_;simp only[Act.put,zQ,zZ,zJ];have R:=G0.out.store (lB i);have B:=lU B0.out (zG w.heap.size) (lB i);exact zRH
theorem JT(lv:Int)(en:Bool)(w:World):
  Calls Tryz.prog 48 #[.int .i64 lv,.bool en] w fun e w'=>e=.returned (.pointer (some ⟨w.heap.size,0,none⟩))∧w'=w.alloc (.cells (ND lv en) 159):=by
 go_enter Tryz.func48,Tryz.ntmps48;go_upto_region 1 with fail;refine zH ?_;iterate 6 go_step
 refine lC rfl rfl (cs:=ND lv en) (by simp only[List.map_toArray,List.map_cons,List.map_nil];exact PV lv en) ?_;simp only[Act.put,zQ,zZ,zJ];refine lE rfl _ (.tmp 7) rfl (ND lv en) rfl ?_;simp only[Act.put,zQ,zZ,zJ];obtain⟨w1,hw⟩:∃w1,w.alloc (.cells (ND lv en) 159)=w1:=⟨_,rfl⟩;rw[hw];have HW:=zW hw;clear hw;go_wp2_with fail;go_ret;exact⟨rfl,HW.out.symm⟩
theorem WH(pg:Nat→Option Nat)(p:Nat)(lv:Int)(en:Bool)(n h m:Int)(w:World)(C:CB pg p lv en n h m w):
  Calls Tryz.prog 49 #[.pointer (some ⟨p,0,none⟩)] w fun e w'=>e=.returned (.tuple #[])∧CB (fun _=>none) p lv en 0 h m w'∧lS (fun k=>k=p) w w':=by
 obtain⟨cs,hb,hs,C1⟩:=C.flush;have K1:=zW (show lS (fun k=>k=p) w (w.setRow p (lP cs 2 bD))from⟨rfl,rfl,rfl,by simp[World.setRow],fun k _ hk=>qQ w p k _ hk⟩);have HB:=zW (zM hb hs);have C1:=zW C1;clear hb hs C;go_enter Tryz.func49,Tryz.ntmps49;go_upto_region 1 with fail;refine zH ?_;iterate 3 go_step
 refine lC rfl rfl (cs:=bD) (by simp only[List.map_toArray,List.map_nil];exact SD) ?_;simp only[Act.put,zQ,zZ,zJ];iterate 6 go_step
 refine nN zWV HB.out.1 (by unfold bD;simp) (by rw[HB.out.2];decide) (by unfold n8 bD;kernel_rfl) rfl (.tmp 7) (.tmp 5) rfl rfl rfl ?_;simp only[Act.put,zQ,zZ,zJ];generalize World.setRow _ _ _=w1 at C1 K1⊢;have cn:=C1.out.cn;have fn:=C1.out.fz 258;have C2:=zW (C1.out.setN 0);have K2:=zW (show lS (fun k=>k=p) w (w1.setCell ⟨p,258,none⟩ (.int .i64 0))from K1.out.trans ⟨rfl,rfl,rfl,by simp,fun k _ hk=>qD w1 ⟨p,258,none⟩ _ k hk⟩ vK.refl);go_wp2_with fail;go_end0
 exact⟨rfl,C2.out,K2.out⟩
theorem PX:Tryz.prog.built 183 []=some (wD none):=by unfold wD;kernel_rfl
theorem PGS.congr{pg:Nat→Option Nat}{T S:Nat→Option Ins}{w:World}(H:PGS pg T w)(e:∀x,x<65536→T x=S x):PGS pg S w:=
 ⟨fun k b hk hp=>(H.some_ k b hk hp).congr fun r hr=>e _ zGX,fun k hk hp r hr=>by rw[←e _ zGX];exact H.none_ k hk hp r hr,H.one⟩
theorem PGS.cell258{pg:Nat→Option Nat}{T:Nat→Option Ins}{w:World}(H:PGS pg T w){p:Nat}(hp:∀j b,j<256→pg j=some b→b≠p)(o:Nat)(v:Value):PGS pg T (w.setCell ⟨p,o,none⟩ v):=
 ⟨fun k b hk e=>(H.some_ k b hk e).keep (qD w ⟨p,o,none⟩ v b (hp k b hk e)),H.none_,H.one⟩
theorem wraps3(at_:Int)(j:Nat)(a0:0≤at_)(a1:at_≤65535)(hj:j≤65536):∃q r:Int,(IntKind.i64.wrap (at_-3)=q∧IntKind.i64.wrap (q+(j:Int))=r)∧r=at_-3+(j:Int):=
 ⟨at_-3,at_-3+(j:Int),⟨by rw[zU];omega,by rw[zU];omega⟩,rfl⟩
theorem I9(n:Int)(n0:0<n)(n1:n≤65536):∃q:Int,min n 65533=q∧IntKind.i64.wrap (q+3)=((oK n:Nat):Int)∧oK n≤65536:=by
 refine⟨_,rfl,?_,?_⟩
 ·unfold oK;rw[zU];omega
 ·unfold oK;omega
theorem EG(pg:Nat→Option Nat)(p:Nat)(lv:Int)(en:Bool)(h m at_ n:Int)(l:nB)(w:World)(C:CB pg p lv en (l.length:Int) h m w)(G:PGS pg (mG l) w)(ho:rP l)(hl:∀e∈l,e.1<65536)(l1:l.length≤1000000)
  (a0:0≤at_) (a1:at_≤65535) (n0:0<n) (n1:n≤65536):
  Calls Tryz.prog 68 #[.pointer (some ⟨p,0,none⟩),.agg #[.int .i64 at_,.int .i64 n]] w fun e w'=>
   e=.returned (.tuple #[])∧CB pg p lv en ((rB l at_ n).length:Int) h m w'∧PGS pg (mG (rB l at_ n)) w'∧lS (icO pg p) w w':=by
 obtain⟨q0,mn,wn,hN6⟩:=I9 n n0 n1;have HD:=zW (zJ4 l at_ n hl n0 n1);obtain⟨N,hN⟩:∃N,oK n=N:=⟨_,rfl⟩;rw[hN]at wn hN6 HD;have OL:=zW (fH C G);have NP:=zW (fun j b (hj:j<256) (e:pg j=some b)=>C.notPage G hj e);have HL:=zW (zM ho (zM hl l1));have HA:=zW (zM a0 (zM a1 hN6));have HC:=zW C;have HG:=zW G;have Bw:=zW (Blk.new w 168 #[.int .i64 at_,.int .i64 n]);have bw:=zW ((zB w.heap.size w).alloc (zG _) (.cells #[.int .i64 at_,.int .i64 n] 168));clear C G ho hl l1 a0 a1 n0 n1 hN hN6;go_enter Tryz.func68,Tryz.ntmps68;go_upto_region 1 with fail;obtain⟨g,hg⟩:∃g,w.heap.size=g:=⟨_,rfl⟩;have C1:=zW (HC.out.keep (bw.out.block p HC.out.lt));have G1:=zW (HG.out.kept (O:=fun _=>False) (lS.of_below bw.out) (fun _ _ _ _ c=>c));have K1:=zW (show lS (icO pg p) w (w.alloc (.cells #[.int .i64 at_,.int .i64 n] 168))from lS.of_below bw.out);have GO:=zW (show¬icO pg p g from fun c=>by have:=OL.out _ c;omega);rw[hg]at Bw⊢;generalize World.alloc _ _=w1 at Bw C1 G1 K1⊢;clear HC HG bw;have c0:=(Bw.out.cell 0).trans rfl;have c1:=(Bw.out.cell 1).trans rfl;go_wp2_with fail;clear c0 c1 mn wn;go_loopw [10] (fun v10 wr=>∃j:Nat,j≤N∧v10=.int .i64 (j:Int)∧CB pg p lv en ((rmN l (at_-3) j).length:Int) h m wr∧PGS pg (mG (rmN l (at_-3) j)) wr∧rP (rmN l (at_-3) j)∧Blk g 168 #[.int .i64 at_,.int .i64 n] wr∧lS (icO pg p) w wr) (fun v10 _=>N-(intOf v10).toNat)
 case atStart=>exact⟨0,qW _,rfl,C1.out,G1.out,HL.out.1,Bw.out,K1.out⟩
 case round=>
  obtain⟨j,hj,rfl,hC,hG,hO,hB,hK⟩:=hrel
  have Cj:=zW hC
  have Gj:=zW hG
  have Oj:=zW hO
  have Bj:=zW hB
  have Kj:=zW hK
  clear hC hG hO hB hK C1 G1 Bw K1
  by_cases hlt:j<N
  ·have HJ:=zW hlt
   have hji:(j:Int)<(N:Int):=zGX
   obtain⟨q,r,SW,hr⟩:=wraps3 at_ j HA.out.1 HA.out.2.1 (by have:=HA.out.2.2;omega)
   obtain⟨x,hx⟩:∃x:Nat,(at_-3+(j:Int))%65536=(x:Int):=⟨((at_-3+(j:Int))%65536).toNat,by omega⟩
   have RN:=zW (show rmN l (at_-3) (j+1)=rmE (rmN l (at_-3) j) x by
    show rmE (rmN l (at_-3) j) ((at_-3+(j:Int))%65536).toNat=_;rw[hx];rfl)
   have LJ:=zW (show(rmN l (at_-3) j).length≤1000000 from zR (zJ3 _ _ _) HL.out.2.2)
   have hx6:x<65536:=zGX
   have FI:=zW (fun u (e1:u.heap[p]?=wr.heap[p]?) (k1:lS (fun _=>False) wr u)=>ZG pg (mG (rmN l (at_-3) j)) p lv en _ h m r x u (Cj.out.keep e1) (Gj.out.kept k1 (fun _ _ _ _ c=>c)) (by rw[hr];exact hx))
   have FI:=zW (FI.out wr rfl lS.refl)
   generalize rmN l (at_-3) j=L at Cj Gj Oj RN LJ FI
   clear hr hx hj hlt
   have c0:=(Bj.out.cell 0).trans rfl
   obtain⟨s1,s2⟩:=SW
   have j6:(N:Int)≤65536:=by have:=HA.out.2.2;omega
   have hf:(mG L x=none∧xT pg (mG L) x=.pointer none)∨∃i b,mG L x=some i∧pg (x/256)=some b∧xT pg (mG L) x=.pointer (some ⟨b,x%256*8,none⟩):=by
    cases hT:mG L x with
    |none=>exact .inl ⟨rfl,by unfold xT;rw[hT]⟩
    |some i=>
     cases hp:pg (x/256)with
     |none=>
      have:=Gj.out.none_ _ zGX hp (x%256) zGX
      rw[show x/256*256+x%256=x by omega,hT]at this
      cases this
     |some b=>exact .inr ⟨i,b,rfl,rfl,by unfold xT;rw[hT,hp]⟩
   rcases hf with⟨hT,hv⟩|⟨i,b,hT,hp,hv⟩
   ·rw[hv]at FI
    have RN:=zW (show rmN l (at_-3) (j+1)=L by rw[RN.out];exact MC L x hT)
    clear hT hv hx6
    go_wp2_with fail
    clear s1 s2 c0
    refine FI.out.mono ?_
    rintro e w5 ⟨rfl,rfl⟩
    clear FI
    go_wp2_with fail
    exact⟨⟨j+1,HJ.out,rfl,by rw[RN.out];exact Cj.out,by rw[RN.out];exact Gj.out,by rw[RN.out];exact Oj.out,Bj.out,Kj.out⟩,by have:=HJ.out;simp[intOf];omega⟩
   ·rw[hv]at FI
    have RL:=zW (zJ2 L x i Oj.out hT)
    obtain⟨cs,hb,hs,G5⟩:=Gj.out.put hx6 none hp
    have G5:=zW (G5.congr (S:=mG (rmE L x)) fun y _=>by rw[CZ])
    have HB:=zW (zM hb hs)
    have XR:=zW (show x%256*8+8≤2048 by omega)
    have BO:=zW (show icO pg p b from .inr ⟨_,by omega,hp⟩)
    have bp:=zW (NP.out _ _ zGX hp)
    have bg:=zW (show g≠b from fun e=>GO.out (e▸BO.out))
    obtain⟨o,ho⟩:∃o,x%256*8=o:=⟨_,rfl⟩
    rw[ho]at FI G5 XR
    clear hT hv hx6 hb hs hp ho
    go_wp2_with fail
    clear s1 s2 c0
    refine FI.out.mono ?_
    rintro e w5 ⟨rfl,rfl⟩
    clear FI
    go_upto_region 6 with fail
    refine zH ?_
    iterate 3 go_step
    refine lC rfl rfl (cs:=wD none) (by simp only[List.map_toArray,List.map_nil];exact PX) ?_
    simp only[Act.put,zQ,zZ,zJ]
    iterate 3 go_step
    refine nN Z9 HB.out.1 rfl (by rw[HB.out.2];exact XR.out) (fB none) rfl (.tmp 24) (.tmp 23) rfl rfl rfl ?_
    simp only[Act.put,zQ,zZ,zJ]
    have C5:=zW (Cj.out.keep (qQ w5 b p (lP cs o (wD none)) (fun e=>bp.out e.symm)))
    have B5:=zW (Bj.out.otherRow bg.out (lP cs o (wD none)))
    have K5:=zW (Kj.out.trans (show lS (icO pg p) w5 (w5.setRow b (lP cs o (wD none)))from⟨rfl,rfl,rfl,by simp[World.setRow],fun k _ hk=>qQ w5 b k _ (fun e=>hk (e▸BO.out))⟩) vK.refl)
    generalize World.setRow _ _ _=w6 at C5 B5 K5 G5⊢
    clear Cj Bj Kj Gj HB
    have cn:=C5.out.cn
    have fn:=C5.out.fz 258
    have wl:IntKind.i64.wrap ((L.length:Int)-1)=((rmE L x).length:Int):=by rw[zU];have:=RL.out;have:=LJ.out;omega
    have C6:=zW (C5.out.setN ((rmE L x).length:Int))
    have G6:=zW (G5.out.cell258 NP.out 258 (.int .i64 ((rmE L x).length:Int)))
    have B6:=zW (B5.out.other (fun e=>GO.out (.inl e)) 258 (.int .i64 ((rmE L x).length:Int)))
    have K6:=zW (K5.out.trans (show lS (icO pg p) w6 (w6.setCell ⟨p,258,none⟩ (.int .i64 ((rmE L x).length:Int)))from⟨rfl,rfl,rfl,by simp,fun k _ hk=>qD w6 ⟨p,258,none⟩ _ k (fun e=>hk (.inl e))⟩) vK.refl)
    have O6:=zW (Oj.out.rm x)
    generalize hq:((rmE L x).length:Int)=ll at*
    go_wp2_with fail
    exact⟨⟨j+1,HJ.out,rfl,by rw[RN.out,hq];exact C6.out,by rw[RN.out];exact G6.out,by rw[RN.out];exact O6.out,B6.out,K6.out⟩,by have:=HJ.out;simp[intOf];omega⟩
  ·obtain rfl:j=N:=by omega
   rw[HD.out]at Cj Gj
   clear hj hlt
   go_wp2_with fail
   go_end0
   exact⟨rfl,Cj.out,Gj.out,Kj.out⟩
def RgR(w:World)(A:Option Addr)(R:List (Int×Int))(O:Nat→Prop):Prop:=∀i (hi:i<R.length),∃b o,A=some ⟨b,o,none⟩∧b<w.heap.size∧¬O b∧w.cell? ⟨b,o+i*2,none⟩=some (.int .i64 R[i].1)∧w.cell? ⟨b,o+i*2+1,none⟩=some (.int .i64 R[i].2)
theorem RgR.kept{w w':World}{A:Option Addr}{R:List (Int×Int)}{O:Nat→Prop}(H:RgR w A R O)(k:lS O w w'):RgR w' A R O:=fun i hi=>by
 obtain⟨b,o,e,hb,ho,c0,c1⟩:=H i hi;exact⟨b,o,e,zD hb k.size,ho,(k.cell (a:=⟨b,o+i*2,none⟩) hb ho).trans c0,(k.cell (a:=⟨b,o+i*2+1,none⟩) hb ho).trans c1⟩
theorem rP.dropL:∀(t:List (Int×Int)) {l:nB},rP l→rP (dropL l t)
 |[],l,h=>h
 |s::t,l,h=>by
  unfold Go.Proofs.YtbpniahcjbagmaaGreatDoor.dropL;refine rP.dropL t ?_;split
  ·exact h.drop _ _
  ·exact h
theorem fT{e:Nat×Ins}:∀(t:List (Int×Int)) (l:nB),e∈dropL l t→e∈l
 |[],l,h=>h
 |s::t,l,h=>by
  unfold dropL at h;have:=fT t _ h;split at this
  ·unfold rB at this;exact(List.mem_filter.1 this).1
  ·exact this
theorem T3{α:Type}(R:List α)(i:Nat)(hi:i<R.length):R.take (i+1)=R.take i++[R[i]]:=by simp
theorem WX(pg:Nat→Option Nat)(p:Nat)(lv:Int)(en:Bool)(h m:Int)(l:nB)(R:List (Int×Int))(A:Option Addr)(k c:Nat)(w:World)(C:CB pg p lv en (l.length:Int) h m w)(G:PGS pg (mG l) w)(ho:rP l)(hl:∀e∈l,e.1<65536)(l1:l.length≤1000000)
  (HR:RgR w A R (icO pg p)) (hk:R.length=k) (k1:k≤1000) (hs:∀s∈R,0≤s.1∧s.1≤65535∧s.2≤65536):
  Calls Tryz.prog 53 #[.pointer (some ⟨p,0,none⟩),.slice A k c] w fun e w'=>
   e=.returned (.tuple #[])∧CB pg p lv en ((dropL l R).length:Int) h m w'∧PGS pg (mG (dropL l R)) w'∧lS (icO pg p) w w':=by
 have HL:=zW (zM ho (zM hl l1));have HS:=zW (zM hk (zM k1 hs));have HC:=zW C;have HG:=zW G;have HR:=zW HR;clear C G ho hl l1 hs;go_enter Tryz.func53,Tryz.ntmps53;go_wp2_with fail;go_loopw [10] (fun v10 wr=>∃i:Nat,i≤k∧v10=.int .i64 (i:Int)∧CB pg p lv en ((dropL l (R.take i)).length:Int) h m wr∧PGS pg (mG (dropL l (R.take i))) wr∧lS (icO pg p) w wr) (fun v10 _=>k-(intOf v10).toNat)
 case atStart=>exact⟨0,qW _,rfl,HC.out,HG.out,lS.refl⟩
 case round=>
  obtain⟨i,hi,rfl,hC,hG,hK⟩:=hrel
  have Ci:=zW hC
  have Gi:=zW hG
  have Ki:=zW hK
  clear hC hG hK HC HG
  by_cases hlt:i<k
  ·have HI:=zW hlt
   have hii:(i:Int)<(k:Int):=zGX
   have il:i<R.length:=zGX
   obtain⟨b,o,rfl,hb,hno,c0,c1⟩:=(HR.out.kept Ki.out) i il
   have DS:=zW (show dropL l (R.take (i+1))=(if 0<R[i].2 then rB (dropL l (R.take i)) R[i].1 R[i].2 else dropL l (R.take i))from by rw[T3 R i il];exact ZR l R[i] (R.take i))
   have SR:=zW (HS.out.2.2 _ (j4 il))
   have LI:=zW (zM (rP.dropL (R.take i) HL.out.1) (zM (fun e he=>HL.out.2.1 e (fT (R.take i) l he)) (zR (pH (R.take i) l) HL.out.2.2)))
   generalize dropL l (R.take i)=L at Ci Gi DS LI
   generalize R[i]=s at c0 c1 DS SR
   obtain⟨at_,n⟩:=s
   simp only at c0 c1 DS SR
   clear hi hlt il
   have OL:=zW (fH Ci.out Gi.out)
   have X5:=zW (nS wr (.cells #[.int .i64 at_,.int .i64 n] 168))
   have B5:=zW (Blk.new wr 168 #[.int .i64 at_,.int .i64 n])
   go_upto_region 4 with fail
   have C5:=zW (Ci.out.keep (X5.out.block p Ci.out.lt))
   have G5:=zW (Gi.out.kept (O:=fun _=>False) (lS.of_below X5.out) (fun _ _ _ _ c=>c))
   have K5:=zW (Ki.out.trans (lS.of_below X5.out) vK.refl)
   obtain⟨g,hg⟩:∃g,wr.heap.size=g:=⟨_,rfl⟩
   rw[hg]at B5⊢
   generalize World.alloc _ _=w5 at B5 C5 G5 K5⊢
   clear Ci Gi Ki X5 OL c0 c1
   have c0:=(B5.out.cell 0).trans rfl
   have c1:=(B5.out.cell 1).trans rfl
   have k6:(k:Int)≤1000:=zGX
   by_cases hn:0<n
   ·have hgt:n>0:=hn
    have DS:=zW (show dropL l (R.take (i+1))=rB L at_ n by rw[DS.out,zN hn])
    have DR:=zW (EG pg p lv en h m at_ n L w5 C5.out G5.out LI.out.1 LI.out.2.1 LI.out.2.2 SR.out.1 SR.out.2.1 hn SR.out.2.2)
    go_wp2_with fail
    clear c0 c1
    refine DR.out.mono ?_
    rintro e w6 ⟨rfl,C6,G6,K6⟩
    have C6:=zW C6
    have G6:=zW G6
    have K6:=zW (K5.out.trans K6 vK.refl)
    clear DR C5 G5 K5 B5
    go_wp2_with fail
    exact⟨⟨i+1,HI.out,rfl,by rw[DS.out];exact C6.out,by rw[DS.out];exact G6.out,K6.out⟩,by have:=HI.out;simp[intOf];omega⟩
   ·have hle:n≤0:=zGX
    have DS:=zW (show dropL l (R.take (i+1))=L by rw[DS.out,zL hn])
    clear hn
    go_wp2_with fail
    exact⟨⟨i+1,HI.out,rfl,by rw[DS.out];exact C5.out,by rw[DS.out];exact G5.out,K5.out⟩,by have:=HI.out;simp[intOf];omega⟩
  ·obtain rfl:i=k:=by omega
   have DS:=zW (show R.take i=R by rw[qV zGX])
   rw[DS.out]at Ci Gi
   clear hi hlt
   go_wp2_with fail
   go_end0
   exact⟨rfl,Ci.out,Gi.out,Ki.out⟩
theorem PGS.grow{pg:Nat→Option Nat}{T:Nat→Option Ins}{w:World}(H:PGS pg T w){k:Nat}(hk:k<256)(hp:pg k=none):PGS (fun j=>if j=k then some w.heap.size else pg j) T (w.alloc (.cells eQ 190)):=by
 refine⟨fun j b hj e=>?_,fun j hj e r hr=>?_,fun i j b hi hj e1 e2=>?_⟩
 ·by_cases h:j=k
  ·subst h;simp only[if_true]at e;injection e with e
   subst e;exact(PB.new w).congr fun r hr=>(H.none_ j hk hp r hr).symm
  ·simp only[h,if_false]at e;have:=H.some_ j b hj e;exact this.keep ((nS w _).block b this.lt)
 ·by_cases h:j=k
  ·simp[h]at e
  ·simp only[h,if_false]at e;exact H.none_ j hj e r hr
 ·by_cases h1:i=k
  ·by_cases h2:j=k
   ·rw[h1,h2]
   ·simp only[h1,h2,if_true,if_false]at e1 e2;injection e1 with e1
    have:=H.lt hj e2;omega
  ·by_cases h2:j=k
   ·simp only[h1,h2,if_true,if_false]at e1 e2;injection e2 with e2
    have:=H.lt hi e1;omega
   ·simp only[h1,h2,if_false]at e1 e2;exact H.one i j b hi hj e1 e2
theorem zKP(pg:Nat→Option Nat)(p k n:Nat):vK (icO pg p) (icO (fun j=>if j=k then some n else pg j) p) n:=by
 rintro b (rfl|⟨j,hj,e⟩)
 ·exact .inl (.inl rfl)
 ·by_cases h:j=k
  ·simp only[h,if_true]at e;injection e with e
   exact .inr zGX
  ·simp only[h,if_false]at e;exact .inl (.inr ⟨j,hj,e⟩)
theorem OP(l:nB)(x:Nat)(i:Ins)(hn:mG l x=none):∀y,(if y=x then some i else mG l y)=mG (l++[(x,i)]) y:=fun y=>by
 rw[dG];by_cases h:y=x
 ·subst h;rw[zN rfl,hn];simp
 ·rw[zL h];cases hy:mG l y with
  |some j=>rfl
  |none=>simp;omega
def zGQ(pg:Nat→Option Nat)(p:Nat)(lv:Int)(en:Bool)(l:nB)(h m:Int)(w w':World):Prop:=
 ∃pg',CB pg' p lv en (l.length:Int) h m w'∧PGS pg' (mG l) w'∧lS (icO pg p) w w'∧vK (icO pg p) (icO pg' p) w.heap.size
theorem DF(pg:Nat→Option Nat)(p:Nat)(lv:Int)(en:Bool)(h m a:Int)(x:Nat)(i:Ins)(l:nB)(w:World)(C:CB pg p lv en (l.length:Int) h m w)(G:PGS pg (mG l) w)(hn:mG l x=none)(l1:l.length≤1000000)(hx:a%65536=(x:Int)):
  Calls Tryz.prog 64 #[.pointer (some ⟨p,0,none⟩),.int .i64 a,.agg (lB i)] w fun e w'=>e=.returned (.tuple #[])∧zGQ pg p lv en (l++[(x,i)]) h m w w':=by
 have WR:=zW (fun w=>t6 a x w hx);have hx6:x<65536:=zGX;obtain⟨k,r,⟨u1,u2,u3,u4⟩,ek,er⟩:=YV x hx6;subst ek er;have HX:=zW hx6;have hk:x/256<256:=zGX;have hr:x%256<256:=zGX;have LL:=zW (show((l++[(x,i)]).length:Int)=(l.length:Int)+1∧l.length≤1000000 from⟨by simp,l1⟩);have LC:=zW (OP l x i hn);have OL:=zW (fH C G);have K0:=zW (show lS (icO pg p) w (w.alloc (.cells (lB i) 128))from lS.of_below (nS w _));have C0:=zW (C.keep ((nS w (.cells (lB i) 128)).block p C.lt));have G0:=zW (G.kept (O:=fun _=>False) (lS.of_below (nS w (.cells (lB i) 128))) (fun _ _ _ _ c=>c));have X0:=zW (Blk.new w 128 (lB i));have Z0:=zW (show w.heap.size<(w.alloc (.cells (lB i) 128)).heap.size by simp);clear C G hn l1 hx hx6;go_enter Tryz.func64,Tryz.ntmps64;go_upto_region 0 with fail;refine zH ?_;refine lE rfl _ (.tmp 2) rfl (lB i) rfl ?_;simp only[Act.put,zQ,zZ,zJ];obtain⟨g,hg⟩:∃g,w.heap.size=g:=⟨_,rfl⟩;have GO:=zW (show¬icO pg p g from fun c=>by have:=OL.out _ c;omega);have SZ:=zW (show w.heap.size=g from hg);rw[hg]at X0 Z0⊢;generalize World.alloc _ _=w1 at X0 C0 G0 K0 Z0⊢;clear hg;go_wp2_with fail;refine(WR.out _).mono ?_;rintro e w' ⟨rfl,rfl⟩;have c1:=C0.out.page hk;have NP:=zW (fun j b (hj:j<256) (e:pg j=some b)=>C0.out.notPage G0.out hj e);obtain⟨kk,hkk⟩:∃kk,x/256=kk:=⟨_,rfl⟩;obtain⟨rr,hrr⟩:∃rr,x%256=rr:=⟨_,rfl⟩;rw[hkk]at u1 u2 hk c1;rw[hrr]at u3 u4 hr;have HKK:=zW hkk;have HRR:=zW hrr;clear hkk hrr;cases hp:pg kk with
 |some b=>
  rw[hp]at c1
  simp only[Option.map_some]at c1
  have hpb:=hp
  have BO:=zW (show icO pg p b from .inr ⟨_,hk,hp⟩)
  have BK:=zW (show∀k,k<w.heap.size→¬icO pg p k→k≠b from fun k _ hk e=>hk (e▸BO.out))
  have GW:=zW (show vK (icO pg p) (icO pg p) w.heap.size from vK.refl)
  clear hp NP
  go_upto_region 5 with fail
  clear c1
  have Cx:=C0
  have Gx:=G0
  have Kx:=K0
  have Xx:=X0
  clear C0 G0 K0 X0
  have cp:=Cx.out.page hk
  rw[hpb]at cp
  simp only[Option.map_some]at cp
  have HPB:=zW hpb
  refine rI 9 zGV zGV ?_
  intro wd hwd
  have Cd:=zW (show CB _ p lv en (l.length:Int) h m wd by rw[hwd];exact Cx.out.keep rfl)
  have Gd:=zW (show PGS _ (mG l) wd by rw[hwd];exact Gx.out.kept (O:=fun _=>False) ⟨rfl,rfl,rfl,zG _,fun _ _ _=>rfl⟩ (fun _ _ _ _ c=>c))
  have Kd:=zW (show lS (icO pg p) w wd by rw[hwd];exact⟨Kx.out.os,Kx.out.tape,Kx.out.output,Kx.out.size,Kx.out.block⟩)
  have Xd:=zW (show Blk g 128 (lB i) wd by rw[hwd];exact Xx.out)
  have cp2:wd.cell? ⟨p,2+kk,none⟩=some (.pointer (some ⟨b,0,none⟩)):=by rw[hwd];exact cp
  clear hwd hpb cp Cx Gx Kx Xx
  have d0:wd.cell? ⟨g,0,none⟩=some (.int .i64 i.op):=(Xd.out.cell 0).trans rfl
  have d1:wd.cell? ⟨g,1,none⟩=some (.int .i64 i.x):=(Xd.out.cell 1).trans rfl
  have d2:wd.cell? ⟨g,2,none⟩=some (.int .i64 i.y):=(Xd.out.cell 2).trans rfl
  have d3:wd.cell? ⟨g,3,none⟩=some (.int .i64 i.n):=(Xd.out.cell 3).trans rfl
  have d4:wd.cell? ⟨g,4,none⟩=some (.int .i64 i.nn):=(Xd.out.cell 4).trans rfl
  have d5:wd.cell? ⟨g,5,none⟩=some (.int .i64 i.addr):=(Xd.out.cell 5).trans rfl
  have d6:wd.cell? ⟨g,6,none⟩=some (.int .i64 i.len):=(Xd.out.cell 6).trans rfl
  simp only[List.take_succ_cons,List.take_zero,List.drop_succ_cons,List.drop_zero]
  have hri:(rr:Int)<256:=zGX
  repeat still_step
  refine wpStill_nil ?_
  clear hri
  clear d0 d1 d2 d3 d4 d5 d6 cp2
  obtain⟨cs,hb,hs,G5⟩:=Gd.out.put HX.out (some i) (by rw[HKK.out];exact HPB.out)
  rw[HRR.out]at G5
  have G5:=zW (G5.congr (S:=mG (l++[(x,i)])) fun y _=>LC.out y)
  have bp:=zW (Cd.out.notPage Gd.out hk HPB.out)
  refine nN Z9 hb rfl (by rw[hs];omega) (fB (some i)) rfl (.tmp 30) (.tmp 28) rfl rfl rfl ?_
  simp only[Act.put,zQ,zZ,zJ]
  have C5:=zW (Cd.out.keep (qQ wd b p (lP cs (rr*8) (wD (some i))) (fun e=>bp.out e.symm)))
  have K5:=zW (show lS (icO pg p) w (wd.setRow b (lP cs (rr*8) (wD (some i))))from⟨Kd.out.os,Kd.out.tape,Kd.out.output,by have:=Kd.out.size;simpa [World.setRow]using this,fun k hk1 hk2=>(qQ wd b k _ (BK.out k hk1 hk2)).trans (Kd.out.block k hk1 hk2)⟩)
  generalize World.setRow _ _ _=w6 at C5 K5 G5⊢
  clear Cd Gd Kd Xd hb hs
  have cn:=C5.out.cn
  have fn:=C5.out.fz 258
  have C6:=zW (C5.out.setN ((l++[(x,i)]).length:Int))
  have G6:=zW (G5.out.cell258 (fun j b hj e=>C5.out.notPage G5.out hj e) 258 (.int .i64 ((l++[(x,i)]).length:Int)))
  have K6:=zW (K5.out.trans (show lS (icO pg p) w6 (w6.setCell ⟨p,258,none⟩ (.int .i64 ((l++[(x,i)]).length:Int)))from⟨rfl,rfl,rfl,by simp,fun k _ hk=>qD w6 ⟨p,258,none⟩ _ k (fun e=>hk (.inl e))⟩) vK.refl)
  have wl:IntKind.i64.wrap ((l.length:Int)+1)=((l++[(x,i)]).length:Int):=by rw[zU];have:=LL.out;omega
  generalize hq:((l++[(x,i)]).length:Int)=ll at*
  clear u1 u2 u3 u4
  go_wp2_with fail
  go_end0
  exact⟨rfl,_,by rw[hq];exact C6.out,G6.out,K6.out,GW.out⟩
 |none=>
  rw[hp]at c1
  simp only[Option.map_none]at c1
  go_upto_region 4 with fail
  refine zH ?_
  iterate 3 go_step
  refine qZ rfl fun K hK=>nJ zZB rfl (hK _ _ ?_)
  clear hK K
  simp only[Act.put,zQ,zZ,zJ]
  have N2:=zW (nS w' (.cells eQ 190))
  have C2:=zW (C0.out.keep (N2.out.block p C0.out.lt))
  have G2:=zW (G0.out.grow hk hp)
  have K2:=zW (K0.out.trans (lS.of_below N2.out) vK.refl)
  have X2:=zW (X0.out.step N2.out)
  have GW:=zW (show vK (icO pg p) (icO (fun j=>if j=kk then some w'.heap.size else pg j) p) w.heap.size from fun k hk=>(zKP pg p kk w'.heap.size k hk).imp id (fun e=>zR K0.out.size e))
  obtain⟨b,hb⟩:∃b,w'.heap.size=b:=⟨_,rfl⟩
  have BK:=zW (show∀k,k<w.heap.size→¬icO pg p k→k≠b from fun k hk1 _ e=>by have:=K0.out.size;omega)
  have PB2:=zW (show p≠b from fun e=>by have:=C0.out.lt;omega)
  rw[hb]at G2 GW⊢
  clear hb N2 C0 G0 K0 X0 NP hp c1
  generalize World.alloc _ _=w2 at C2 G2 K2 X2⊢
  have c1:=C2.out.page hk
  have f1:=C2.out.fz (2+kk)
  have C3:=zW (C2.out.setP hk b)
  have gp:=zW (show g≠p from fun e=>GO.out (.inl e))
  have X3:=zW (X2.out.other gp.out (2+kk) (.pointer (some ⟨b,0,none⟩)))
  have G3:=zW (G2.out.cell258 (fun j d hj e=>C2.out.notPage G2.out hj e) (2+kk) (.pointer (some ⟨b,0,none⟩)))
  have K3:=zW (K2.out.trans (show lS (icO pg p) w2 (w2.setCell ⟨p,2+kk,none⟩ (.pointer (some ⟨b,0,none⟩)))from⟨rfl,rfl,rfl,by simp,fun k _ hk=>qD w2 ⟨p,2+kk,none⟩ _ k (fun e=>hk (.inl e))⟩) vK.refl)
  go_upto_region 5 with fail
  generalize World.setCell _ _ _=w7 at C3 G3 K3 X3⊢
  clear C2 G2 K2 X2 c1 f1
  have hpb:(if kk=kk then some b else pg kk)=some b:=zGN
  have Cx:=C3
  have Gx:=G3
  have Kx:=K3
  have Xx:=X3
  clear C3 G3 K3 X3
  have cp:=Cx.out.page hk
  rw[hpb]at cp
  simp only[Option.map_some]at cp
  have HPB:=zW hpb
  refine rI 9 zGV zGV ?_
  intro wd hwd
  have Cd:=zW (show CB _ p lv en (l.length:Int) h m wd by rw[hwd];exact Cx.out.keep rfl)
  have Gd:=zW (show PGS _ (mG l) wd by rw[hwd];exact Gx.out.kept (O:=fun _=>False) ⟨rfl,rfl,rfl,zG _,fun _ _ _=>rfl⟩ (fun _ _ _ _ c=>c))
  have Kd:=zW (show lS (icO pg p) w wd by rw[hwd];exact⟨Kx.out.os,Kx.out.tape,Kx.out.output,Kx.out.size,Kx.out.block⟩)
  have Xd:=zW (show Blk g 128 (lB i) wd by rw[hwd];exact Xx.out)
  have cp2:wd.cell? ⟨p,2+kk,none⟩=some (.pointer (some ⟨b,0,none⟩)):=by rw[hwd];exact cp
  clear hwd hpb cp Cx Gx Kx Xx
  have d0:wd.cell? ⟨g,0,none⟩=some (.int .i64 i.op):=(Xd.out.cell 0).trans rfl
  have d1:wd.cell? ⟨g,1,none⟩=some (.int .i64 i.x):=(Xd.out.cell 1).trans rfl
  have d2:wd.cell? ⟨g,2,none⟩=some (.int .i64 i.y):=(Xd.out.cell 2).trans rfl
  have d3:wd.cell? ⟨g,3,none⟩=some (.int .i64 i.n):=(Xd.out.cell 3).trans rfl
  have d4:wd.cell? ⟨g,4,none⟩=some (.int .i64 i.nn):=(Xd.out.cell 4).trans rfl
  have d5:wd.cell? ⟨g,5,none⟩=some (.int .i64 i.addr):=(Xd.out.cell 5).trans rfl
  have d6:wd.cell? ⟨g,6,none⟩=some (.int .i64 i.len):=(Xd.out.cell 6).trans rfl
  simp only[List.take_succ_cons,List.take_zero,List.drop_succ_cons,List.drop_zero]
  have hri:(rr:Int)<256:=zGX
  repeat still_step
  refine wpStill_nil ?_
  clear hri
  clear d0 d1 d2 d3 d4 d5 d6 cp2
  obtain⟨cs,hb,hs,G5⟩:=Gd.out.put HX.out (some i) (by rw[HKK.out];exact HPB.out)
  rw[HRR.out]at G5
  have G5:=zW (G5.congr (S:=mG (l++[(x,i)])) fun y _=>LC.out y)
  have bp:=zW (Cd.out.notPage Gd.out hk HPB.out)
  refine nN Z9 hb rfl (by rw[hs];omega) (fB (some i)) rfl (.tmp 30) (.tmp 28) rfl rfl rfl ?_
  simp only[Act.put,zQ,zZ,zJ]
  have C5:=zW (Cd.out.keep (qQ wd b p (lP cs (rr*8) (wD (some i))) (fun e=>bp.out e.symm)))
  have K5:=zW (show lS (icO pg p) w (wd.setRow b (lP cs (rr*8) (wD (some i))))from⟨Kd.out.os,Kd.out.tape,Kd.out.output,by have:=Kd.out.size;simpa [World.setRow]using this,fun k hk1 hk2=>(qQ wd b k _ (BK.out k hk1 hk2)).trans (Kd.out.block k hk1 hk2)⟩)
  generalize World.setRow _ _ _=w6 at C5 K5 G5⊢
  clear Cd Gd Kd Xd hb hs
  have cn:=C5.out.cn
  have fn:=C5.out.fz 258
  have C6:=zW (C5.out.setN ((l++[(x,i)]).length:Int))
  have G6:=zW (G5.out.cell258 (fun j b hj e=>C5.out.notPage G5.out hj e) 258 (.int .i64 ((l++[(x,i)]).length:Int)))
  have K6:=zW (K5.out.trans (show lS (icO pg p) w6 (w6.setCell ⟨p,258,none⟩ (.int .i64 ((l++[(x,i)]).length:Int)))from⟨rfl,rfl,rfl,by simp,fun k _ hk=>qD w6 ⟨p,258,none⟩ _ k (fun e=>hk (.inl e))⟩) vK.refl)
  have wl:IntKind.i64.wrap ((l.length:Int)+1)=((l++[(x,i)]).length:Int):=by rw[zU];have:=LL.out;omega
  generalize hq:((l++[(x,i)]).length:Int)=ll at*
  clear u1 u2 u3 u4
  go_wp2_with fail
  go_end0
  exact⟨rfl,_,by rw[hq];exact C6.out,G6.out,K6.out,GW.out⟩
theorem seg4{M:List Int}(h:BtM M)(a:Int)(hM:M.length=65536):seg M a 4=[(uC M a 0:Int),(uC M a 1:Int),(uC M a 2:Int),(uC M a 3:Int)]:=by
 apply kN
 intro j
 match j with
 |0=>exact(yH h a 0 hM zGL).2
 |1=>exact(yH h a 1 hM zGL).2
 |2=>exact(yH h a 2 hM zGL).2
 |3=>exact(yH h a 3 hM zGL).2
 |j+4=>
  rw[qR zBJ,qR zGN]
theorem agg4:vZ Tryz.prog 177 4:=⟨⟨_,Tryz.underlying177,rfl⟩,by kernel_rfl⟩
theorem XQ(pm:Nat)(M:List Int)(v:Value)(a lv:Int)(w:World)(hM:M.length=65536)(hp:nV pm M v w)(hB:BtM M)(hl:(Lit.int .i64 lv).wf=true):
  Calls Tryz.prog 61 #[.pointer (some ⟨pm,0,none⟩),.int .i64 a,.int .i64 lv] w fun e w'=>e=.returned (.agg (lB (yV M a lv)))∧Below w.heap.size w w':=by
 obtain⟨k,hk⟩:∃k:Nat,a%65536=(k:Int):=⟨(a%65536).toNat,by omega⟩;have BY:=zW (fun u (hb:Below w.heap.size w u)=>KY pm M v a k 4 u hM (hp.keep (hb.block pm hp.lt)) hk zGL);have S4:=seg4 hB a hM;have DC:=zW (fun u=>ER (uC M a 0) (uC M a 1) (uC M a 2) (uC M a 3) lv u (yH hB a 0 hM zGL).1 (yH hB a 1 hM zGL).1 (yH hB a 2 hM zGL).1 (yH hB a 3 hM zGL).1 hl);have E:=zW (show yV M a lv=dec (uC M a 0) (uC M a 1) (uC M a 2) (uC M a 3) lv from rfl);obtain⟨I,hI⟩:∃I,yV M a lv=I:=⟨_,rfl⟩;rw[←E.out,hI]at DC;rw[S4]at BY;rw[hI];generalize uC M a 0=c0 at BY DC;generalize uC M a 1=c1 at BY DC;generalize uC M a 2=c2 at BY DC;generalize uC M a 3=c3 at BY DC;clear S4 E hI hM hB hk hl;have G0:=zW ((Blk.new w 128 nD).alloc (.cells #[.int .u8 0,.int .u8 0,.int .u8 0,.int .u8 0] 177));have G1:=zW (Blk.new (w.alloc (.cells nD 128)) 177 #[.int .u8 0,.int .u8 0,.int .u8 0,.int .u8 0]);have B0:=zW (((zB w.heap.size w).alloc (zG _) (.cells nD 128)).alloc zGN (.cells #[.int .u8 0,.int .u8 0,.int .u8 0,.int .u8 0] 177));rw[zT]at G1;go_enter Tryz.func61,Tryz.ntmps61;go_upto_region 2 with fail;unfold nD at G0 G1 B0;generalize World.alloc (World.alloc _ _) _=w1 at G0 G1 B0⊢;refine mT (C:=fun w'=>∃x:yM,w'=x.w) [([0,1,2],3),([],4)] [] zGV zGV (fun _ _ d _ _ h=>by cases d<;>exact h) (yM.any _) ?_;intro wd hwd;have G2:=zW (show Blk w.heap.size 128 _ wd by rw[hwd];exact G0.out.drew);have G3:=zW (show Blk (w.heap.size+1) 177 _ wd by rw[hwd];exact G1.out.drew);have B1:=zW (show Below w.heap.size w wd by rw[hwd];exact B0.out.drew);clear hwd G0 G1 B0;refine mD zGW zGM ?_;repeat(go_big_quiet_step (fail))
 refine zY ?_;refine mH zGM ?_;intro K hK;go_wp2_with fail;refine(BY.out _ B1.out).mono ?_;rintro e w3 ⟨g,rfl,hg,rd,b3⟩;have G4:=zW (G2.out.step b3);have G5:=zW (G3.out.step b3);have B3:=zW (B1.out.trans (b3.mono B1.out.size));obtain⟨w4,hrun,hg4,ha⟩:=xQ 3 (w.heap.size+1) 0 4 4 (some ⟨w.heap.size+1,0,none⟩) (fun _=>rfl) (some ⟨g,0,none⟩) 4 4 4 rfl [(c0:Int),(c1:Int),(c2:Int),(c3:Int)] rfl rd [.int .u8 0,.int .u8 0,.int .u8 0,.int .u8 0] 177 G5.out zGN;have X4:=zW (show Blk (w.heap.size+1) 177 (bcs c0 c1 c2 c3) w4 from hg4);have Y4:=zW (show Blk w.heap.size 128 _ w4 from((ha none).block _ G4.out.lt zGX (fun e=>by cases e)).trans G4.out);have B4:=zW (B3.out.trans ((ha none).below B3.out.size zGX (fun k hk=>by cases hk)));clear hg4 ha G4 G5 G2 G3 B1 B3 rd b3 hg;simp only[];refine hK _ _ (yM.any _) ?_;clear hK K;refine mD zGW zGM ?_;refine zY ?_;refine mH zGM ?_;intro K hK;refine cK (.tmp 8) (.tmp 11) rfl 3 rfl _ _ _ zGM zGM hrun 12 zGM ?_;simp only[zQ,zZ,zJ];refine hK _ _ (yM.any _) ?_;clear hK K hrun;refine vW zGW ?_;refine zY ?_;have k0:=(X4.out.cell 0).trans rfl;have k1:=(X4.out.cell 1).trans rfl;have k2:=(X4.out.cell 2).trans rfl;have k3:=(X4.out.cell 3).trans rfl;go_upto_region 3 with fail;refine zH ?_;refine lL agg4 X4.out rfl rfl (.tmp 7) rfl rfl ?_;simp only[Act.put,zQ,zZ,zJ];iterate 3 go_step
 go_wp2_with fail;refine(DC.out _).mono ?_;rintro e w5 ⟨rfl,b5⟩;have Y5:=zW (Y4.out.step b5);have B5:=zW (B4.out.trans (b5.mono B4.out.size));clear b5 Y4 B4 X4 k0 k1 k2 k3;simp only[];go_at_K
 iterate 1 go_step
 refine lM mP Y5.out rfl rfl (by unfold n8 lB;kernel_rfl) rfl (.tmp 6) (.tmp 15) rfl rfl rfl ?_;simp only[Act.put,zQ,zZ,zJ];have R:=Y5.out.store (lB I);have B:=lU B5.out (zG w.heap.size) (lB I);generalize World.setRow _ _ _=w6 at R B⊢;go_wp2_with fail;iterate 4 (try go_step)
 exact zP (zE rfl _ _ w.heap.size _ _ _ _ rfl R Tryz.underlying128 rfl mP.i) rfl ⟨rfl,B⟩
theorem zQX(pg:Nat→Option Nat)(p:Nat)(lv:Int)(en:Bool)(h m a:Int)(x:Nat)(i:Ins)(l:nB)(mv:Value)(w:World)(C:CB pg p lv en (l.length:Int) h m w)(G:PGS pg (mG l) w)(hi:mG l x=some i)(hx:a%65536=(x:Int))(h0:0≤h)(h1:h≤100000):
  Calls Tryz.prog 50 #[.pointer (some ⟨p,0,none⟩),mv,.int .i64 a] w fun e w'=>e=.returned (.agg (lB i))∧CB pg p lv en (l.length:Int) (h+1) m w'∧PGS pg (mG l) w'∧lS (icO pg p) w w':=by
 have PK:=zW (fun u (hb:Below w.heap.size w u)=>oC pg (mG l) p lv en _ h m a x u (C.keep (hb.block p C.lt)) (G.kept (O:=fun _=>False) (lS.of_below hb) (fun _ _ _ _ c=>c)) hx);rw[hi]at PK;have OL:=zW (fH C G);have NP:=zW (fun j b (hj:j<256) (e:pg j=some b)=>C.notPage G hj e);have HC:=zW (fun u (hb:Below w.heap.size w u)=>C.keep (hb.block p C.lt));have HG:=zW (fun u (hb:Below w.heap.size w u)=>G.kept (O:=fun _=>False) (lS.of_below hb) (fun _ _ _ _ c=>c));have HP:=zW C.lt;have HH:=zW (zM h0 h1);have G0:=zW (Blk.new w 128 nD);have B0:=zW (nS w (.cells nD 128));clear C G hi hx h0 h1;obtain⟨io,ix,iy,i_n,inn,ia,il⟩:=i;simp only[Option.getD_some,Option.isSome_some]at PK;unfold lB at PK⊢;simp only at PK⊢;go_enter Tryz.func50,Tryz.ntmps50;go_upto_region 1 with fail;unfold nD at G0 B0;obtain⟨g,hg⟩:∃g,w.heap.size=g:=⟨_,rfl⟩;have GL:=zW (show w.heap.size=g from hg);rw[hg]at G0⊢;generalize World.alloc _ _=w1 at G0 B0⊢;clear hg;go_wp2_with fail;refine(PK.out _ B0.out).mono ?_;rintro e w2 ⟨rfl,b2⟩;have G2:=zW (G0.out.step b2);have B2:=zW (B0.out.trans (b2.mono B0.out.size));clear b2 G0 B0 PK;have X3:=zW (Blk.new w2 128 #[.int .i64 io,.int .i64 ix,.int .i64 iy,.int .i64 i_n,.int .i64 inn,.int .i64 ia,.int .i64 il]);have b3:=nS w2 (.cells #[.int .i64 io,.int .i64 ix,.int .i64 iy,.int .i64 i_n,.int .i64 inn,.int .i64 ia,.int .i64 il] 128);have G3:=zW (G2.out.step b3);have B3:=zW (B2.out.trans (b3.mono B2.out.size));clear b3;go_upto_region 5 with fail;obtain⟨d,hd⟩:∃d,w2.heap.size=d:=⟨_,rfl⟩;have DL:=zW (show w.heap.size<d by have:=G2.out.lt;have:=B2.out.size;have:=GL.out;omega);rw[hd]at X3⊢;generalize World.alloc _ _=w3 at X3 G3 B3⊢;clear hd G2 B2;have C3:=zW (HC.out _ B3.out);have P3:=zW (HG.out _ B3.out);have AD:=zW (TR p 259 h w3 C3.out.ch (C3.out.fz 259) HH.out.1 (by have:=HH.out.2;omega));go_wp2_with fail;refine AD.out.mono ?_;rintro e w4 ⟨rfl,hw4⟩;have C4:=zW (show CB pg p lv en (l.length:Int) (h+1) m w4 by rw[hw4];exact C3.out.setH (h+1));have P4:=zW (show PGS pg (mG l) w4 by rw[hw4];exact P3.out.cell258 NP.out 259 _);have X4:=zW (show Blk d 128 _ w4 by rw[hw4];exact X3.out.other (fun e=>by have:=HP.out;have:=DL.out;omega) 259 _);have G4:=zW (show Blk g 128 _ w4 by rw[hw4];exact G3.out.other (fun e=>by have:=HP.out;have:=GL.out;omega) 259 _);have K4:=zW (show lS (icO pg p) w w4 by rw[hw4];exact(lS.of_below B3.out).trans (O':=icO pg p) ⟨rfl,rfl,rfl,by simp,fun k _ hk=>qD w3 ⟨p,259,none⟩ _ k (fun e=>hk (.inl e))⟩ vK.refl);clear hw4 C3 P3 X3 G3 B3 AD;go_upto_region 6 with fail;refine zH ?_;refine lL mP X4.out rfl rfl (.tmp 7) rfl rfl ?_;simp only[Act.put,zQ,zZ,zJ];refine lM mP G4.out rfl rfl zGC rfl (.tmp 6) (.tmp 26) rfl rfl rfl ?_;simp only[Act.put,zQ,zZ,zJ];have R:=zW (G4.out.store #[.int .i64 io,.int .i64 ix,.int .i64 iy,.int .i64 i_n,.int .i64 inn,.int .i64 ia,.int .i64 il]);have C5:=zW (C4.out.keep (qQ w4 g p #[.int .i64 io,.int .i64 ix,.int .i64 iy,.int .i64 i_n,.int .i64 inn,.int .i64 ia,.int .i64 il] (fun e=>by have:=HP.out;have:=GL.out;omega)));have K5:=zW (show lS (icO pg p) w (w4.setRow g #[.int .i64 io,.int .i64 ix,.int .i64 iy,.int .i64 i_n,.int .i64 inn,.int .i64 ia,.int .i64 il])from K4.out.trans (O':=fun k=>k=g) ⟨rfl,rfl,rfl,by simp[World.setRow],fun k _ hk=>qQ w4 g k _ hk⟩ (fun k hk=> .inr (by have:=GL.out;omega)));have P5:=zW (show PGS pg (mG l) (w4.setRow g #[.int .i64 io,.int .i64 ix,.int .i64 iy,.int .i64 i_n,.int .i64 inn,.int .i64 ia,.int .i64 il])from P4.out.kept (O:=fun k=>k=g) ⟨rfl,rfl,rfl,by simp[World.setRow],fun k _ hk=>qQ w4 g k _ hk⟩ (fun j b hj e c=>by have:=OL.out b (.inr ⟨j,hj,e⟩);have:=GL.out;omega));clear C4 P4 K4 X4 G4;generalize World.setRow _ _ _=w5 at R C5 K5 P5⊢;go_wp2_with fail;iterate 4 (try go_step)
 exact zP (zE rfl _ _ g _ _ _ _ rfl R.out Tryz.underlying128 rfl mP.i) rfl ⟨rfl,C5.out,P5.out,K5.out⟩
def s7(en:Bool)(l:nB)(x:Nat)(I:Ins):nB:=if en=true then l++[(x,I)]else l
theorem EQ(pg:Nat→Option Nat)(p:Nat)(lv:Int)(en:Bool)(h m a:Int)(x:Nat)(l:nB)(pm:Nat)(M:List Int)(v:Value)(w:World)(C:CB pg p lv en (l.length:Int) h m w)(G:PGS pg (mG l) w)(hi:mG l x=none)(hx:a%65536=(x:Int))(m0:0≤m)(m1:m≤100000)(l1:l.length≤1000000)
  (hM:M.length=65536) (hp:nV pm M v w) (hB:BtM M) (hl:(Lit.int .i64 lv).wf=true) (hpm:¬icO pg p pm):
  Calls Tryz.prog 50 #[.pointer (some ⟨p,0,none⟩),.pointer (some ⟨pm,0,none⟩),.int .i64 a] w fun e w'=>e=.returned (.agg (lB (yV M a lv)))∧zGQ pg p lv en (s7 en l x (yV M a lv)) h (m+1) w w':=by
 have PK:=zW (fun u (hb:Below w.heap.size w u)=>oC pg (mG l) p lv en _ h m a x u (C.keep (hb.block p C.lt)) (G.kept (O:=fun _=>False) (lS.of_below hb) (fun _ _ _ _ c=>c)) hx);rw[hi]at PK;have DA:=zW (fun u (hu:nV pm M v u)=>XQ pm M v a lv u hM hu hB hl);obtain⟨I,hI⟩:∃I,yV M a lv=I:=⟨_,rfl⟩;rw[hI]at DA⊢;have KP:=zW (fun u (C:CB pg p lv en (l.length:Int) h (m+1) u) (G:PGS pg (mG l) u)=>DF pg p lv en h (m+1) a x I l u C G hi l1 hx);have OL:=zW (fH C G);have NP:=zW (fun j b (hj:j<256) (e:pg j=some b)=>C.notPage G hj e);have HC:=zW (fun u (hb:Below w.heap.size w u)=>C.keep (hb.block p C.lt));have HG:=zW (fun u (hb:Below w.heap.size w u)=>G.kept (O:=fun _=>False) (lS.of_below hb) (fun _ _ _ _ c=>c));have HM:=zW (fun u (k:lS (icO pg p) w u)=>hp.keep (k.block pm hp.lt hpm));have HP:=zW C.lt;have HH:=zW (zM m0 m1);have G0:=zW (Blk.new w 128 nD);have B0:=zW (nS w (.cells nD 128));clear C G hi hx m0 m1 hI hM hp hB hl hpm l1;obtain⟨io,ix,iy,i_n,inn,ia,il⟩:=I;simp only[Option.getD_none,Option.isSome_none,zZD]at PK;unfold lB at DA KP⊢;unfold nD at PK;simp only at DA KP⊢;go_enter Tryz.func50,Tryz.ntmps50;go_upto_region 1 with fail;unfold nD at G0 B0;obtain⟨g,hg⟩:∃g,w.heap.size=g:=⟨_,rfl⟩;have GL:=zW (show w.heap.size=g from hg);rw[hg]at G0⊢;generalize World.alloc _ _=w1 at G0 B0⊢;clear hg;go_wp2_with fail;refine(PK.out _ B0.out).mono ?_;rintro e w2 ⟨rfl,b2⟩;have G2:=zW (G0.out.step b2);have B2:=zW (B0.out.trans (b2.mono B0.out.size));clear b2 G0 B0 PK;have b3:=nS w2 (.cells #[.int .i64 0,.int .i64 0,.int .i64 0,.int .i64 0,.int .i64 0,.int .i64 0,.int .i64 0] 128);have G3:=zW (G2.out.step b3);have B3:=zW (B2.out.trans (b3.mono B2.out.size));clear b3;go_upto_region 7 with fail;generalize World.alloc _ _=w3 at G3 B3⊢;clear G2 B2;have C3:=zW (HC.out _ B3.out);have P3:=zW (HG.out _ B3.out);have AD:=zW (TR p 260 m w3 C3.out.cm (C3.out.fz 260) HH.out.1 (by have:=HH.out.2;omega));go_wp2_with fail;refine AD.out.mono ?_;rintro e w4 ⟨rfl,hw4⟩;have C4:=zW (show CB pg p lv en (l.length:Int) h (m+1) w4 by rw[hw4];exact C3.out.setM (m+1));have P4:=zW (show PGS pg (mG l) w4 by rw[hw4];exact P3.out.cell258 NP.out 260 _);have G4:=zW (show Blk g 128 _ w4 by rw[hw4];exact G3.out.other (fun e=>by have:=HP.out;have:=GL.out;omega) 260 _);have K4:=zW (show lS (icO pg p) w w4 by rw[hw4];exact(lS.of_below B3.out).trans (O':=icO pg p) ⟨rfl,rfl,rfl,by simp,fun k _ hk=>qD w3 ⟨p,260,none⟩ _ k (fun e=>hk (.inl e))⟩ vK.refl);clear hw4 C3 P3 G3 B3 AD;have c0:=C4.out.c0;go_wp2_with fail;clear c0;refine(DA.out _ (HM.out _ K4.out)).mono ?_;rintro e w5 ⟨rfl,b5⟩;have C5:=zW (C4.out.keep (b5.block p C4.out.lt));have P5:=zW (P4.out.kept (O:=fun _=>False) (lS.of_below b5) (fun _ _ _ _ c=>c));have G5:=zW (G4.out.step b5);have K5:=zW (K4.out.trans (lS.of_below b5) vK.refl);clear b5 C4 P4 G4 K4 DA;have X6:=zW (Blk.new w5 128 #[.int .i64 io,.int .i64 ix,.int .i64 iy,.int .i64 i_n,.int .i64 inn,.int .i64 ia,.int .i64 il]);have b6:=nS w5 (.cells #[.int .i64 io,.int .i64 ix,.int .i64 iy,.int .i64 i_n,.int .i64 inn,.int .i64 ia,.int .i64 il] 128);have C6:=zW (C5.out.keep (b6.block p C5.out.lt));have P6:=zW (P5.out.kept (O:=fun _=>False) (lS.of_below b6) (fun _ _ _ _ c=>c));have G6:=zW (G5.out.step b6);have K6:=zW (K5.out.trans (lS.of_below b6) vK.refl);clear b6;go_upto_region 9 with fail;obtain⟨d,hd⟩:∃d,w5.heap.size=d:=⟨_,rfl⟩;have DL:=zW (show w.heap.size<d by have:=G5.out.lt;have:=GL.out;omega);rw[hd]at X6⊢;generalize World.alloc _ _=w6 at X6 C6 P6 G6 K6⊢;clear hd C5 P5 G5 K5;have c1:=C6.out.c1;cases en
 ·have E:=zW (show s7 false l x ⟨io,ix,iy,i_n,inn,ia,il⟩=l by unfold s7;simp);have GW:=zW (show vK (icO pg p) (icO pg p) w.heap.size from vK.refl);have NG:=zW (show∀j b,j<256→pg j=some b→b≠g from fun j b hj e c=>by have:=OL.out b (.inr ⟨j,hj,e⟩);have:=GL.out;omega);have wz0:∃wz,wz=w6:=⟨_,rfl⟩;obtain⟨wz,hwz⟩:=wz0;rw[←hwz]at X6 C6 P6 G6 K6 c1⊢;clear hwz;go_upto_region 11 with fail;refine zH ?_;refine lL mP X6.out rfl rfl (.tmp 9) rfl rfl ?_;simp only[Act.put,zQ,zZ,zJ];refine lM mP G6.out rfl rfl zGC rfl (.tmp 6) (.tmp 46) rfl rfl rfl ?_;simp only[Act.put,zQ,zZ,zJ];have R:=zW (G6.out.store #[.int .i64 io,.int .i64 ix,.int .i64 iy,.int .i64 i_n,.int .i64 inn,.int .i64 ia,.int .i64 il]);have C9:=zW (C6.out.keep (qQ wz g p #[.int .i64 io,.int .i64 ix,.int .i64 iy,.int .i64 i_n,.int .i64 inn,.int .i64 ia,.int .i64 il] (fun e=>by have:=HP.out;have:=GL.out;omega)));have K9:=zW (show lS (icO pg p) w (wz.setRow g #[.int .i64 io,.int .i64 ix,.int .i64 iy,.int .i64 i_n,.int .i64 inn,.int .i64 ia,.int .i64 il])from K6.out.trans (O':=fun k=>k=g) ⟨rfl,rfl,rfl,by simp[World.setRow],fun k _ hk=>qQ wz g k _ hk⟩ (fun k hk=> .inr (by have:=GL.out;omega)));have P9:=zW (P6.out.kept (O:=fun k=>k=g) (w':=wz.setRow g #[.int .i64 io,.int .i64 ix,.int .i64 iy,.int .i64 i_n,.int .i64 inn,.int .i64 ia,.int .i64 il]) ⟨rfl,rfl,rfl,by simp[World.setRow],fun k _ hk=>qQ wz g k _ hk⟩ (fun j b hj e=>NG.out j b hj e));clear C6 P6 K6 X6 G6;exact zB3
 ·have E:=zW (show s7 true l x ⟨io,ix,iy,i_n,inn,ia,il⟩=l++[(x,⟨io,ix,iy,i_n,inn,ia,il⟩)] by unfold s7;simp);go_upto_region 10 with fail;clear c1;refine zH ?_;iterate 6 go_step
  refine lL mP X6.out rfl rfl (.tmp 9) rfl rfl ?_;simp only[Act.put,zQ,zZ,zJ];go_wp2_with fail;refine(KP.out _ C6.out P6.out).mono ?_;rintro e wz ⟨rfl,pg2,C7,P7,K7,GW⟩;have NG:=zW (show∀j b,j<256→pg2 j=some b→b≠g from fun j b hj e c=>by
   rcases GW b (.inr ⟨j,hj,e⟩)with q|q
   ·have:=OL.out b q;have:=GL.out;omega
   ·have:=G6.out.lt;omega)
  have GW:=zW (show vK (icO pg p) (icO pg2 p) w.heap.size from fun k hk=>(GW k hk).imp id (fun q=>zR K6.out.size q));have GN0:=zW (show¬icO pg p g from fun c=>by have:=OL.out g c;have:=GL.out;omega);have GN1:=zW (show¬icO pg p d from fun c=>by have:=OL.out d c;have:=DL.out;omega);have C7:=zW C7;have P7:=zW P7;have X7:=zW (show Blk d 128 _ wz from(K7.block d X6.out.lt GN1.out).trans X6.out);have G7:=zW (show Blk g 128 _ wz from(K7.block g G6.out.lt GN0.out).trans G6.out);have K8:=zW (K6.out.trans K7 vK.refl);clear K7 C6 P6 X6 G6 K6 KP;go_upto_region 11 with fail;refine zH ?_;refine lL mP X7.out rfl rfl (.tmp 9) rfl rfl ?_;simp only[Act.put,zQ,zZ,zJ];refine lM mP G7.out rfl rfl zGC rfl (.tmp 6) (.tmp 46) rfl rfl rfl ?_;simp only[Act.put,zQ,zZ,zJ];have R:=zW (G7.out.store #[.int .i64 io,.int .i64 ix,.int .i64 iy,.int .i64 i_n,.int .i64 inn,.int .i64 ia,.int .i64 il]);have C9:=zW (C7.out.keep (qQ wz g p #[.int .i64 io,.int .i64 ix,.int .i64 iy,.int .i64 i_n,.int .i64 inn,.int .i64 ia,.int .i64 il] (fun e=>by have:=HP.out;have:=GL.out;omega)));have K9:=zW (show lS (icO pg p) w (wz.setRow g #[.int .i64 io,.int .i64 ix,.int .i64 iy,.int .i64 i_n,.int .i64 inn,.int .i64 ia,.int .i64 il])from K8.out.trans (O':=fun k=>k=g) ⟨rfl,rfl,rfl,by simp[World.setRow],fun k _ hk=>qQ wz g k _ hk⟩ (fun k hk=> .inr (by have:=GL.out;omega)));have P9:=zW (P7.out.kept (O:=fun k=>k=g) (w':=wz.setRow g #[.int .i64 io,.int .i64 ix,.int .i64 iy,.int .i64 i_n,.int .i64 inn,.int .i64 ia,.int .i64 il]) ⟨rfl,rfl,rfl,by simp[World.setRow],fun k _ hk=>qQ wz g k _ hk⟩ (fun j b hj e=>NG.out j b hj e));clear C7 P7 K8 X7 G7;exact zB3
theorem F5(a:Int):a%65536=((gQ a:Nat):Int):=by unfold gQ;omega
theorem zW0(a:Int):gQ a<65536:=by unfold gQ;omega
end
end Go.Proofs.YtbpniahcjbagmaaGreatDoor
