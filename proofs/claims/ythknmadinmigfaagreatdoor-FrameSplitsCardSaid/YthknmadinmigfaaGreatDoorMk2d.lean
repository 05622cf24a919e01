/- CpuSame, DecRef, DecRef2, ScrRel, CpuOff, IcNum, IcRm, MacNum, MacKey. -/
import Derived.Test.YthknmadinmigfaaGreatDoorMk2c
set_option maxRecDepth 400000
set_option maxHeartbeats 64000000
set_option linter.unusedVariables false
set_option linter.unusedSimpArgs false
namespace Go.Proofs.YthknmadinmigfaaGreatDoor
section
open Go.RowKit Num Dec Cpu
section
variable {ops:Array Oper} {C:World→Prop} {Q:Act→Prop} {o:Oper} {rest:List Oper} {ac:Act}
end
theorem Rm.rd{ad:Addr}{M:List Int}{w:World}(h:Rm ad M w):Rd w (some ad) M:=fun _=>⟨ad,rfl,h.1,h.2⟩
theorem zZ7(p o:Nat)(w:World):(Instr.sliceAt 45 (.pointer (some ⟨p,o,none⟩)) none none none).run Tryz.prog w=.ok (.slice (some ⟨p,o,none⟩) 16 16) w:=by
 have h:=run_sliceAt_array_all (P:=Tryz.prog) w 45 ⟨p,o,none⟩ Tryz.underlying45;exact zN4
theorem JD{b:Nat}{T:TypeId}{cs:Array Value}{w:World}(H:Blk b T cs w)(o:Nat)(L:List Int)(h:∀j (hj:j<L.length),cs[o+j]?=some (.int .u8 L[j])):Rd w (some ⟨b,o,none⟩) L:=fun _=>⟨_,rfl,H.lt,fun j hj=>by rw[cO,H.cell];exact h j hj⟩
end
section
open Go.RowKit Num Dec
def fv(hd x y n nn nnn:Nat):Value:=.agg #[.int .i64 (hd:Int),.int .i64 (x:Int),.int .i64 (y:Int),.int .i64 (n:Int),.int .i64 (nn:Int),.int .i64 (nnn:Int)]
section
variable {w0 w w':World} {g bx:Nat} {fc cs:Array Value}
end
end
section
open Go.RowKit Num
theorem I8(b:Bool):16≤wid b∧wid b≤128∧16≤hei b∧hei b≤64:=by cases b<;>decide
structure Rel(S:Sc)(F:Nat→Nat→Bool):Prop where
 pl:∀i,i<4→S.P i=fwd (F i)
 res:∀i,i<4→xB (F i) (wid S.hi) (hei S.hi)
theorem AK:fwd (fun _=>false)=fun _=>0#128:=funext fun y=>gZ fun x hx=>by rw[yR _ _ _ hx,wI]
theorem zKZ{S:Sc}{F:Nat→Nat→Bool}(H:Rel S F)(M:Nat):Rel (xO (fun _ _ _=>0#128) M S) (fun i=>if onB M i then fun _=>false else F i):=by
 refine⟨fun i hi=>?_,fun i hi=>?_⟩
 ·show(if onB M i=true then _ else _)=_;split
  ·rw[AK]
  ·exact H.pl i hi
 ·show xB (if onB M i=true then _ else _) _ _;split
  ·exact gN _ _
  ·exact H.res i hi
theorem fA{S:Sc}{F:Nat→Nat→Bool}(H:Rel S F)(M:Nat)(dx dy:Int):Rel (xO (fun _ p=>mH p dx dy (wid S.hi) (hei S.hi)) M S) (fun i=>if onB M i then eK (F i) dx dy (wid S.hi) (hei S.hi)else F i):=by
 refine⟨fun i hi=>?_,fun i hi=>?_⟩
 ·show(if onB M i=true then _ else _)=_;split
  ·rw[H.pl i hi];exact funext fun y=>(W0 (F i) dx dy _ _ (I8 S.hi).2.1 (H.res i hi) y).symm
  ·exact H.pl i hi
 ·show xB (if onB M i=true then _ else _) _ _;split
  ·exact zX3 _ _ _ _ _
  ·exact H.res i hi
section
variable (G:Nat→Nat) {S:Sc} {F:Nat→Nat→Bool} (M n:Nat) (big clip:Bool) (x y:Nat)
theorem BR(k:Nat)(hk:k≤4):fwd (spK G M n big clip x y (wid S.hi) (hei S.hi) k)=spZ G S M n big clip x y (nY M k).length:=by
 unfold spK;rw[zVN,iY M n big k hk,←sM];rfl
theorem zX6(n1:n≤16)(k:Nat):xB (spK G M n big clip x y (wid S.hi) (hei S.hi) k) (wid S.hi) (hei S.hi):=by
 obtain⟨a,b,c,d⟩:=I8 S.hi;have hr:=zXE (nth (pR G (if big then 16 else n) (if big then 2 else 1) (yY M n big k))) (if big then 16 else n) ((if big then 2 else 1)*8) (x%wid S.hi) (y%hei S.hi) (wid S.hi) (hei S.hi) clip (by cases big<;>simp) a b (kB _ zLS) (by cases big<;>simp<;>omega) (kB _ zLS);intro t ht;have ht:px (spr _ _ _ _ _ _ _ _ (t/128)) (t%128)=true:=ht;constructor
 ·rcases jT (t%128) (wid S.hi)with h|h
  ·exact h
  ·have h2:=hr.1 (t/128) ((t%128:Nat):Int) zLS;rw[fI]at h2;rw[h2]at ht;cases ht
 ·rcases jT (t/128) (hei S.hi)with h|h
  ·exact h
  ·rw[hr.2 _ h,wI]at ht;cases ht
theorem zKQ(H:Rel S F)(n1:n≤16):Rel (drZ G S M n big clip x y) (drK G F M n big clip x y (wid S.hi) (hei S.hi) 4):=by
 refine⟨fun i hi=>?_,fun i hi=>?_⟩
 ·rw[drZ_P];unfold drK;by_cases h:onB M i=true
  ·rw[zN h,zN ⟨hi,h⟩,←BR G M n big clip x y i zLS,H.pl i hi];exact funext fun r=>(AY _ _ r).symm
  ·rw[zL h,zL (fun q=>h q.2)];exact H.pl i hi
 ·rw[drZ_hi];unfold drK;split
  ·intro t ht;have h1:=H.res i hi t;have h2:=zX6 G (S:=S) M n big clip x y n1 i t;cases e:F i t
   ·simp only[e,Bool.false_xor]at ht;exact h2 ht
   ·exact h1 e
  ·exact H.res i hi
theorem zVL(H:Rel S F)(N:Nat)(hN:N=8192):coZ G S M n big clip x y=hiK G F M n big clip x y (wid S.hi) (hei S.hi) N 4:=by
 have e:∀k,k≤4→zJB G S M n big clip x y k=hiK G F M n big clip x y (wid S.hi) (hei S.hi) N k:=by
  intro k;induction k with
  |zero=>intro _;exact(PT G S M n big clip x y).2
  |succ k ih=>
   intro hk
   rw[hiK,←ih zLS]
   by_cases h:onB M k=true
   ·rw[zN h]
    unfold zJB
    rw[vU M k zLS,zN h,kY,List.map_cons,List.map_nil,sE,jE,qY]
    congr 1
    show tP (S.P k) (spZ G S M n big clip x y (nY M k).length)=_
    rw[H.pl k zLS,←BR G M n big clip x y k zLS]
    subst hN
    exact WA _ _
   ·rw[zL h]
    unfold zJB
    rw[vU M k zLS,zL h,kN]
 exact e 4 (zH _)
end
end
section
open Go.RowKit Num Dec Cpu
theorem gB{b c:Nat}{T U:TypeId}{cs ds:Array Value}{w:World}(h:Blk b T cs w)(k:Blk c U ds w)(e:T≠U):b≠c:=fun hb=>by
 have h:w.heap[b]?=some (.cells cs T (0,0)):=h;have k:w.heap[c]?=some (.cells ds U (0,0)):=k;rw[hb,k]at h;injection h with h
 injection h with _ h
 exact e h.symm
theorem gG{P:Program}{c:Code}{Q:Exit→Act→World→Prop}{a:Act}{w:World}(Mid:Act→Act→World→Prop)(h1:c.wp P (fun x a' w'=>x=.normal∧Mid a a' w') a w)(h2:∀a' w',Mid a a' w'→Q .normal a' w'):c.wp P Q a w:=
 Code.wp_mono (fun e a' w' h=>by obtain⟨rfl,h⟩:=h;exact h2 a' w' h) h1
theorem RS.low{N:Nat}{w:World}{z:Sls}{a:AS}(R:RS N w z a):YI (fun k=>w.heap.size≤k) z:=by
 have key:∀s:Sl,(∀ad,s.A=some ad→0<s.n→ad.block<w.heap.size)→oX (fun k=>w.heap.size≤k) s:=fun s h ad e hp c=>by
  have h1:=h ad e hp;have c:w.heap.size≤ad.block:=c;omega
 have rdl:∀(A:Option Addr) (L:List Int) (n:Nat),Rd w A L→L.length=n→∀ad,A=some ad→0<n→ad.block<w.heap.size:=fun A L n h hl ad e hp=>by
  obtain⟨ad2,e2,hb,_⟩:=h (by intro c;rw[c]at hl;simp at hl;omega);rw[e]at e2;cases e2
  exact hb
 refine⟨key _ ?_,key _ ?_,key _ ?_,key _ ?_,key _ (rdl _ _ _ R.P.1 R.P.2),key _ (rdl _ _ _ R.fl.2 (by rw[mG];exact R.fl.1.symm)),key _ (rdl _ _ _ R.L.1 R.L.2)⟩
 ·exact zNC
 ·intro ad e _;obtain⟨ad2,c,e2,r⟩:=R.M;rw[e2]at e;cases e
  exact r.1
 ·exact zND
 ·exact zHZ
theorem RS.off{N:Nat}{w w':World}{z:Sls}{a:AS}{O:Nat→Prop}(R:RS N w z a)(f:YI O z)(hp:∀p f,Pxs p f w→¬O p)(k:lN O w w'):RS N w' z a:=by
 refine⟨?_,?_,?_,?_,⟨aA R.P.1 R.P.2 k f.P,R.P.2⟩,⟨R.fl.1,aA R.fl.2 (by rw[mG];exact R.fl.1.symm) k f.fl⟩,⟨aA R.L.1 R.L.2 k f.L,R.L.2⟩⟩
 ·refine⟨fun _ _=>qI _,fun hne=>?_,R.sk.len,R.sk.cap,R.sk.max⟩;obtain⟨b',o,e,hb,hc⟩:=R.sk.row hne;have hn:=f.sk _ e (by have:=List.length_pos_iff.2 hne;rw[R.sk.len]at this;exact this);exact⟨b',o,e,zF hb k.size,fun j hj=>(qE (k.block b' hb hn)).trans (hc j hj)⟩
 ·obtain⟨ad,c,e,r⟩:=R.M;have hn:=f.M ad (by rw[e]) (by rw[e];exact Nat.zero_lt_succ _);exact⟨ad,c,e,zF r.1 k.size,fun j hj=>(qE (by rw[yV];exact k.block _ r.1 hn)).trans (r.2 j hj)⟩
 ·obtain⟨A,cap,gs,e,p⟩:=R.G;refine⟨A,cap,gs,e,p.len,fun hne=>?_,fun i hi=>?_⟩
  ·obtain⟨b',o,eA,hb,hc⟩:=p.row hne;have hn:=f.G _ (by rw[e];exact eA) (by rw[e];exact Nat.zero_lt_succ _);exact⟨b',o,eA,zF hb k.size,fun j hj=>(qE (k.block b' hb hn)).trans (hc j hj)⟩
  ·have P:=p.px i hi;have hk:=k.block _ P.lt (hp _ _ P);exact⟨zF P.lt k.size,fun j hj=>(qE hk).trans (P.at_ j hj),fun j hj=>(World.frozen?_of_block hk).trans (P.fz j hj)⟩
 ·refine⟨R.K.len,R.K.max,fun i hi=>?_⟩;obtain⟨b',o,e,hb,c1,c2,q⟩:=R.K.at_ i hi;have hn:=f.K _ e (by have:=R.K.len;omega);have hk:=k.block b' hb hn;exact⟨b',o,e,zF hb k.size,(qE hk).trans c1,(qE hk).trans c2,q⟩
theorem wN{b:Nat}{cs:Array Value}{w:World}:lN (fun k=>k=b) w (w.setRow b cs):=⟨rfl,rfl,rfl,by simp[World.setRow],fun k _ hn=>zO _ _ _ _ hn⟩
theorem zXY(q:Pr)(w:World):Calls Tryz.prog 10 #[.agg (prc q)] w fun e w'=>e=.returned (.bool (decide (1≤q.lv∧q.lv≤3)))∧Below w.heap.size w w':=by
 obtain⟨l,b0,b1,b2,b3,b4,b5,b6⟩:=q;unfold prc;by_cases h:1≤l∧l≤3
 ·rw[qJ h];obtain rfl|rfl|rfl:l=1∨l=2∨l=3:=by omega
  all_goals
   go_enter Tryz.func10,Tryz.ntmps10
   go_wp2
   go_returns
   exact⟨rfl,by go_grown⟩
 ·rw[zU h];have e1:(l==1)=false:=beq_eq_false_iff_ne.2 zLS;have e2:(l==2)=false:=beq_eq_false_iff_ne.2 zLS;have e3:(l==3)=false:=beq_eq_false_iff_ne.2 zLS;go_enter Tryz.func10,Tryz.ntmps10;go_wp2;exact zM9
end
section
open Num Dec
def eB(x a n:Int):Bool:=decide ((x-a)%65536<n)||(decide ((x+1-a)%65536<n)||(decide ((x+2-a)%65536<n)||decide ((x+3-a)%65536<n)))
theorem zZH{x a n:Int}(h:eB x a n=false):∀k:Int,0≤k→k<4→¬(x+k-a)%65536<n:=by
 unfold eB at h;simp only[Bool.or_eq_false_iff,decide_eq_false_iff_not]at h;obtain⟨h0,h1,h2,h3⟩:=h;intro k k0 k4;have:k=0∨k=1∨k=2∨k=3:=by omega
 rcases this with rfl|rfl|rfl|rfl
 ·rwa [Int.add_zero]
 ·exact h1
 ·exact h2
 ·exact h3
theorem zVW{x a n:Int}(h:eB x a n=true):∃k:Int,0≤k∧k<4∧(x+k-a)%65536<n:=by
 unfold eB at h;simp only[Bool.or_eq_true,qB]at h;rcases h with h|h|h|h
 ·exact⟨0,by omega,by omega,by rwa [Int.add_zero]⟩
 ·exact⟨1,by omega,by omega,h⟩
 ·exact⟨2,by omega,by omega,h⟩
 ·exact⟨3,by omega,by omega,h⟩
theorem zVY{x a n:Int}:eB x a n=true↔∃k:Int,0≤k∧k<4∧(x+k-a)%65536<n:=by
 refine⟨zVW,fun⟨k,k0,k4,h⟩=>?_⟩;cases hb:eB x a n
 ·exact absurd h (zZH hb k k0 k4)
 ·rfl
def yU(M:List Int)(x:Int)(k:Nat):Nat:=((seg M x 4).getD k 0).toNat
def xN(M:List Int)(x l:Int):Ins:=dec (yU M x 0) (yU M x 1) (yU M x 2) (yU M x 3) l
abbrev m6:=List (Nat×Ins)
def wG(l:m6)(a n:Int):m6:=l.filter fun p=> !eB (p.1:Int) a n
def lI(l:m6)(x:Nat):Option Ins:=match l with
 |[]=>none
 |p::t=>if p.1=x then some p.2 else lI t x
theorem ZG:∀(l:m6) (a n:Int) (x:Nat),lI (wG l a n) x=if eB (x:Int) a n=true then none else lI l x
 |[],a,n,x=>by simp[wG,lI]
 |p::t,a,n,x=>by
  have ih:=ZG t a n x;unfold wG at ih⊢;rw[List.filter_cons];cases hp:eB (p.1:Int) a n
  ·simp only[Bool.not_false,if_true];unfold lI;by_cases h:p.1=x
   ·rw[zN h,zN h];rw[h]at hp;rw[hp];simp
   ·rw[zL h,zL h,ih]
  ·simp only[Bool.not_true,Bool.false_eq_true,if_false];rw[ih];by_cases h:p.1=x
   ·rw[h]at hp;rw[hp];simp
   ·show _=if eB (x:Int) a n=true then none else lI (p::t) x;conv=>rhs;unfold lI
    rw[zL h]
theorem bQ:∀(l:m6) (y:Nat) (i:Ins) (x:Nat),lI (l++[(y,i)]) x=match lI l x with|some j=>some j|none=>if y=x then some i else none
 |[],y,i,x=>by simp[lI]
 |p::t,y,i,x=>by
  rw[List.cons_append];unfold lI;by_cases h:p.1=x
  ·rw[zN h,zN h]
  ·rw[zL h,zL h,bQ t y i x]
def wF(l:m6):Prop:=(l.map (·.1)).Nodup
theorem wF.drop{l:m6}(h:wF l)(a n:Int):wF (wG l a n):=by
 unfold wF wG at*;exact h.sublist ((List.filter_sublist).map _)
theorem FG{l:m6}{x:Nat}(h:lI l x=none):x ∉ l.map (·.1):=by
 induction l with
 |nil=>simp
 |cons p t ih=>
  unfold lI at h
  by_cases e:p.1=x
  ·rw[zN e]at h;cases h
  ·rw[zL e]at h
   rw[List.map_cons,List.mem_cons,not_or]
   exact⟨fun c=>e c.symm,ih h⟩
theorem wF.snoc{l:m6}(h:wF l){y:Nat}(i:Ins)(hn:lI l y=none):wF (l++[(y,i)]):=by
 unfold wF at*;rw[kY,List.nodup_append];refine⟨h,by simp,?_⟩;intro a ha b hb;simp at hb;subst hb;intro e;exact FG hn (e▸ha)
def rmE(l:m6)(x:Nat):m6:=l.filter fun p=>decide (p.1≠x)
theorem BJ:∀(l:m6) (x y:Nat),lI (rmE l x) y=if y=x then none else lI l y
 |[],x,y=>by simp[rmE,lI]
 |p::t,x,y=>by
  have ih:=BJ t x y;unfold rmE at ih⊢;rw[List.filter_cons];by_cases hp:p.1=x
  ·rw[zL (by simp[hp]),ih];by_cases h:y=x
   ·rw[zN h,zN h]
   ·rw[zL h,zL h];conv=>rhs;unfold lI
    rw[zL zLS]
  ·rw[zN (by simp[hp])];unfold lI;by_cases h:p.1=y
   ·rw[zN h,zL zLS,zN h]
   ·rw[zL h,ih,zL h]
theorem JM:∀(l:m6) (x:Nat),lI l x=none→rmE l x=l
 |[],x,_=>rfl
 |p::t,x,h=>by
  unfold lI at h;by_cases hp:p.1=x
  ·rw[zN hp]at h;cases h
  ·rw[zL hp]at h;have ih:=JM t x h;unfold rmE at ih⊢;rw[List.filter_cons,zN (by simp[hp]),ih]
theorem OX:∀(l:m6) (x:Nat) (i:Ins),wF l→lI l x=some i→(rmE l x).length+1=l.length
 |p::t,x,i,ho,h=>by
  unfold wF at ho;rw[List.map_cons,List.nodup_cons]at ho;unfold lI at h;by_cases hp:p.1=x
  ·have hn:lI t x=none:=by
    cases hq:lI t x with
    |none=>rfl
    |some j=>
     exfalso
     apply ho.1
     rw[hp]
     clear ho h
     induction t with
     |nil=>simp[lI]at hq
     |cons q t ih=>
      unfold lI at hq
      by_cases e:q.1=x
      ·simp[e]
      ·rw[zL e]at hq
       rw[List.map_cons,List.mem_cons]
       exact .inr (ih hq)
   have e:=JM t x hn;unfold rmE at e⊢;rw[List.filter_cons,zL (by simp[hp]),e,List.length_cons]
  ·rw[zL hp]at h;have ih:=OX t x i ho.2 h;unfold rmE at ih⊢;rw[List.filter_cons,zN (by simp[hp]),List.length_cons,List.length_cons];omega
theorem wF.rm{l:m6}(h:wF l)(x:Nat):wF (rmE l x):=by
 unfold wF rmE at*;exact h.sublist ((List.filter_sublist).map _)
theorem rm_le(l:m6)(x:Nat):(rmE l x).length≤l.length:=List.length_filter_le _ _
def rmN(l:m6)(a:Int):Nat→m6
 |0=>l
 |j+1=>rmE (rmN l a j) ((a+(j:Int))%65536).toNat
theorem aC(l:m6)(a:Int):∀j,rmN l a j=l.filter fun p=>decide (∀k,k<j→p.1≠((a+(k:Int))%65536).toNat)
 |0=>by
  unfold rmN;rw[eq_comm,List.filter_eq_self];intro p _;simp
 |j+1=>by
  unfold rmN;rw[aC l a j];unfold rmE;rw[List.filter_filter];apply List.filter_congr
  intro p _
  rw[←Bool.decide_and,decide_eq_decide];constructor
  ·rintro⟨h1,h2⟩ k hk;by_cases e:k=j
   ·subst e;exact h1
   ·exact h2 k zLS
  ·intro h;exact⟨h j zLS,fun k hk=>h k zLS⟩
def aD(n:Int):Nat:=(min n 65533+3).toNat
theorem OM(l:m6)(a n:Int)(hl:∀p∈l,p.1<65536)(n0:0<n)(n1:n≤65536):rmN l (a-3) (aD n)=wG l a n:=by
 rw[aC];unfold wG;apply List.filter_congr
 intro p hp
 have hp:=hl p hp;rw[Bool.eq_iff_iff,qB,Bool.not_eq_true',←Bool.not_eq_true,zVY];unfold aD;constructor
 ·rintro h ⟨k,k0,k4,hk⟩;by_cases hs:n≤65533
  ·refine h (3-k+((p.1:Int)+k-a)%65536).toNat zLS ?_;omega
  ·refine h (((p.1:Int)-a+3)%65536).toNat zLS ?_;omega
 ·intro h j hj e;apply h
  by_cases h3:j<3
  ·exact⟨3-(j:Int),by omega,by omega,by omega⟩
  ·by_cases hs:n≤65533
   ·exact⟨0,by omega,by omega,by omega⟩
   ·by_cases h4:(j:Int)-3<n
    ·exact⟨0,by omega,by omega,by omega⟩
    ·exact⟨3,by omega,by omega,by omega⟩
theorem OY(l:m6)(a:Int):∀j,(rmN l a j).length≤l.length
 |0=>zH _
 |j+1=>zR (rm_le _ _) (OY l a j)
def dropL(l:m6):List (Int×Int)→m6
 |[]=>l
 |s::t=>dropL (if 0<s.2 then wG l s.1 s.2 else l) t
theorem iF(l:m6)(s:Int×Int):∀t,dropL l (t++[s])=if 0<s.2 then wG (dropL l t) s.1 s.2 else dropL l t
 |[]=>rfl
 |x::t=>by
  rw[List.cons_append];unfold dropL;exact iF _ s t
theorem XP(l:m6)(a n:Int):(wG l a n).length≤l.length:=List.length_filter_le _ _
theorem eD:∀(t:List (Int×Int)) (l:m6),(dropL l t).length≤l.length
 |[],l=>zH _
 |s::t,l=>by
  unfold dropL;refine zR (eD t _) ?_;split
  ·exact XP _ _ _
  ·exact zH _
end
section
open Go.RowKit Num Dec Cpu
structure mB where
 q:Pr
 k:Int
 c:Int
 p:Int
 y:Int
 rg:Int
 ex:Int
def yH(k c p y:Int):Array Value:=#[.int .i64 k,.int .i64 c,.int .i64 p,.int .i64 y]
def mB.st(m:mB):Array Value:=yH m.k m.c m.p m.y
section
variable (m:mB) (s:CS)
end
theorem dZ:nI Tryz.prog 24 8:=⟨⟨_,Tryz.underlying24,rfl⟩,by kernel_rfl⟩
theorem rY:nI Tryz.prog 39 4:=⟨⟨_,Tryz.underlying39,rfl⟩,by kernel_rfl⟩
def H5:Pr:=⟨0,false,false,false,false,false,false,false⟩
theorem gE(k c p y:Int):nU (yH k c p y):=by unfold nU yH;simp[Value.oneCell']
def rlM(m:mB)(a:AS)(e:Ev):Bool:=rel (dnA a.ks) e&&decide (m.k=1)
def tI(m:mB)(a:AS)(e:Ev):AS:={a with ks:=a.ks++[e],v:=if rlM m a e=true then Cpu.upd a.v m.rg.toNat e.k.toNat else a.v}
def gM(m:mB)(a:AS)(e:Ev):mB:=if rlM m a e=true then{m with k:=0,c:=0,p:=0,y:=0}else m
def u6(a:AS):AS:={a with dl:=a.dl-1,sd:=a.sd-1}

end
end Go.Proofs.YthknmadinmigfaaGreatDoor
