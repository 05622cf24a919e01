/- FrmLawK, FrmFew. -/
import Derived.Test.YtbpniahcjbagmaaGreatDoorMFrmAwake
set_option maxRecDepth 400000
set_option maxHeartbeats 64000000
set_option linter.unusedVariables false
set_option linter.unusedSimpArgs false
namespace Go.Proofs.YtbpniahcjbagmaaGreatDoor
section
open Go.RowKit Num Dec Cpu
section
variable {ops:Array Oper} {C:World→Prop} {Q:Act→Prop} {o:Oper} {rest:List Oper} {ac:Act}
end
def rV(l:List Fm):Nat:=(l.map Fm.u).sum
def okF(l:List Fm):Bool:=l.all fun f=>decide (f.n≤20)
def WA(n k:Nat)(l:List Fm):Bool:=okF (l.take 13)&&(decide (n≤2000)&&decide (k≤100)&&decide (l.length≤12)&&decide (rV (l.take 13)≤300))
theorem oC(l:List Fm)(j:Nat)(h:j<l.length):rV (l.take (j+1))=rV (l.take j)+l[j].u:=by
 unfold rV;rw[List.take_add_one,zS h];simp only[Option.toList_some,jA,List.map_cons,List.map_nil,List.sum_append,List.sum_cons,List.sum_nil];omega
theorem zQW(l:List Fm)(j:Nat)(h:j<l.length):okF (l.take (j+1))=(okF (l.take j)&&decide (l[j].n≤20)):=by
 unfold okF;rw[List.take_add_one,zS h];simp only[Option.toList_some,List.all_append,List.all_cons,List.all_nil,Bool.and_true]
theorem okF_no(l:List Fm)(j:Nat)(h:j<l.length)(h12:j≤12)(hn:¬l[j].n≤20):okF (l.take 13)=false:=by
 unfold okF;rw[List.all_eq_false];refine⟨l[j],?_,by simpa using hn⟩;rw[List.mem_take_iff_getElem];exact⟨j,by omega,rfl⟩
theorem F6(A B:Option Addr)(n c k d:Nat)(F:Option Addr)(m cf:Nat)(l:List Fm)(hn:n≤maxLen)(hk:k≤maxLen)(w:World)(HF:TO w F m cf l):
  Calls Tryz.prog 9 #[.slice A n c,.slice B k d,.slice F m cf] w fun e w'=>e=.returned (.bool (WA n k l))∧w=w':=by
 have n1:(n:Int)≤9223372036854775807:=by unfold maxLen at hn;omega
 have k1:(k:Int)≤9223372036854775807:=by unfold maxLen at hk;omega
 have m1:(m:Int)≤9223372036854775807:=by have h1:=HF.cap;have h2:=HF.max;unfold maxLen at h2;omega
 obtain⟨r,hr⟩:∃r,WA n k l=r:=⟨_,rfl⟩;have HR:=zW hr;have HH:=zW HF;rw[hr];clear hn hk hr HF;go_enter Tryz.func9,Tryz.ntmps9;go_wp2_with fail;go_loopw [7,8] (fun t i wr=>∃j:Nat,j≤m∧j≤13∧i=.int .i64 (j:Int)∧t=.int .i64 (rV (l.take j):Int)∧rV (l.take j)≤255*j∧okF (l.take j)=true∧wr=w) (fun _ i _=>13-(intOf i).toNat)
 case atStart=>exact⟨0,qC _,by decide,rfl,rfl,zH _,rfl,rfl⟩
 case round=>
  obtain⟨j,hj,hj13,rfl,rfl,hs,ho,rfl⟩:=hrel
  have SS:=zW hs
  have OO:=zW ho
  clear hs ho
  by_cases hlt:j<m∧j≤12
  ·have il:j<l.length:=by rw[HH.out.len];exact hlt.1
   obtain⟨b,o,rfl,lt,c1,c2,ok⟩:=HH.out.at_ j il
   obtain⟨S,hS⟩:∃S,rV (l.take j)=S:=⟨_,rfl⟩
   have E1:=zW (oC l j il)
   have E2:=zW (zQW l j il)
   have E3:=zW (okF_no l j il hlt.2)
   have EV:=zW (zR ok.ev.cap ok.ev.max)
   have U8:=zW ok.u8
   obtain⟨f,hf⟩:∃f,l[j]=f:=⟨_,rfl⟩
   rw[hS]at SS E1⊢
   rw[hf]at c1 c2 E1 E2 E3 EV U8
   clear hf ok
   obtain⟨fA,fn,fc,fe,fu⟩:=f
   have j1:(j:Int)<(m:Int):=zLF
   have j12:(j:Int)≤12:=zLF
   have wu:IntKind.i64.wrap (fu:Int)=(fu:Int):=by rw[zU];have:=U8.out;simp only at this;omega
   have S1:(S:Int)≤255*13:=by have:=SS.out;omega
   have u1:(fu:Int)≤255:=by have:=U8.out;simp only at this;omega
   have JX:=zW hlt
   have f1:(fn:Int)≤9223372036854775807:=by have:=EV.out;unfold maxLen at this;simp only at this;omega
   rcases(show(20:Int)<(fn:Int)∨¬(20:Int)<(fn:Int) by omega)with h20|h20
   ·obtain rfl:r=false:=by rw[←HR.out];unfold WA;rw[E3.out (by show¬fn≤20;omega)];rfl
    go_wp2
    go_returns
    exact⟨rfl,rfl⟩
   ·go_wp2
    go_roundw
    case rel=>exact⟨j+1,JX.out.1,by have:=JX.out.2;omega,by go_num,by rw[E1.out];go_num,by rw[E1.out];have h1:=SS.out;have h2:=U8.out;simp only at h2⊢;omega,by rw[E2.out,OO.out];simp;omega,by trivial⟩
    case measure=>have:=JX.out.2;simp[intOf];omega
  ·have TT:=zW (show l.take 13=l.take j by
    rcases(show j=m∨j=13 by omega)with h|h
    ·rw[qW (by rw[HH.out.len];omega),qW (by rw[HH.out.len];omega)]
    ·rw[h])
   obtain⟨S,hS⟩:∃S,rV (l.take j)=S:=⟨_,rfl⟩
   have RR:=zW (show(decide (n≤2000)&&decide (k≤100)&&decide (m≤12)&&decide (S≤300))=r by rw[←HR.out];unfold WA;rw[TT.out,OO.out,hS,HH.out.len];rfl)
   rw[hS]
   clear hS
   have hcase:(¬(j:Int)<(m:Int))∨((j:Int)<(m:Int)∧¬(j:Int)≤12):=zLF
   rcases hcase with j1|⟨j1,j12⟩<;>rcases(show(n:Int)≤2000∨¬(n:Int)≤2000 by omega)with h1|h1<;>rcases(show(k:Int)≤100∨¬(k:Int)≤100 by omega)with h2|h2<;>rcases(show(m:Int)≤12∨¬(m:Int)≤12 by omega)with h3|h3<;>rcases(show(S:Int)≤300∨¬(S:Int)≤300 by omega)with h4|h4
   all_goals
    obtain rfl:=RR.out
    go_wp2
    go_returns
    refine⟨?_,rfl⟩
    congr 2
    simp
    omega
theorem zZH(N:Nat):∀(k:Nat) (s:mR) (a:AS),s.ex≤(frN N k s a).1.ex∧(frN N k s a).1.ex≤s.ex+(k:Int)
 |0,s,a=>⟨Int.le_refl _,by show s.ex≤s.ex+0;omega⟩
 |k+1,s,a=>by
  have h1:=BJ s a;have h2:=zZH N k (nmM s a) (vA N s a);unfold frN;split
  ·simp only;omega
  ·split
   ·simp only;omega
   ·omega
theorem rlM_no{s:mR}{a:AS}{e:Ev}(h:s.k≠1):uU s a e=s:=by
 unfold uU;rw[zL];intro c;unfold rlM at c;simp at c;omega
theorem ky_k(l:List Ev):∀(x:mR×AS),2≤x.1.k→(kyN l x).1=x.1:=by
 induction l with
 |nil=>intro x _;rfl
 |cons e l ih=>
  intro x h
  show(kyN l (uU x.1 x.2 e,rY x.1 x.2 e)).1=x.1
  have h0:uU x.1 x.2 e=x.1:=rlM_no zLF
  rw[ih _ (by show 2≤(uU x.1 x.2 e).k;rw[h0];exact h)]
  exact h0
theorem ky_exl(l:List Ev):∀(x:mR×AS),(kyN l x).1.ex=x.1.ex:=by
 induction l with
 |nil=>intro x;rfl
 |cons e l ih=>
  intro x
  show(kyN l (uU x.1 x.2 e,rY x.1 x.2 e)).1.ex=x.1.ex
  rw[ih]
  exact zLK x.1 x.2 e
theorem ky_len(l:List Ev):∀(x:mR×AS),(kyN l x).2.ks.length=x.2.ks.length+l.length:=by
 induction l with
 |nil=>intro x;rfl
 |cons e l ih=>
  intro x
  show(kyN l (uU x.1 x.2 e,rY x.1 x.2 e)).2.ks.length=_
  rw[ih]
  have:=zLX x.1 x.2 e
  simp only[List.length_cons]
  omega
theorem zZN(N:Nat):∀(k:Nat) (s:mR) (a:AS),(frN N k s a).2.ks=a.ks
 |0,s,a=>rfl
 |k+1,s,a=>by
  unfold frN;split
  ·rfl
  ·split
   ·exact GS N s a
   ·exact(zZN N k _ _).trans (GS N s a)
end
end Go.Proofs.YtbpniahcjbagmaaGreatDoor
