/- StkList, Same, KeyApp, ForkN, AudRef, Kept, Fla, MemRead, AluFn, AluLk, Aud, Font, KeyLow, MemClone, BytOpen, KeyOpen, DecOpen, InsProf, LaidTab, FontFrame. -/
import Derived.Test.YtcjldabaekbdlaaGreatDoorRows
import Derived.Test.YtcjldabaekbdlaaGreatDoorMk0c
set_option maxRecDepth 400000
set_option maxHeartbeats 64000000
set_option linter.unusedVariables false
set_option linter.unusedSimpArgs false
namespace Go.Proofs.YtcjldabaekbdlaaGreatDoor
section
open Go.RowKit Num
theorem I9(ad:Addr)(n c:Nat)(L:List Int)(w:World)(H:Row (Value.int .i64) w (some ad) L)(hn:L.length=n)(n1:n≤100000):
  Calls Tryz.prog 159 #[.slice (some ad) n c] w (YB L w):=by
 have qN:∀(w:World) (a:Option Addr) (n c n' c':Nat),(binOp .eql 38 (.slice a n c) (.slice none n' c')).run Tryz.prog w=.ok (.bool a.isNone) w:=fun w a n c n' c'=>Lib.run_eql_slice_nil w _ _ a n c n' c' Tryz.underlying38;have HL:=zW (zY H (zY hn n1));clear H hn n1;go_enter Tryz.func159,Tryz.ntmps159;have Q:=zW (zY (KU w) (xF w (.cells #[] 3)));go_wp2_with (first
  |(at_builtin;refine vX dW dJ rfl (.tmp 5) (.tmp 6) rfl w.heap.size _ 0 [] rfl Q.out.1 (some ad) n c L rfl (HL.out.1.below Q.out.2) HL.out.2.1 (by have:=HL.out.2.2;omega) zBH zBT ?_;intro v1 w1 o1 g1;have P1:=zW (zY o1 (Q.out.2.grown g1 zBT fun j ej=>(Q.out.1.lt j ej).1));clear o1 g1))
 go_ret;obtain⟨o1,b1⟩:=P1.out;rw[qB,jP]at o1;obtain⟨A2,c2,e2⟩:=vQ o1;subst e2;exact⟨⟨A2,c2,by rw[HL.out.2.1];rfl,Row.of_own o1⟩,b1⟩
theorem F5(L:List Int)(hl:L.length≤16)(w:World):
  Calls Tryz.prog 75 #[.agg (nS L)] w (YB L w):=by
 have DP:=zW fun w=>eH L hl w;have HL:=zW hl;have hI:(L.length:Int)≤16:=zBY;have h0:(0:Int)≤(L.length:Int):=zBY;go_enter Tryz.func75,Tryz.ntmps75;go_upto_region 1 with fail;have S:=zW (TB8.new w L);have B:=zW (xF w (.cells (nS L) 62));generalize w.alloc (.cells (nS L) 62)=w1 at*;obtain⟨r,hr⟩:∃r,w.heap.size=r:=⟨_,rfl⟩;have HR:=zW hr;rw[hr]at S B⊢;clear hr;refine zN ?_;iterate 3 go_step
 refine lP xE S.out (nQ _) rfl (.tmp 1) rfl zBR ?_;simp only[Act.put,zQ,zZ,zJ];have Z:=zW (jX S.out.lt);go_wp2_with fail;refine(DP.out w1).mono ?_;rintro e w2 ⟨rfl,b2⟩;have S:=zW (S.out.step b2);have B:=zW (B.out.trans (b2.mono Z.out));clear b2 Z;go_wp2_with fail;refine(I9 _ _ _ L w2 (S.out.row HL.out) rfl (by have:=HL.out;omega)).mono ?_;rintro e w3 ⟨⟨A,c,rfl,hrow⟩,b3⟩;have R:=zW hrow;have B:=zW (B.out.trans (b3.mono (by have:=S.out.lt;omega)));clear hrow b3;go_wp2_with fail;go_ret;exact⟨⟨A,c,rfl,R.out⟩,by rw[HR.out];exact B.out⟩
theorem ZQ(A B:Option Addr)(c d n m:Nat)(L M:List Int)(w:World)(hn:L.length=n)(hm:M.length=m)(n1:n≤1000000)(m1:m≤1000000)(hA:Rd w A L)(hB:Rd w B M):
  Calls Tryz.prog 76 #[.slice A n c,.slice B m d] w fun e w'=>e=.returned (.bool (decide (L=M)))∧Below w.heap.size w w':=by
 by_cases hnm:n=m
 ·subst hnm;go_enter Tryz.func76,Tryz.ntmps76;go_wp2;go_loopw [5] (fun i wr=>∃k:Nat,k≤n∧i=.int .i64 k∧L.take k=M.take k∧Below w.heap.size w wr) (fun i _=>n-(intOf i).toNat)
  case atStart=>exact⟨0,qE _,rfl,rfl,zB _ _⟩
  case round=>
   obtain⟨k,hk,rfl,he,hb⟩:=hrel
   have He:=zW he
   clear he
   by_cases hlt:k<n
   ·obtain⟨ad,rfl,hg,hc⟩:=(hA.below hb).at_ (k:=k) zBY
    obtain⟨ad2,rfl,hg2,hc2⟩:=(hB.below hb).at_ (k:=k) zBY
    have hlk:(k:Int)<(n:Int):=zBY
    have ht:=dP (X:=L) (k:=k) zBY
    have ht2:=dP (X:=M) (k:=k) zBY
    obtain⟨x,hx⟩:∃x,L[k]' zBY=x:=⟨_,rfl⟩
    obtain⟨y,hy⟩:∃y,M[k]' zBY=y:=⟨_,rfl⟩
    rw[hx]at hc ht
    rw[hy]at hc2 ht2
    have H:=zW (zY ht ht2)
    clear hx hy ht ht2
    by_cases hxy:x=y
    ·subst hxy
     go_wp2
     go_quiet (fail)
     go_wp2
     go_roundw
     case rel=>exact⟨k+1,by omega,by go_num,by rw[H.out.1,H.out.2,He.out],hb.trans ⟨rfl,rfl,rfl,zH _,fun _ _=>rfl⟩⟩
     case measure=>simp[intOf];omega
    ·have hne:¬L=M:=fun e=>by
      subst e;have:=H.out.1.symm.trans H.out.2;simp at this;exact hxy this
     have Hne:=zW hne
     clear hne
     have hq:(x==y)=false:=by simpa using hxy
     go_wp2
     go_quiet (fail)
     go_wp2
     go_ret
     exact⟨by rw[zC Hne.out];rfl,hb.trans ⟨rfl,rfl,rfl,zH _,fun _ _=>rfl⟩⟩
   ·have hkn:k=n:=zBY
    subst hkn
    have he:L=M:=by
     have:=He.out;rw[qY zBY,qY zBY]at this;exact this
    go_wp2
    go_ret
    exact⟨by rw[zO he];rfl,hb⟩
 ·have hne:¬L=M:=fun e=>hnm (by rw[←hn,←hm,e]);have hq:((n:Int)==(m:Int))=false:=by simp;omega
  rw[zC hne];clear hne;go_enter Tryz.func76,Tryz.ntmps76;go_wp2;go_ret;exact⟨rfl,zB _ _⟩
theorem zZO(A B:Option Addr)(c d n m:Nat)(L:List Int)(w:World)(hn:n=L.length)(hm:m=L.length)(n1:L.length≤65536)(hA:Row (Value.int .i64) w A L)(hB:Row (Value.int .i64) w B L):
  Calls Tryz.prog 74 #[.slice A n c,.slice B m d] w fun e w'=>e=.returned (.bool true)∧Below w.heap.size w w':=by
 subst hn;subst hm;exact zV0 A B c d _ L w rfl n1 hA hB
end
section
open Go.RowKit
inductive P9 where
 |last (is:List Nat)
 |branch (is:List Nat) (cs:List Nat) (t:Nat→P9)
section
variable {P:Program} {ops:Array Oper} {C:World→Prop} {Q:Exit→Act→World→Prop} {md:Region.Mode}
def uX(P:Program)(ops:Array Oper)(C:World→Prop)(Q:Exit→Act→World→Prop):P9→Act→World→Prop
 |.last is,a,w=>wpQuiet P ops C (fun a'=>Q .normal a' w) (lA ops is) a
 |.branch is cs t,a,w=>wpQuiet P ops C (fun a'=>∀c,c∈cs→cO P ops C Q c (fun a w=>uX P ops C Q (t c) a w) a' w) (lA ops is) a
def GY(md:Region.Mode)(ops:Array Oper):P9→Array Bool→Bool
 |.last is,listed=>MI md ops is listed&&(Region.ready md ops (vB listed is)).isEmpty
 |.branch is cs t,listed=>MI md ops is listed&&decide (Region.ready md ops (vB listed is)=cs)&& !cs.isEmpty&&cs.all fun c=>GY md ops (t c) ((vB listed is).setIfInBounds c true)
def zWV:P9→Nat→Bool
 |.last is,n=>decide (n=is.length)
 |.branch is cs t,n=>decide (is.length+1≤n)&&cs.all fun c=>zWV (t c) (n-is.length-1)
theorem YN(hs:Region.noSelect ops=true)(hQ:∀(c:_) (a:Act) (d:Option Tmp) (v:Value) (w:World),Q (.panic c) (a.put d v) w→Q (.panic c) a w)(k:Nat):∀(t:P9) (n:Nat) (listed:Array Bool) (a:Act) (w:World),C w→
  zWV t n=true→GY md ops t listed=true→uX P ops C Q t a w→wpAnyH P md ops Q C (k+n) listed a w
 |.last is,n,listed,a,w,hC,hl,hB,h=>by
  simp only[GY,qK]at hB;obtain rfl:n=is.length:=by simpa [zWV]using hl
  have hr:Region.ready md ops (vB listed is)=[]:=by simpa using hB.2
  refine t6 hs hQ k hC is listed a hB.1 ?_;simp only[uX]at h;exact d9 (fun a h=>wpAnyH_done hr h k) _ _ h
 |.branch is cs t,n,listed,a,w,hC,hl,hB,h=>by
  simp only[GY,qK]at hB;obtain⟨⟨⟨hB1,hB2⟩,hB3⟩,hB4⟩:=hB;have hr:Region.ready md ops (vB listed is)=cs:=by simpa using hB2
  simp only[zWV,qK,jG]at hl;obtain⟨hn,hl⟩:=hl;obtain⟨m,rfl⟩:∃m,n=m+1+is.length:=⟨n-is.length-1,by omega⟩;rw[←qS];refine t6 hs hQ _ hC is listed a hB1 ?_;simp only[uX]at h;refine d9 (fun a' ha=>?_) _ _ h;rw[←qS];refine wpAnyH_all hr (by intro e;rw[e]at hB3;cases hB3) fun i hi=>?_;refine JH hC (ha i hi) fun a'' w'' h1 h2=>?_;have e1:=jA.1 hl i hi;rw[show m+1+is.length-is.length-1=m by omega]at e1;exact YN hs hQ k (t i) m _ a'' w'' h1 e1 (jA.1 hB4 i hi) h2
theorem xC{id:Nat}{a:Act}{w:World}{l:List Oper}(t:P9)(hm:P.follows .mixedOrders=true)
  (hB:(Region.noSelect l.toArray&&GY .any l.toArray t (Array.replicate l.toArray.size false)&&zWV t l.toArray.size)=true)
  (hQ:∀(c:_) (a:Act) (d:Option Tmp) (v:Value) (w:World),Q (.panic c) (a.put d v) w→Q (.panic c) a w) (hC:C w.drew)
  (h:∀wd,wd=w.drew→uX P l.toArray C Q t a wd):(Code.region id l.toArray true).wp P Q a w:=by
 simp only[qK]at hB;obtain⟨⟨hs,hb⟩,hl⟩:=hB;refine wp_region_held (S:=C) hm ?_;have:=YN (md:=.any) hs hQ 0 t l.toArray.size (Array.replicate l.toArray.size false) a w.drew hC hl hb (h _ rfl);rwa [qB]at this
theorem wA{is:List Nat}{l:List Oper}{a:Act}{w:World}(hl:lA ops is=l)(h:wpQuiet P ops C (fun a'=>Q .normal a' w) l a):uX P ops C Q (.last is) a w:=by
 subst hl;exact h
theorem cI{is cs:List Nat}{t:Nat→P9}{l:List Oper}{a:Act}{w:World}(hl:lA ops is=l)(h:wpQuiet P ops C (fun a'=>∀c,c∈cs→cO P ops C Q c (fun a w=>uX P ops C Q (t c) a w) a' w) l a):uX P ops C Q (.branch is cs t) a w:=by
 subst hl;exact h
theorem nP{c:Nat}{t:P9}{o:Oper}{a:Act}{w:World}(ho:ops[c]?=some o)(hw:Region.wanted o (yielded ops a.tmps)=true)(h:∀K:Act→World→Prop,(∀a w,C w→uX P ops C Q t a w→K a w)→o.wp P a w K Q):cO P ops C Q c (fun a w=>uX P ops C Q t a w) a w:=by
 unfold cO;rw[ho];simp only[hw,if_true];exact h _ fun a w hc h=>⟨hc,h⟩
end
end
section
open Go.RowKit Num
def zBW(F:Nat→Int)(w:World)(e:Ending)(w':World):Prop:=∃g,e=.returned (.slice (some ⟨g,0,none⟩) 16 16)∧w.heap.size≤g∧Blk g 5 (pc F) w'∧Below w.heap.size w w'
def XJ(L:List Int)(k:Nat)(j:Nat):Int:=if j<k then pad L j else 0
theorem zXT(A:Option Addr)(n c:Nat)(L:List Int)(w:World)(H:Rd w A L)(hn:L.length=n)(n1:n≤maxLen):
  Calls Tryz.prog 160 #[.slice A n c] w (zBW (pad L) w):=by
 have mk:∀w:World,(Instr.makeSlice 22 (.int .i64 16) (.int .i64 16)).run Tryz.prog w=.ok (.slice (some ⟨w.heap.size,0,none⟩) 16 16) (w.alloc (.cells (pc mU) 5)):=fun w=>bH 16 16 rfl zBY w;have HH:=zW (zY H hn);unfold maxLen at n1;have nI:(n:Int)≤9223372036854775807:=zBY;clear H hn;go_enter Tryz.func160,Tryz.ntmps160;go_wp2;have N:=zW (show Blk w.heap.size 5 (pc (XJ L 0)) (w.alloc (.cells (pc mU) 5))from by
  exact(Blk.new w 5 (pc mU)).eq (pR fun j _=>by unfold XJ mU;rw[zL zBY]))
 have B:=zW (mJ w (.cells (pc mU) 5));generalize w.alloc (.cells (pc mU) 5)=w1 at*;obtain⟨g,hg⟩:∃g,w.heap.size=g:=⟨_,rfl⟩;have HG:=zW hg;rw[hg]at N B⊢;clear mk hg;go_loopw [4] (fun i wr=>∃k:Nat,k≤16∧i=.int .i64 (k:Int)∧Blk g 5 (pc (XJ L k)) wr∧Below g w wr) (fun i _=>16-(intOf i).toNat)
 case atStart=>exact⟨0,by omega,rfl,N.out,B.out⟩
 case round=>
  clear N B
  obtain⟨k,hk,rfl,hP,hB⟩:=hrel
  have PB:=zW (zY hP hB)
  clear hP hB
  rcases(show(k<16∧k<n)∨¬k<16∨(k<16∧¬k<n) by omega)with⟨i1,i2⟩|i1|⟨i1,i2⟩
  ·obtain⟨ad,hA,hab,hc⟩:=(HH.out.1.below (by rw[HG.out];exact PB.out.2)).at_ (k:=k) (by rw[HH.out.2];exact i2)
   obtain⟨v,hv⟩:∃v,L[k]'(by rw[HH.out.2];exact i2)=v:=⟨_,rfl⟩
   rw[hv]at hc
   have FV:=zW (show pad L k=v by rw[VT _ _ (by rw[HH.out.2];exact i2),hv])
   obtain rfl:=hA
   have c3:=PB.out.1.cell k
   rw[rD _ _ i1]at c3
   have c4:=PB.out.1.frozen k
   have J1:=zW i1
   have i1I:(k:Int)<16:=zBY
   have i2I:(k:Int)<(n:Int):=zBY
   clear hv hab
   go_wp2
   go_roundw
   case rel=>
    refine⟨k+1,by have:=J1.out;omega,by go_num,((PB.out.1.put k (.int .u8 v)).eq (zVF _ k J1.out v)).eq (pR fun j hj=>?_),PB.out.2.setCell (p:=⟨g,k,none⟩) (zH _) _⟩
    unfold XJ
    by_cases e:j=k
    ·subst e;rw[zG rfl,zG zBY,FV.out]
    ·rw[zL e]
     by_cases e3:j<k
     ·rw[zG e3,zG zBY]
     ·rw[zL e3,zL zBY]
   case measure=>simp[intOf];omega
  ·have ke:=zW (show k=16 by omega)
   have i1I:¬(k:Int)<16:=zBY
   go_wp2
   go_ret
   exact⟨g,rfl,by rw[HG.out];exact zH _,PB.out.1.eq (pR fun j hj=>by unfold XJ;rw[zG (by rw[ke.out];exact hj)]),by rw[HG.out];exact PB.out.2⟩
  ·have ne:=zW i2
   have i1I:(k:Int)<16:=zBY
   have i2I:¬(k:Int)<(n:Int):=zBY
   go_wp2
   go_ret
   exact⟨g,rfl,by rw[HG.out];exact zH _,PB.out.1.eq (pR fun j hj=>by
    unfold XJ;by_cases e:j<k
    ·rw[zG e]
    ·rw[zL e,zQN _ _ (by rw[HH.out.2];have:=ne.out;omega)]),by rw[HG.out];exact PB.out.2⟩
structure xN(O:Nat→Prop)(w w':World):Prop where
 os:w'.os=w.os
 tape:w'.tape=w.tape
 output:w'.output=w.output
 size:w.heap.size≤w'.heap.size
 block:∀k,k<w.heap.size→¬O k→w'.heap[k]?=w.heap[k]?
def Z7(O O':Nat→Prop)(n:Nat):Prop:=∀k,O' k→O k∨n≤k
section
variable {O O' O2:Nat→Prop} {u w w':World} {n m:Nat}
theorem Z7.refl:Z7 O O n:=fun _ h=> .inl h
theorem Z7.trans(h:Z7 O O' n)(h2:Z7 O' O2 m)(hm:n≤m):Z7 O O2 n:=fun k hk=>by
 rcases h2 k hk with h3|h3
 ·exact h k h3
 ·exact .inr (zD hm h3)
theorem Z7.away(h:Z7 O O' n){k:Nat}(hk:k<n)(ho:¬O k):¬O' k:=fun c=>by
 rcases h k c with h1|h1
 ·exact ho h1
 ·omega
theorem xN.refl:xN O w w:=⟨rfl,rfl,rfl,zH _,fun _ _ _=>rfl⟩
theorem xN.mono(h:xN O w w')(ho:∀k,k<w.heap.size→O k→O' k):xN O' w w':=⟨h.os,h.tape,h.output,h.size,fun k hk hn=>h.block k hk fun c=>hn (ho k hk c)⟩
theorem xN.trans(h:xN O u w)(k:xN O' w w')(hg:Z7 O O' u.heap.size):xN O u w':=
 ⟨k.os.trans h.os,k.tape.trans h.tape,k.output.trans h.output,zD h.size k.size,fun i hi hn=>(k.block i (zS hi h.size) (hg.away hi hn)).trans (h.block i hi hn)⟩
theorem xN.of_below(h:Below w.heap.size w w'):xN O w w':=⟨h.os,h.tape,h.output,h.size,fun k hk _=>h.block k hk⟩
theorem xN.of_apart{p:Nat}{g:Option Nat}(h:nC p g w w'):xN (fun k=>k=p∨some k=g) w w':=⟨h.os,h.tape,h.output,h.size,fun k hk hn=>h.block k hk (fun e=>hn (.inl e)) (fun e=>hn (.inr e))⟩
theorem xN.below(h:xN O w w'){B:Nat}(hB:B≤w.heap.size)(ho:∀k,O k→B≤k):Below B w w':=
 ⟨h.os,h.tape,h.output,h.size,fun k hk=>h.block k zBY fun c=>by have:=ho k c;omega⟩
theorem xN.cell(h:xN O w w'){a:Addr}(ha:a.block<w.heap.size)(hn:¬O a.block):w'.cell? a=w.cell? a:=qM (h.block _ ha hn)
theorem Rd.kept{A:Option Addr}{L:List Int}(h:Rd w A L)(k:xN O w w')(hn:∀ad,A=some ad→¬O ad.block):Rd w' A L:=h.keep k.size fun ad e hlt=>k.block _ hlt (hn ad e)
theorem tA{base size len:Nat}{e:TypeId}{v:Value}{xs:List Value}(h:w.ownsRow base e size v len xs)(k:xN O w w')(hn:∀b,v.ownBlock=some b→¬O b):w'.ownsRow base e size v len xs:=by
 refine⟨h.1,h.2.imp id ?_⟩;rintro⟨b,cap,cur,rfl,hb,hh,r⟩;exact⟨b,cap,cur,rfl,hb,(k.block b (jZ.1 hh).1 (hn b rfl)).trans hh,r⟩
end
theorem TG(P:Nat→Int)(A:Option Addr)(n c:Nat)(L:List Int)(w:World)(H:Rd w A L)(hn:L.length=n):
  Calls Tryz.prog 53 #[.agg (pc P),.slice A n c] w fun e w'=>e=.returned (.agg (pc (ov P L)))∧Below w.heap.size w w':=by
 have hz:=zeroF;have HL:=zW (zY H hn);clear H hn;go_enter Tryz.func53,Tryz.ntmps53;go_upto_region 1 with fail;have S:=zW ((FB.new w P).alloc (.cells (pc mU) 81));have R:=zW (FB.new (w.alloc (.cells (pc P) 81)) mU);have B:=zW ((mJ w (.cells (pc P) 81)).alloc zBT (.cells (pc mU) 81));rw[zR]at R;generalize (w.alloc (.cells (pc P) 81)).alloc (.cells (pc mU) 81)=w1 at*;clear hz;obtain⟨r,hr⟩:∃r,w.heap.size=r:=⟨_,rfl⟩;have HR:=zW hr;rw[hr]at S R B⊢;clear hr;refine zN ?_;iterate 9 go_step
 obtain⟨d,hd⟩:∃d,d=min n 16:=⟨_,rfl⟩;have hp:w1.heap[r]?=some (.cells ((cC P).map (Value.int .u8)).toArray 81 (0,0)):=by rw[←zQL];exact S.out
 have RL:Rd w1 A L:=HL.out.1.below (by rw[HR.out];exact B.out);obtain⟨w3,hrun,hg,ha⟩:=uE 3 r 0 16 16 (some ⟨r,0,none⟩) (fun _=>rfl) A n c d hd L HL.out.2 RL _ 81 hp (by simp[nV]);rw[zMN]at hg;refine XG rfl (.tmp 6) (.tmp 7) rfl _ _ _ zBR zBR hrun 8 rfl ?_;have S3:=zW (show FB r (ov P L) w3 from hg);have R3:=zW (show FB (r+1) mU w3 from((ha none).block (r+1) R.out.lt zBY (fun e=>by cases e)).trans R.out);have B3:=zW (B.out.trans ((ha none).below (by have:=S.out.lt;omega) (zH _) (fun k hk=>by cases hk)));clear hrun hg ha RL hp hd;simp only[zQ,zZ,zJ];go_upto_region 2 with fail;refine zN ?_;refine lP U7 S3.out (nX _) rfl (.tmp 2) rfl zBR ?_;simp only[Act.put,zQ,zZ,zJ];refine lE (ds:=pc (ov P L)) U7 R3.out (nX _) (nX _) (KE _) rfl (.tmp 4) (.tmp 9) rfl zBL zBL ?_;have R4:=zW (R3.out.store (ov P L));have B4:=zW (zXM B3.out (qC r) (pc (ov P L)));generalize w3.setRow (r+1) (pc (ov P L))=w4 at*;iterate 4 go_step
 exact zT (zF rfl _ _ (r+1) _ _ _ _ rfl R4.out Tryz.underlying81 rfl (by rw[U7.i,nX])) rfl ⟨rfl,by rw[HR.out];exact B4.out⟩
theorem UV(ad:Addr)(n c:Nat)(L:List Int)(w:World)(H:Rd w (some ad) L)(hn:L.length=n)(n1:n≤1000):
  Calls Tryz.prog 166 #[.slice (some ad) n c] w (wK 5 L w):=by
 have HL:=zW (zY H (zY hn n1));clear H hn n1;have qN:∀(w:World) (a:Option Addr) (n c n' c':Nat),(binOp .eql 22 (.slice a n c) (.slice none n' c')).run Tryz.prog w=.ok (.bool a.isNone) w:=fun w a n c n' c'=>Lib.run_eql_slice_nil w _ _ a n c n' c' Tryz.underlying22;go_enter Tryz.func166,Tryz.ntmps166;have hown0:(w.alloc (.cells #[] 5)).ownsRow w.heap.size 5 1 (.slice (some ⟨w.heap.size,0,none⟩) 0 0) 0 (([]:List Int).map (Value.int .u8)):=World.ownsRow_made w #[] 0 (zH _) zB6 rfl;have Q:=zW (zY hown0 (mJ w (.cells #[] 5)));exact zDR
theorem zWX(P:Nat→Int)(n:Int)(w:World):Calls Tryz.prog 206 #[.agg (pc P),.int .i64 n] w (wK 5 ((cC P).take (cl n)) w):=by
 obtain⟨k,hk⟩:∃k,cl n=k:=⟨_,rfl⟩;have k16:k≤16:=by rw[←hk];exact cl_le n
 have e:=cl_eq n;rw[hk]at e⊢;have KI:(k:Int)≤16:=zBY;have K16:=zW k16;clear hk k16;go_enter Tryz.func206,Tryz.ntmps206;go_upto_region 1 with fail;have S:=zW (FB.new w P);have B:=zW (mJ w (.cells (pc P) 81));generalize w.alloc (.cells (pc P) 81)=w1 at*;obtain⟨r,hr⟩:∃r,w.heap.size=r:=⟨_,rfl⟩;have HR:=zW hr;rw[hr]at S B⊢;clear hr;go_wp2_with fail;refine(UV ⟨r,0,none⟩ k 16 ((cC P).take k) _ (zMQ S.out.rd k) (zX9 _ _ K16.out) (by have:=K16.out;omega)).mono ?_;rintro e w2 ⟨v,rfl,ho,hb⟩;have Z:=zW (zY ho hb);clear ho hb;go_wp2_with fail;go_ret;exact⟨v,rfl,cV Z.out.1 B.out.size,by rw[HR.out];exact B.out.trans (Z.out.2.mono (by rw[←HR.out];exact B.out.size))⟩
theorem KG(p:Nat)(M:List Int)(v:Value)(a x:Int)(k:Nat)(w:World)(hM:M.length=65536)(hp:vC p M v w)(hk:a%65536=k)(hx:M[k]?=some x):
  Calls Tryz.prog 48 #[.pointer (some ⟨p,0,none⟩),.int .i64 a] w (Reads (.int .u8 x) w):=by
 have hc:w.cell? ⟨p,k,none⟩=some (.int .u8 x):=by
  rw[hp.cell hM k zBY];rw[zP zBY]at hx;injection hx with hx
  rw[hx]
 have k0:0≤(k:Int):=zBY;have k1:(k:Int)<65536:=zBY;have H:=zW hk;clear hk hx hp hM;go_enter Tryz.func48,Tryz.ntmps48;go_wp2;go_quiet ((go_at_call 59;exact Calls.quiet_of_same (ZN _ _ _ H.out)))
 go_wp2;go_ret;exact⟨rfl,_,rfl⟩
end
section
open Go.RowKit Num Dec Cpu Go.Maps
def opc(x y nn:Nat)(q:Pr):Array Value:=#[.int .i64 (x:Int),.int .i64 (y:Int),.int .i64 (nn:Int),.int .i64 q.lv,.bool q.sh,.bool q.ki,.bool q.jx,.bool q.lr,.bool q.cl,.bool q.dw,.bool q.fa]
def oc(r:Int)(f:Nat)(h:Bool):Array Value:=#[.int .i64 r,.int .u8 (f:Int),.bool h]
theorem iY:xX Tryz.prog 313 11:=⟨⟨_,Tryz.underlying313,rfl⟩,by kernel_rfl⟩
theorem hH:xX Tryz.prog 311 3:=⟨⟨_,Tryz.underlying311,rfl⟩,by kernel_rfl⟩
theorem aggPrA:xX Tryz.prog 31 8:=⟨⟨_,Tryz.underlying31,rfl⟩,by kernel_rfl⟩
theorem zeroOc:cY Tryz.prog 311 (oc 0 0 false):=by unfold cY;kernel_rfl
theorem sZ(r:Int)(f:Nat)(h:Bool):cL (oc r f h):=by unfold cL oc;simp[Value.oneCell']
def JX(op:Int)(x y nn:Nat)(q:Pr)(e:Ending):Prop:=
 ∃(r:Int) (f:Nat) (h:Bool),e=.returned (.agg (oc r f h))∧r%256=(xR op x y (if q.sh=true then y else x) nn:Nat)∧f≤1∧xO op x y (if q.sh=true then y else x) q.lr=(if h=true then some f else none)∧-65536<r∧r<65536
theorem fS(n:Int)(h0:0≤n)(h1:n<2^8):IntKind.i64.wrap n=n:=by rw[zU];omega
theorem zYM{x y:Nat}(hx:x<256)(hy:y<256):bits .or .i64 (x:Int) (y:Int)=((x|||y:Nat):Int):=(bits_nat .i64 8 zBH fS x y hx hy).2
theorem zXY{x y:Nat}(hx:x<256)(hy:y<256):bits .and .i64 (x:Int) (y:Int)=((x&&&y:Nat):Int):=(bits_nat .i64 8 zBH fS x y hx hy).1
theorem zXW{x y:Nat}(hx:x<256)(hy:y<256):bits .xor .i64 (x:Int) (y:Int)=((x^^^y:Nat):Int):=by
 have hx':x%2^IntKind.i64.bits=x:=kW (zS hx zBH);have hy':y%2^IntKind.i64.bits=y:=kW (zS hy zBH);simp only[bits,BitVec.ofInt_natCast,BitVec.toNat_xor,BitVec.toNat_ofNat,hx',hy'];exact fS _ (qG _) (by have:=eP hx hy;omega)
theorem zQI{n:Nat}(hn:n<16):bits .and .i64 (n:Int) 15=(n:Int):=by
 have h:=bits_mask .i64 8 zBH fS 4 zBH (n:Int) zBY zBY;have e:((2:Int)^4-1)=15:=zBH;rw[e]at h;rw[h];have e2:((2:Int)^4)=16:=zBH;rw[e2];omega
theorem sR(n:Nat)(hn:n<16)(w:World):Calls Tryz.prog 225 #[.int .i64 (n:Int)] w fun e w'=>e=.returned (.int .i64 (n:Int))∧w=w':=by
 have hb:=zQI hn;go_enter Tryz.func225,Tryz.ntmps225;go_wp2_with fail;go_ret;exact⟨rfl,rfl⟩
theorem uT(r:Int)(b:Bool)(w:World):Calls Tryz.prog 276 #[.int .i64 r,.bool b] w fun e w'=>e=.returned (.agg (oc r (b2 b) true))∧Below w.heap.size w w':=by
 cases b
 ·go_enter Tryz.func276,Tryz.ntmps276;exact zSB
 ·go_enter Tryz.func276,Tryz.ntmps276;exact zSB
theorem fZ(x y nn:Nat)(q:Pr)(w:World):Calls Tryz.prog 277 #[.agg (opc x y nn q)] w fun e w'=>e=.returned (.int .i64 ((if q.sh=true then y else x:Nat):Int))∧Below w.heap.size w w':=by
 obtain⟨lv,sh,ki,jx,lr,cl,dw,fa⟩:=q;unfold opc;simp only;cases sh
 ·go_enter Tryz.func277,Tryz.ntmps277;exact zSN
 ·go_enter Tryz.func277,Tryz.ntmps277;exact zSN
theorem sW(r:Int)(x y nn:Nat)(q:Pr)(w:World):Calls Tryz.prog 275 #[.agg (opc x y nn q),.int .i64 r] w fun e w'=>e=.returned (.agg (oc r 0 q.lr))∧Below w.heap.size w w':=by
 obtain⟨lv,sh,ki,jx,lr,cl,dw,fa⟩:=q;unfold opc;simp only;go_enter Tryz.func275,Tryz.ntmps275;exact zSB
theorem WF(x y nn:Nat)(hx:x<256)(hy:y<256)(hn:nn<256)(q:Pr)(w:World):Calls Tryz.prog 249 #[.agg (opc x y nn q)] w fun e w'=>JX 8 x y nn q e∧Below w.heap.size w w':=by
 unfold opc;go_enter Tryz.func249,Tryz.ntmps249;exact zFF
theorem WS(x y nn:Nat)(hx:x<256)(hy:y<256)(hn:nn<256)(q:Pr)(w:World):Calls Tryz.prog 250 #[.agg (opc x y nn q)] w fun e w'=>JX 9 x y nn q e∧Below w.heap.size w w':=by
 unfold opc;go_enter Tryz.func250,Tryz.ntmps250;go_wp2_with fail;go_returns;exact⟨⟨_,0,false,rfl,by unfold xR;simp,by omega,rfl,by omega,by omega⟩,by go_grown⟩
theorem PS(x y nn:Nat)(hx:x<256)(hy:y<256)(hn:nn<256)(q:Pr)(w:World):Calls Tryz.prog 251 #[.agg (opc x y nn q)] w fun e w'=>JX 10 x y nn q e∧Below w.heap.size w w':=by
 unfold opc;go_enter Tryz.func251,Tryz.ntmps251;exact zFF
theorem zXB(x y nn:Nat)(hx:x<256)(hy:y<256)(hn:nn<256)(q:Pr)(w:World):Calls Tryz.prog 252 #[.agg (opc x y nn q)] w fun e w'=>JX 11 x y nn q e∧Below w.heap.size w w':=by
 have hb:=zYM hx hy;have H1:=zW ((Blk.new w 313 (opc x y nn q)).alloc (.cells (oc 0 0 false) 311));have H2:=zW (show Blk (w.heap.size+1) 311 (oc 0 0 false) ((w.alloc (.cells (opc x y nn q) 313)).alloc (.cells (oc 0 0 false) 311))from by
  have h:=Blk.new (w.alloc (.cells (opc x y nn q) 313)) 311 (oc 0 0 false);rw[zR]at h;exact h)
 have B2:=zW (show Below w.heap.size w ((w.alloc (.cells (opc x y nn q) 313)).alloc (.cells (oc 0 0 false) 311))from by go_grown);have HX:=zW (zY hx (zY hy hn));go_enter Tryz.func252,Tryz.ntmps252;go_upto_region 1 with fail;show(Code.region _ _ _).wp _ _ _ ((w.alloc (.cells (opc x y nn q) 313)).alloc (.cells (oc 0 0 false) 311));generalize (w.alloc (.cells (opc x y nn q) 313)).alloc (.cells (oc 0 0 false) 311)=w1 at*;have c0:w1.cell? ⟨w.heap.size,0,none⟩=some (.int .i64 (x:Int)):=H1.out.cell 0;have c1:w1.cell? ⟨w.heap.size,1,none⟩=some (.int .i64 (y:Int)):=H1.out.cell 1;refine zN ?_;refine lP iY H1.out rfl rfl (.tmp 1) rfl rfl ?_;simp only[Act.put,zQ,zZ,zJ];clear hx hy hn;go_wp2_with fail;refine(sW ((x|||y:Nat):Int) x y nn q _).mono ?_;rintro e w2 ⟨rfl,b1⟩;have H2:=zW (H2.out.step b1);have B2:=zW (B2.out.trans (b1.mono B2.out.size));clear b1;simp only[];go_at_K
 iterate 1 go_step
 refine lE hH H2.out rfl rfl (sZ _ _ _) rfl (.tmp 2) (.tmp 9) rfl rfl rfl ?_;simp only[Act.put,zQ,zZ,zJ];have R:=zW (H2.out.store (oc ((x|||y:Nat):Int) 0 q.lr));have B:=zW (lU B2.out (by simp:w.heap.size≤w.heap.size+1) (oc ((x|||y:Nat):Int) 0 q.lr));iterate 4 go_step
 refine zT (zF rfl _ _ (w.heap.size+1) _ _ _ _ rfl R.out Tryz.underlying311 rfl hH.i) rfl ⟨⟨((x|||y:Nat):Int),0,q.lr,rfl,?_,?_,?_,?_,?_⟩,B.out⟩
 ·have:=QG HX.out.1 HX.out.2.1;unfold xR;simp;omega
 ·omega
 ·unfold xO;simp
 ·omega
 ·have:=QG HX.out.1 HX.out.2.1;omega
theorem U4(x y nn:Nat)(hx:x<256)(hy:y<256)(hn:nn<256)(q:Pr)(w:World):Calls Tryz.prog 253 #[.agg (opc x y nn q)] w fun e w'=>JX 12 x y nn q e∧Below w.heap.size w w':=by
 have hb:=zXY hx hy;have H1:=zW ((Blk.new w 313 (opc x y nn q)).alloc (.cells (oc 0 0 false) 311));have H2:=zW (show Blk (w.heap.size+1) 311 (oc 0 0 false) ((w.alloc (.cells (opc x y nn q) 313)).alloc (.cells (oc 0 0 false) 311))from by
  have h:=Blk.new (w.alloc (.cells (opc x y nn q) 313)) 311 (oc 0 0 false);rw[zR]at h;exact h)
 have B2:=zW (show Below w.heap.size w ((w.alloc (.cells (opc x y nn q) 313)).alloc (.cells (oc 0 0 false) 311))from by go_grown);have HX:=zW (zY hx (zY hy hn));go_enter Tryz.func253,Tryz.ntmps253;go_upto_region 1 with fail;show(Code.region _ _ _).wp _ _ _ ((w.alloc (.cells (opc x y nn q) 313)).alloc (.cells (oc 0 0 false) 311));generalize (w.alloc (.cells (opc x y nn q) 313)).alloc (.cells (oc 0 0 false) 311)=w1 at*;have c0:w1.cell? ⟨w.heap.size,0,none⟩=some (.int .i64 (x:Int)):=H1.out.cell 0;have c1:w1.cell? ⟨w.heap.size,1,none⟩=some (.int .i64 (y:Int)):=H1.out.cell 1;refine zN ?_;refine lP iY H1.out rfl rfl (.tmp 1) rfl rfl ?_;simp only[Act.put,zQ,zZ,zJ];clear hx hy hn;go_wp2_with fail;refine(sW ((x&&&y:Nat):Int) x y nn q _).mono ?_;rintro e w2 ⟨rfl,b1⟩;have H2:=zW (H2.out.step b1);have B2:=zW (B2.out.trans (b1.mono B2.out.size));clear b1;simp only[];go_at_K
 iterate 1 go_step
 refine lE hH H2.out rfl rfl (sZ _ _ _) rfl (.tmp 2) (.tmp 9) rfl rfl rfl ?_;simp only[Act.put,zQ,zZ,zJ];have R:=zW (H2.out.store (oc ((x&&&y:Nat):Int) 0 q.lr));have B:=zW (lU B2.out (by simp:w.heap.size≤w.heap.size+1) (oc ((x&&&y:Nat):Int) 0 q.lr));iterate 4 go_step
 refine zT (zF rfl _ _ (w.heap.size+1) _ _ _ _ rfl R.out Tryz.underlying311 rfl hH.i) rfl ⟨⟨((x&&&y:Nat):Int),0,q.lr,rfl,?_,?_,?_,?_,?_⟩,B.out⟩
 ·have:=dF HX.out.1 HX.out.2.1;unfold xR;simp;omega
 ·omega
 ·unfold xO;simp
 ·omega
 ·have:=dF HX.out.1 HX.out.2.1;omega
theorem U1(x y nn:Nat)(hx:x<256)(hy:y<256)(hn:nn<256)(q:Pr)(w:World):Calls Tryz.prog 254 #[.agg (opc x y nn q)] w fun e w'=>JX 13 x y nn q e∧Below w.heap.size w w':=by
 have hb:=zXW hx hy;have H1:=zW ((Blk.new w 313 (opc x y nn q)).alloc (.cells (oc 0 0 false) 311));have H2:=zW (show Blk (w.heap.size+1) 311 (oc 0 0 false) ((w.alloc (.cells (opc x y nn q) 313)).alloc (.cells (oc 0 0 false) 311))from by
  have h:=Blk.new (w.alloc (.cells (opc x y nn q) 313)) 311 (oc 0 0 false);rw[zR]at h;exact h)
 have B2:=zW (show Below w.heap.size w ((w.alloc (.cells (opc x y nn q) 313)).alloc (.cells (oc 0 0 false) 311))from by go_grown);have HX:=zW (zY hx (zY hy hn));go_enter Tryz.func254,Tryz.ntmps254;go_upto_region 1 with fail;show(Code.region _ _ _).wp _ _ _ ((w.alloc (.cells (opc x y nn q) 313)).alloc (.cells (oc 0 0 false) 311));generalize (w.alloc (.cells (opc x y nn q) 313)).alloc (.cells (oc 0 0 false) 311)=w1 at*;have c0:w1.cell? ⟨w.heap.size,0,none⟩=some (.int .i64 (x:Int)):=H1.out.cell 0;have c1:w1.cell? ⟨w.heap.size,1,none⟩=some (.int .i64 (y:Int)):=H1.out.cell 1;refine zN ?_;refine lP iY H1.out rfl rfl (.tmp 1) rfl rfl ?_;simp only[Act.put,zQ,zZ,zJ];clear hx hy hn;go_wp2_with fail;refine(sW ((x^^^y:Nat):Int) x y nn q _).mono ?_;rintro e w2 ⟨rfl,b1⟩;have H2:=zW (H2.out.step b1);have B2:=zW (B2.out.trans (b1.mono B2.out.size));clear b1;simp only[];go_at_K
 iterate 1 go_step
 refine lE hH H2.out rfl rfl (sZ _ _ _) rfl (.tmp 2) (.tmp 9) rfl rfl rfl ?_;simp only[Act.put,zQ,zZ,zJ];have R:=zW (H2.out.store (oc ((x^^^y:Nat):Int) 0 q.lr));have B:=zW (lU B2.out (by simp:w.heap.size≤w.heap.size+1) (oc ((x^^^y:Nat):Int) 0 q.lr));iterate 4 go_step
 refine zT (zF rfl _ _ (w.heap.size+1) _ _ _ _ rfl R.out Tryz.underlying311 rfl hH.i) rfl ⟨⟨((x^^^y:Nat):Int),0,q.lr,rfl,?_,?_,?_,?_,?_⟩,B.out⟩
 ·have:=eP HX.out.1 HX.out.2.1;unfold xR;simp;omega
 ·omega
 ·unfold xO;simp
 ·omega
 ·have:=eP HX.out.1 HX.out.2.1;omega
theorem U5(x y nn:Nat)(hx:x<256)(hy:y<256)(hn:nn<256)(q:Pr)(w:World):Calls Tryz.prog 255 #[.agg (opc x y nn q)] w fun e w'=>JX 14 x y nn q e∧Below w.heap.size w w':=by
 have H1:=zW ((Blk.new w 313 (opc x y nn q)).alloc (.cells (oc 0 0 false) 311));have H2:=zW (show Blk (w.heap.size+1) 311 (oc 0 0 false) ((w.alloc (.cells (opc x y nn q) 313)).alloc (.cells (oc 0 0 false) 311))from by
  have h:=Blk.new (w.alloc (.cells (opc x y nn q) 313)) 311 (oc 0 0 false);rw[zR]at h;exact h)
 have B2:=zW (show Below w.heap.size w ((w.alloc (.cells (opc x y nn q) 313)).alloc (.cells (oc 0 0 false) 311))from by go_grown);have HX:=zW (zY hx (zY hy hn));go_enter Tryz.func255,Tryz.ntmps255;go_upto_region 1 with fail;show(Code.region _ _ _).wp _ _ _ ((w.alloc (.cells (opc x y nn q) 313)).alloc (.cells (oc 0 0 false) 311));generalize (w.alloc (.cells (opc x y nn q) 313)).alloc (.cells (oc 0 0 false) 311)=w1 at*;have c0:w1.cell? ⟨w.heap.size,0,none⟩=some (.int .i64 (x:Int)):=H1.out.cell 0;have c1:w1.cell? ⟨w.heap.size,1,none⟩=some (.int .i64 (y:Int)):=H1.out.cell 1;obtain⟨X,eX⟩:∃X:Int,(x:Int)=X:=⟨_,rfl⟩;obtain⟨Y,eY⟩:∃Y:Int,(y:Int)=Y:=⟨_,rfl⟩;rw[eX]at c0;rw[eY]at c1;have X0:0≤X:=zBY;have X1:X≤255:=zBY;have Y0:0≤Y:=zBY;have Y1:Y≤255:=zBY;have EX:=zW (zY eX eY);clear eX eY hx hy hn;go_wp2_with fail;refine(uT (X+Y) (decide (255<X+Y)) _).mono ?_;rintro e w2 ⟨rfl,b1⟩;have H2:=zW (H2.out.step b1);have B2:=zW (B2.out.trans (b1.mono B2.out.size));clear b1;clear c0 c1 H1 X0 X1 Y0 Y1;simp only[];go_at_K
 iterate 1 go_step
 refine lE hH H2.out rfl rfl (sZ _ _ _) rfl (.tmp 2) (.tmp 12) rfl rfl rfl ?_;simp only[Act.put,zQ,zZ,zJ];have R:=zW (H2.out.store (oc (X+Y) (b2 (decide (255<X+Y))) true));have B:=zW (lU B2.out (by simp:w.heap.size≤w.heap.size+1) (oc (X+Y) (b2 (decide (255<X+Y))) true));iterate 4 go_step
 refine zT (zF rfl _ _ (w.heap.size+1) _ _ _ _ rfl R.out Tryz.underlying311 rfl hH.i) rfl ⟨⟨(X+Y),(b2 (decide (255<X+Y))),true,rfl,?_,?_,?_,?_,?_⟩,B.out⟩
 all_goals clear R B
 all_goals have HY:=HX.out
 all_goals obtain⟨rfl,rfl⟩:=EX.out
 ·exact zFT
 ·exact dN _
 ·exact zDE
 ·omega
 ·omega
theorem U3(x y nn:Nat)(hx:x<256)(hy:y<256)(hn:nn<256)(q:Pr)(w:World):Calls Tryz.prog 256 #[.agg (opc x y nn q)] w fun e w'=>JX 15 x y nn q e∧Below w.heap.size w w':=by
 have H1:=zW ((Blk.new w 313 (opc x y nn q)).alloc (.cells (oc 0 0 false) 311));have H2:=zW (show Blk (w.heap.size+1) 311 (oc 0 0 false) ((w.alloc (.cells (opc x y nn q) 313)).alloc (.cells (oc 0 0 false) 311))from by
  have h:=Blk.new (w.alloc (.cells (opc x y nn q) 313)) 311 (oc 0 0 false);rw[zR]at h;exact h)
 have B2:=zW (show Below w.heap.size w ((w.alloc (.cells (opc x y nn q) 313)).alloc (.cells (oc 0 0 false) 311))from by go_grown);have HX:=zW (zY hx (zY hy hn));go_enter Tryz.func256,Tryz.ntmps256;go_upto_region 1 with fail;show(Code.region _ _ _).wp _ _ _ ((w.alloc (.cells (opc x y nn q) 313)).alloc (.cells (oc 0 0 false) 311));generalize (w.alloc (.cells (opc x y nn q) 313)).alloc (.cells (oc 0 0 false) 311)=w1 at*;have c0:w1.cell? ⟨w.heap.size,0,none⟩=some (.int .i64 (x:Int)):=H1.out.cell 0;have c1:w1.cell? ⟨w.heap.size,1,none⟩=some (.int .i64 (y:Int)):=H1.out.cell 1;obtain⟨X,eX⟩:∃X:Int,(x:Int)=X:=⟨_,rfl⟩;obtain⟨Y,eY⟩:∃Y:Int,(y:Int)=Y:=⟨_,rfl⟩;rw[eX]at c0;rw[eY]at c1;have X0:0≤X:=zBY;have X1:X≤255:=zBY;have Y0:0≤Y:=zBY;have Y1:Y≤255:=zBY;have EX:=zW (zY eX eY);clear eX eY hx hy hn;go_wp2_with fail;refine(uT (X-Y) (decide (Y≤X)) _).mono ?_;rintro e w2 ⟨rfl,b1⟩;have H2:=zW (H2.out.step b1);have B2:=zW (B2.out.trans (b1.mono B2.out.size));clear b1;clear c0 c1 H1 X0 X1 Y0 Y1;simp only[];go_at_K
 iterate 1 go_step
 refine lE hH H2.out rfl rfl (sZ _ _ _) rfl (.tmp 2) (.tmp 13) rfl rfl rfl ?_;simp only[Act.put,zQ,zZ,zJ];have R:=zW (H2.out.store (oc (X-Y) (b2 (decide (Y≤X))) true));have B:=zW (lU B2.out (by simp:w.heap.size≤w.heap.size+1) (oc (X-Y) (b2 (decide (Y≤X))) true));iterate 4 go_step
 refine zT (zF rfl _ _ (w.heap.size+1) _ _ _ _ rfl R.out Tryz.underlying311 rfl hH.i) rfl ⟨⟨(X-Y),(b2 (decide (Y≤X))),true,rfl,?_,?_,?_,?_,?_⟩,B.out⟩
 all_goals clear R B
 all_goals have HY:=HX.out
 all_goals obtain⟨rfl,rfl⟩:=EX.out
 ·exact zFT
 ·exact dN _
 ·exact zDE
 ·omega
 ·omega
theorem MR(x y nn:Nat)(hx:x<256)(hy:y<256)(hn:nn<256)(q:Pr)(w:World):Calls Tryz.prog 257 #[.agg (opc x y nn q)] w fun e w'=>JX 17 x y nn q e∧Below w.heap.size w w':=by
 have H1:=zW ((Blk.new w 313 (opc x y nn q)).alloc (.cells (oc 0 0 false) 311));have H2:=zW (show Blk (w.heap.size+1) 311 (oc 0 0 false) ((w.alloc (.cells (opc x y nn q) 313)).alloc (.cells (oc 0 0 false) 311))from by
  have h:=Blk.new (w.alloc (.cells (opc x y nn q) 313)) 311 (oc 0 0 false);rw[zR]at h;exact h)
 have B2:=zW (show Below w.heap.size w ((w.alloc (.cells (opc x y nn q) 313)).alloc (.cells (oc 0 0 false) 311))from by go_grown);have HX:=zW (zY hx (zY hy hn));go_enter Tryz.func257,Tryz.ntmps257;go_upto_region 1 with fail;show(Code.region _ _ _).wp _ _ _ ((w.alloc (.cells (opc x y nn q) 313)).alloc (.cells (oc 0 0 false) 311));generalize (w.alloc (.cells (opc x y nn q) 313)).alloc (.cells (oc 0 0 false) 311)=w1 at*;have c0:w1.cell? ⟨w.heap.size,0,none⟩=some (.int .i64 (x:Int)):=H1.out.cell 0;have c1:w1.cell? ⟨w.heap.size,1,none⟩=some (.int .i64 (y:Int)):=H1.out.cell 1;obtain⟨X,eX⟩:∃X:Int,(x:Int)=X:=⟨_,rfl⟩;obtain⟨Y,eY⟩:∃Y:Int,(y:Int)=Y:=⟨_,rfl⟩;rw[eX]at c0;rw[eY]at c1;have X0:0≤X:=zBY;have X1:X≤255:=zBY;have Y0:0≤Y:=zBY;have Y1:Y≤255:=zBY;have EX:=zW (zY eX eY);clear eX eY hx hy hn;go_wp2_with fail;refine(uT (Y-X) (decide (X≤Y)) _).mono ?_;rintro e w2 ⟨rfl,b1⟩;have H2:=zW (H2.out.step b1);have B2:=zW (B2.out.trans (b1.mono B2.out.size));clear b1;clear c0 c1 H1 X0 X1 Y0 Y1;simp only[];go_at_K
 iterate 1 go_step
 refine lE hH H2.out rfl rfl (sZ _ _ _) rfl (.tmp 2) (.tmp 13) rfl rfl rfl ?_;simp only[Act.put,zQ,zZ,zJ];have R:=zW (H2.out.store (oc (Y-X) (b2 (decide (X≤Y))) true));have B:=zW (lU B2.out (by simp:w.heap.size≤w.heap.size+1) (oc (Y-X) (b2 (decide (X≤Y))) true));iterate 4 go_step
 refine zT (zF rfl _ _ (w.heap.size+1) _ _ _ _ rfl R.out Tryz.underlying311 rfl hH.i) rfl ⟨⟨(Y-X),(b2 (decide (X≤Y))),true,rfl,?_,?_,?_,?_,?_⟩,B.out⟩
 all_goals clear R B
 all_goals have HY:=HX.out
 all_goals obtain⟨rfl,rfl⟩:=EX.out
 ·exact zFT
 ·exact dN _
 ·exact zDE
 ·omega
 ·omega
theorem oH(x y nn:Nat)(hx:x<256)(hy:y<256)(hn:nn<256)(q:Pr)(w:World):Calls Tryz.prog 258 #[.agg (opc x y nn q)] w fun e w'=>JX 16 x y nn q e∧Below w.heap.size w w':=by
 have H1:=zW ((Blk.new w 313 (opc x y nn q)).alloc (.cells (oc 0 0 false) 311));have H2:=zW (show Blk (w.heap.size+1) 311 (oc 0 0 false) ((w.alloc (.cells (opc x y nn q) 313)).alloc (.cells (oc 0 0 false) 311))from by
  have h:=Blk.new (w.alloc (.cells (opc x y nn q) 313)) 311 (oc 0 0 false);rw[zR]at h;exact h)
 have B2:=zW (show Below w.heap.size w ((w.alloc (.cells (opc x y nn q) 313)).alloc (.cells (oc 0 0 false) 311))from by go_grown);have HX:=zW (zY hx (zY hy hn));go_enter Tryz.func258,Tryz.ntmps258;go_upto_region 1 with fail;show(Code.region _ _ _).wp _ _ _ ((w.alloc (.cells (opc x y nn q) 313)).alloc (.cells (oc 0 0 false) 311));generalize (w.alloc (.cells (opc x y nn q) 313)).alloc (.cells (oc 0 0 false) 311)=w1 at*;have c0:w1.cell? ⟨w.heap.size,0,none⟩=some (.int .i64 (x:Int)):=H1.out.cell 0;have c1:w1.cell? ⟨w.heap.size,1,none⟩=some (.int .i64 (y:Int)):=H1.out.cell 1;refine zN ?_;refine lP iY H1.out rfl rfl (.tmp 1) rfl rfl ?_;simp only[Act.put,zQ,zZ,zJ];go_wp2_with fail;refine(fZ x y nn q _).mono ?_;rintro e w2 ⟨rfl,b1⟩;have H2:=zW (H2.out.step b1);have B2:=zW (B2.out.trans (b1.mono B2.out.size));clear b1;clear c0 c1 H1;obtain⟨s,hs⟩:∃s,(if q.sh=true then y else x)=s:=⟨_,rfl⟩;have S8:=zW (show s<256 by rw[←hs];split;exact hy;exact hx);have s8:=S8.out;have HS:=zW hs;rw[hs];clear hs hx hy hn;go_wp2_with fail;refine(uT ((s:Int)/2) (decide ((s:Int)%2=1)) _).mono ?_;rintro e w2 ⟨rfl,b1⟩;have H2:=zW (H2.out.step b1);have B2:=zW (B2.out.trans (b1.mono B2.out.size));clear b1;simp only[];go_at_K
 iterate 1 go_step
 refine lE hH H2.out rfl rfl (sZ _ _ _) rfl (.tmp 2) (.tmp 11) rfl rfl rfl ?_;simp only[Act.put,zQ,zZ,zJ];have R:=zW (H2.out.store (oc ((s:Int)/2) (b2 (decide ((s:Int)%2=1))) true));have B:=zW (lU B2.out (by simp:w.heap.size≤w.heap.size+1) (oc ((s:Int)/2) (b2 (decide ((s:Int)%2=1))) true));iterate 4 go_step
 refine zT (zF rfl _ _ (w.heap.size+1) _ _ _ _ rfl R.out Tryz.underlying311 rfl hH.i) rfl ⟨⟨((s:Int)/2),(b2 (decide ((s:Int)%2=1))),true,rfl,?_,?_,?_,?_,?_⟩,B.out⟩
 all_goals clear R B
 all_goals try rw[HS.out]
 all_goals have:=S8.out
 ·exact zFT
 ·exact dN _
 ·exact zDE
 ·omega
 ·omega
theorem ZU(x y nn:Nat)(hx:x<256)(hy:y<256)(hn:nn<256)(q:Pr)(w:World):Calls Tryz.prog 259 #[.agg (opc x y nn q)] w fun e w'=>JX 18 x y nn q e∧Below w.heap.size w w':=by
 have H1:=zW ((Blk.new w 313 (opc x y nn q)).alloc (.cells (oc 0 0 false) 311));have H2:=zW (show Blk (w.heap.size+1) 311 (oc 0 0 false) ((w.alloc (.cells (opc x y nn q) 313)).alloc (.cells (oc 0 0 false) 311))from by
  have h:=Blk.new (w.alloc (.cells (opc x y nn q) 313)) 311 (oc 0 0 false);rw[zR]at h;exact h)
 have B2:=zW (show Below w.heap.size w ((w.alloc (.cells (opc x y nn q) 313)).alloc (.cells (oc 0 0 false) 311))from by go_grown);have HX:=zW (zY hx (zY hy hn));go_enter Tryz.func259,Tryz.ntmps259;go_upto_region 1 with fail;show(Code.region _ _ _).wp _ _ _ ((w.alloc (.cells (opc x y nn q) 313)).alloc (.cells (oc 0 0 false) 311));generalize (w.alloc (.cells (opc x y nn q) 313)).alloc (.cells (oc 0 0 false) 311)=w1 at*;have c0:w1.cell? ⟨w.heap.size,0,none⟩=some (.int .i64 (x:Int)):=H1.out.cell 0;have c1:w1.cell? ⟨w.heap.size,1,none⟩=some (.int .i64 (y:Int)):=H1.out.cell 1;refine zN ?_;refine lP iY H1.out rfl rfl (.tmp 1) rfl rfl ?_;simp only[Act.put,zQ,zZ,zJ];go_wp2_with fail;refine(fZ x y nn q _).mono ?_;rintro e w2 ⟨rfl,b1⟩;have H2:=zW (H2.out.step b1);have B2:=zW (B2.out.trans (b1.mono B2.out.size));clear b1;clear c0 c1 H1;obtain⟨s,hs⟩:∃s,(if q.sh=true then y else x)=s:=⟨_,rfl⟩;have S8:=zW (show s<256 by rw[←hs];split;exact hy;exact hx);have s8:=S8.out;have HS:=zW hs;rw[hs];clear hs hx hy hn;go_wp2_with fail;refine(uT ((s:Int)*2) (decide (128≤(s:Int))) _).mono ?_;rintro e w2 ⟨rfl,b1⟩;have H2:=zW (H2.out.step b1);have B2:=zW (B2.out.trans (b1.mono B2.out.size));clear b1;simp only[];go_at_K
 iterate 1 go_step
 refine lE hH H2.out rfl rfl (sZ _ _ _) rfl (.tmp 2) (.tmp 10) rfl rfl rfl ?_;simp only[Act.put,zQ,zZ,zJ];have R:=zW (H2.out.store (oc ((s:Int)*2) (b2 (decide (128≤(s:Int)))) true));have B:=zW (lU B2.out (by simp:w.heap.size≤w.heap.size+1) (oc ((s:Int)*2) (b2 (decide (128≤(s:Int)))) true));iterate 4 go_step
 refine zT (zF rfl _ _ (w.heap.size+1) _ _ _ _ rfl R.out Tryz.underlying311 rfl hH.i) rfl ⟨⟨((s:Int)*2),(b2 (decide (128≤(s:Int)))),true,rfl,?_,?_,?_,?_,?_⟩,B.out⟩
 all_goals clear R B
 all_goals try rw[HS.out]
 all_goals have:=S8.out
 ·exact zFT
 ·exact dN _
 ·exact zDE
 ·omega
 ·omega
theorem pH(n:Nat)(hn:n<16)(w:World):Calls Tryz.prog 225 #[.int .i64 (n:Int)] w fun e w'=>e=.returned (.int .i64 (n:Int))∧w'=w:=
 (sR n hn w).mono fun _ _ ⟨he,hw⟩=>⟨he,hw.symm⟩
theorem zMT(x y nn:Nat)(q:Pr):cL (opc x y nn q):=by unfold cL opc;simp[Value.oneCell']
def Z9:Array Value:=opc 0 0 0 ⟨0,false,false,false,false,false,false,false⟩
theorem UF(w:World)(a b c:Obj):Below w.heap.size w (((w.alloc a).alloc b).alloc c):=by go_grown
theorem QI(v:Nat→Nat)(op:Int)(x y nn:Nat)(n addr len:Int)(q:Pr)(w:World)(hv:OkV v)(hx:x<16)(hy:y<16)(hn:nn<256):
  Calls Tryz.prog 224 #[.agg (rg v),.agg (lI ⟨op,x,y,n,nn,addr,len⟩),.agg (prc q)] w fun e w'=>e=.returned (.agg (opc (v x) (v y) nn q))∧Below w.heap.size w w':=by
 have vx:=hv x hx;have vy:=hv y hy;have RX:=zW (fun w=>pH x hx w);have RY:=zW (fun w=>pH y hy w);have B0:=zW ((UF w (.cells (rg v) 23) (.cells (lI ⟨op,x,y,n,nn,addr,len⟩) 47) (.cells (prc q) 31)).alloc zBS (.cells Z9 313));have V0:=zW ((((Blk.new w 23 (rg v)).alloc (.cells (lI ⟨op,x,y,n,nn,addr,len⟩) 47)).alloc (.cells (prc q) 31)).alloc (.cells Z9 313));have I0:=zW (((Blk.new (w.alloc (.cells (rg v) 23)) 47 (lI ⟨op,x,y,n,nn,addr,len⟩)).alloc (.cells (prc q) 31)).alloc (.cells Z9 313));have P0:=zW ((Blk.new ((w.alloc (.cells (rg v) 23)).alloc (.cells (lI ⟨op,x,y,n,nn,addr,len⟩) 47)) 31 (prc q)).alloc (.cells Z9 313));have O0:=zW (Blk.new (((w.alloc (.cells (rg v) 23)).alloc (.cells (lI ⟨op,x,y,n,nn,addr,len⟩) 47)).alloc (.cells (prc q) 31)) 313 Z9);simp only[zR]at I0 P0 O0;go_enter Tryz.func224,Tryz.ntmps224;go_upto_region 0 with fail;refine zN ?_;refine mZ rfl _ (.tmp 0) rfl (rg v) rfl ?_;simp only[Act.put,zQ,zZ,zJ,zR];refine mZ rfl _ (.tmp 1) rfl (lI ⟨op,x,y,n,nn,addr,len⟩) rfl ?_;simp only[Act.put,zQ,zZ,zJ,zR];refine mZ rfl _ (.tmp 2) rfl (prc q) rfl ?_;simp only[Act.put,zQ,zZ,zJ,zR];go_upto_region 1 with fail;show(Code.region _ _ _).wp _ _ _ ((((w.alloc (.cells (rg v) 23)).alloc (.cells (lI ⟨op,x,y,n,nn,addr,len⟩) 47)).alloc (.cells (prc q) 31)).alloc (.cells Z9 313));obtain⟨g,hg⟩:∃g,w.heap.size=g:=⟨_,rfl⟩;rw[hg]at V0 I0 P0 O0⊢;have GL:=zW hg;generalize (((w.alloc (.cells (rg v) 23)).alloc (.cells (lI ⟨op,x,y,n,nn,addr,len⟩) 47)).alloc (.cells (prc q) 31)).alloc (.cells Z9 313)=w1 at*;clear hg;refine bO 16 zBM zBM ?_;intro wd hwd;have V0:=zW (show Blk g 23 (rg v) wd by rw[hwd];exact V0.out.drew);have I0:=zW (show Blk (g+1) 47 (lI ⟨op,x,y,n,nn,addr,len⟩) wd by rw[hwd];exact I0.out.drew);have P0:=zW (show Blk (g+1+1) 31 (prc q) wd by rw[hwd];exact P0.out.drew);have O0:=zW (show Blk (g+1+1+1) 313 Z9 wd by rw[hwd];exact O0.out.drew);have B0:=zW (show Below w.heap.size w wd by rw[hwd];exact B0.out.drew);clear hwd;have cx:wd.cell? ⟨g,x,none⟩=some (.int .u8 (v x:Int)):=by rw[V0.out.cell,gJ v hx]
 have cy:wd.cell? ⟨g,y,none⟩=some (.int .u8 (v y:Int)):=by rw[V0.out.cell,gJ v hy]
 have i1:wd.cell? ⟨g+1,1,none⟩=some (.int .i64 (x:Int)):=(I0.out.cell 1).trans rfl;have i2:wd.cell? ⟨g+1,2,none⟩=some (.int .i64 (y:Int)):=(I0.out.cell 2).trans rfl;have i4:wd.cell? ⟨g+1,4,none⟩=some (.int .i64 (nn:Int)):=(I0.out.cell 4).trans rfl;have p0:wd.cell? ⟨g+1+1,0,none⟩=some (.int .i64 q.lv):=(P0.out.cell 0).trans rfl;have p1:wd.cell? ⟨g+1+1,1,none⟩=some (.bool q.sh):=(P0.out.cell 1).trans rfl;have p2:wd.cell? ⟨g+1+1,2,none⟩=some (.bool q.ki):=(P0.out.cell 2).trans rfl;have p3:wd.cell? ⟨g+1+1,3,none⟩=some (.bool q.jx):=(P0.out.cell 3).trans rfl;have p4:wd.cell? ⟨g+1+1,4,none⟩=some (.bool q.lr):=(P0.out.cell 4).trans rfl;have p5:wd.cell? ⟨g+1+1,5,none⟩=some (.bool q.cl):=(P0.out.cell 5).trans rfl;have p6:wd.cell? ⟨g+1+1,6,none⟩=some (.bool q.dw):=(P0.out.cell 6).trans rfl;have p7:wd.cell? ⟨g+1+1,7,none⟩=some (.bool q.fa):=(P0.out.cell 7).trans rfl;have xi:(x:Int)<16:=zBY;have yi:(y:Int)<16:=zBY;have wx:=xM (show v x<65536 by omega);have wy:=xM (show v y<65536 by omega);simp only[List.take_succ_cons,lZ,List.drop_succ_cons,List.drop_zero];repeat still_step
 still_call (RX.out _)
 repeat still_step
 still_call (RY.out _)
 repeat still_step
 refine wpStill_nil ?_;refine lE iY O0.out rfl rfl (zMT (v x) (v y) nn q) rfl (.tmp 6) (.tmp 22) rfl rfl rfl ?_;simp only[Act.put,zQ,zZ,zJ];have R:=O0.out.store (opc (v x) (v y) nn q);have B:=lU B0.out (by rw[GL.out];omega:w.heap.size≤g+1+1+1) (opc (v x) (v y) nn q);iterate 4 go_step
 exact zT (zF rfl _ _ (g+1+1+1) _ _ _ _ rfl R Tryz.underlying313 rfl iY.i) rfl ⟨rfl,B⟩
def afn(f:Nat):Value:=.func (.func f) #[] #[]
def KO:List (Int×Nat):=[(18,259),(16,258),(17,257),(15,256),(14,255),(13,254),(12,253),(11,252),(10,251),(9,250),(8,249)]
def alk:List (Int×Nat)→Int→Option Nat
 |[],_=>none
 |(k,v)::L,l=>if l=k then some v else alk L l
def zY6(v:Value):Option (DataW Value×List MemPlace):=some (.held v,[])
structure OJ(m n:Nat)(L:List (Int×Nat))(w:World)(D:DataW Value):Prop where
 own:w.ownsMap Tryz.prog 3 zY6 m n D
 is:IsMap D
 at_:∀l zd,D.atKey (.int .i64 l) zd=match alk L l with|some v=> .held (afn v)|none=>zd
 has_:∀l,has D (.int .i64 l)=(alk L l).isSome
theorem zWM(l:Int):WideAt.IsKeyLit (.int .i64 l):=by first|trivial|simp[WideAt.IsKeyLit]
theorem OJ.new(w:World):OJ w.heap.size 0 [] (w.alloc (.map #[] 0)) (.map []):=⟨World.ownsMap_made w _ _ _,⟨_,rfl⟩,fun _ _=>rfl,fun _=>rfl⟩
theorem cU{ops:Array Oper}{rest:List Oper}{o:Oper}{a:Act}{Q:Exit→Act→World→Prop}{w:World}{m n:Nat}{L:List (Int×Nat)}{D:DataW Value}(H:OJ m n L w D)(hn:n<1000)
  (hg:o.guard=none) (mx xx vx:Operand) (hop:o.op=Op.insert 308 mx xx vx) (hm:a.eval mx=.map (some m)) (k:Int) (f:Nat) (hx:a.eval xx=.int .i64 k) (hv:a.eval vx=afn f) (hk:(Lit.int .i64 k).wf=true)
  {w0:World} (hb:Below w0.heap.size w0 w) (hge:w0.heap.size≤m)
  (h:∀w' D',OJ m (n+1) ((k,f)::L) w' D'→Below w0.heap.size w0 w'→wpList Tryz.prog ops Q rest (a.put o.dst undef) w'):wpList Tryz.prog ops Q (o::rest) a w:=by
 refine bU w hg mx xx vx 308 hop 3 306 iO Tryz.underlying308 zY6 m n D hm H.own zB6 _ _ (.int .i64 k) hx hv (JB k hk) (.held (afn f)) [] rfl ?_;intro w' o' g';refine h w' _ ⟨o',H.is.put _ _,fun l zd=>?_,fun l=>?_⟩ (hb.grown g' hb.size (fun j hj=>by cases hj;exact hge))
 ·unfold alk;by_cases hl:l=k
  ·subst hl;rw[zG rfl,atKey_put_same H.is (zWM l)]
  ·rw[zL hl,atKey_put_other zRC,H.at_]
 ·unfold alk;by_cases hl:l=k
  ·subst hl;rw[zG rfl,has_put_same H.is (zWM l)];rfl
  ·rw[zL hl,has_put_other zRC,H.has_]
theorem oG(w:World):Calls Tryz.prog 223 #[] w fun e w'=>∃m D,e=.returned (.map (some m))∧OJ m 11 KO w' D∧Below w.heap.size w w':=by
 have hmm:= @run_makeMap Tryz.prog;go_enter Tryz.func223,Tryz.ntmps223;go_upto_region 1 with fail;refine zN ?_;iterate 3 go_step
 have M:=zW (OJ.new w);have B:=zW (show Below w.heap.size w (w.alloc (.map #[] 0))from(zB _ _).alloc (zH _) _);clear hmm;generalize w.alloc (.map #[] 0)=w1 at*;refine cU M.out zBY rfl (.tmp 1) (.const (.int .i64 8)) (.func 249) rfl rfl 8 249 rfl rfl zBH B.out (zH _) ?_;simp only[Act.put];clear M B;intro w2 D2 m b;have M:=zW m;have B:=zW b;clear m b;refine cU M.out zBY rfl (.tmp 1) (.const (.int .i64 9)) (.func 250) rfl rfl 9 250 rfl rfl zBH B.out (zH _) ?_;simp only[Act.put];clear M B;intro w3 D3 m b;have M:=zW m;have B:=zW b;clear m b;refine cU M.out zBY rfl (.tmp 1) (.const (.int .i64 10)) (.func 251) rfl rfl 10 251 rfl rfl zBH B.out (zH _) ?_;simp only[Act.put];clear M B;intro w4 D4 m b;have M:=zW m;have B:=zW b;clear m b;refine cU M.out zBY rfl (.tmp 1) (.const (.int .i64 11)) (.func 252) rfl rfl 11 252 rfl rfl zBH B.out (zH _) ?_;simp only[Act.put];clear M B;intro w5 D5 m b;have M:=zW m;have B:=zW b;clear m b;refine cU M.out zBY rfl (.tmp 1) (.const (.int .i64 12)) (.func 253) rfl rfl 12 253 rfl rfl zBH B.out (zH _) ?_;simp only[Act.put];clear M B;intro w6 D6 m b;have M:=zW m;have B:=zW b;clear m b;refine cU M.out zBY rfl (.tmp 1) (.const (.int .i64 13)) (.func 254) rfl rfl 13 254 rfl rfl zBH B.out (zH _) ?_;simp only[Act.put];clear M B;intro w7 D7 m b;have M:=zW m;have B:=zW b;clear m b;refine cU M.out zBY rfl (.tmp 1) (.const (.int .i64 14)) (.func 255) rfl rfl 14 255 rfl rfl zBH B.out (zH _) ?_;simp only[Act.put];clear M B;intro w8 D8 m b;have M:=zW m;have B:=zW b;clear m b;refine cU M.out zBY rfl (.tmp 1) (.const (.int .i64 15)) (.func 256) rfl rfl 15 256 rfl rfl zBH B.out (zH _) ?_;simp only[Act.put];clear M B;intro w9 D9 m b;have M:=zW m;have B:=zW b;clear m b;refine cU M.out zBY rfl (.tmp 1) (.const (.int .i64 17)) (.func 257) rfl rfl 17 257 rfl rfl zBH B.out (zH _) ?_;simp only[Act.put];clear M B;intro w10 D10 m b;have M:=zW m;have B:=zW b;clear m b;refine cU M.out zBY rfl (.tmp 1) (.const (.int .i64 16)) (.func 258) rfl rfl 16 258 rfl rfl zBH B.out (zH _) ?_;simp only[Act.put];clear M B;intro w11 D11 m b;have M:=zW m;have B:=zW b;clear m b;refine cU M.out zBY rfl (.tmp 1) (.const (.int .i64 18)) (.func 259) rfl rfl 18 259 rfl rfl zBH B.out (zH _) ?_;simp only[Act.put];clear M B;intro w12 D12 m b;have M:=zW m;have B:=zW b;clear m b;go_wp2_with fail;go_ret;exact⟨_,_,rfl,M.out,B.out⟩
end
section
open Go.RowKit Num
theorem UP(w:World):Calls Tryz.prog 108 #[] w fun e w'=>e=.returned (.agg (ac mU 64))∧Below w.heap.size w w':=by
 have hz:=zXC;go_enter Tryz.func108,Tryz.ntmps108;go_upto_region 1 with fail;have R:=zW (AB.new w mU 0);have B:=zW (mJ w (.cells (ac mU 0) 79));generalize w.alloc (.cells (ac mU 0) 79)=w1 at*;obtain⟨r,hr⟩:∃r,w.heap.size=r:=⟨_,rfl⟩;have HR:=zW hr;rw[hr]at R B⊢;clear hr;refine zN ?_;refine nU (cs:=ac mU 64) rfl rfl (by simp[Act.eval];exact zXJ) ?_;simp only[Act.put,zQ,zZ,zJ];refine lE (ds:=ac mU 64) fX R.out (cQ _ _) (cQ _ _) (MF _ _) rfl (.tmp 0) (.tmp 1) rfl zBL zBL ?_;have R2:=zW (R.out.store mU 64);have B2:=zW (aY B.out (zH _) (ac mU 64));generalize w1.setRow r (ac mU 64)=w2 at*;iterate 4 go_step
 exact zT (zF rfl _ _ r _ _ _ _ rfl R2.out Tryz.underlying79 rfl (by rw[fX.i,cQ])) rfl ⟨rfl,by rw[HR.out];exact B2.out⟩
theorem zX7(P:Nat→Int)(p q:Int)(w:World):Calls Tryz.prog 208 #[.agg (ac P p),.int .u8 q] w fun e w'=>e=.returned (.agg (ac P q))∧Below w.heap.size w w':=by
 have hz:=zXC;go_enter Tryz.func208,Tryz.ntmps208;go_upto_region 1 with fail;have S:=zW ((AB.new w P p).alloc (.cells (ac mU 0) 79));have R:=zW (AB.new (w.alloc (.cells (ac P p) 79)) mU 0);have B:=zW ((mJ w (.cells (ac P p) 79)).alloc zBT (.cells (ac mU 0) 79));rw[zR]at R;generalize (w.alloc (.cells (ac P p) 79)).alloc (.cells (ac mU 0) 79)=w1 at*;clear hz;obtain⟨r,hr⟩:∃r,w.heap.size=r:=⟨_,rfl⟩;have HR:=zW hr;rw[hr]at S R B⊢;clear hr;have c0:=S.out.pitch;have f0:=S.out.fz 16;go_upto_region 2 with fail;clear c0 f0;have S2:=zW (S.out.tune q);have R2:=zW (R.out.other (g:=r) zBY 16 (.int .u8 q));have B2:=zW (B.out.setCell (p:=⟨r,16,none⟩) (zH _) (.int .u8 q));generalize w1.setCell ⟨r,16,none⟩ (.int .u8 q)=w2 at*;refine zN ?_;refine lP fX S2.out (cQ _ _) rfl (.tmp 2) rfl zBR ?_;simp only[Act.put,zQ,zZ,zJ];refine lE (ds:=ac P q) fX R2.out (cQ _ _) (cQ _ _) (MF _ _) rfl (.tmp 4) (.tmp 7) rfl zBL zBL ?_;have R3:=zW (R2.out.store P q);have B3:=zW (aY B2.out (qC r) (ac P q));generalize w2.setRow (r+1) (ac P q)=w3 at*;iterate 4 go_step
 exact zT (zF rfl _ _ (r+1) _ _ _ _ rfl R3.out Tryz.underlying79 rfl (by rw[fX.i,cQ])) rfl ⟨rfl,by rw[HR.out];exact B3.out⟩
theorem PG(P:Nat→Int)(p:Int)(A:Option Addr)(n c:Nat)(L:List Int)(w:World)(H:Rd w A L)(hn:L.length=n):
  Calls Tryz.prog 207 #[.agg (ac P p),.slice A n c] w fun e w'=>e=.returned (.agg (ac (pad L) p))∧Below w.heap.size w w':=by
 have hz:=zXC;have HL:=zW (zY H hn);clear H hn;go_enter Tryz.func207,Tryz.ntmps207;go_upto_region 1 with fail;have S:=zW ((AB.new w P p).alloc (.cells (ac mU 0) 79));have R:=zW (AB.new (w.alloc (.cells (ac P p) 79)) mU 0);have B:=zW ((mJ w (.cells (ac P p) 79)).alloc zBT (.cells (ac mU 0) 79));rw[zR]at R;generalize (w.alloc (.cells (ac P p) 79)).alloc (.cells (ac mU 0) 79)=w1 at*;clear hz;obtain⟨r,hr⟩:∃r,w.heap.size=r:=⟨_,rfl⟩;have HR:=zW hr;rw[hr]at S R B⊢;clear hr;refine zN ?_;refine nU (cs:=pc mU) rfl rfl (by simp[Act.eval];exact UH) ?_;simp only[Act.put,zQ,zZ,zJ];iterate 3 go_step
 refine nG (o:=0) (ds:=pc mU) mD S.out (nX _) zTY (KE _) rfl (.tmp 6) (.tmp 5) rfl zBL zBL ?_;rw[zXD];have S2:=zW (S.out.store mU p);have R2:=zW (R.out.otherRow (g:=r) zBY (ac mU p));have B2:=zW (aY B.out (zH _) (ac mU p));generalize w1.setRow r (ac mU p)=w2 at*;simp only[Act.put,zQ,zZ,zJ];go_upto_region 2 with fail;refine zN ?_;iterate 9 go_step
 obtain⟨d,hd⟩:∃d,d=min n 16:=⟨_,rfl⟩;have hp:w2.heap[r]?=some (.cells ((cC mU++[p]).map (Value.int .u8)).toArray 79 (0,0)):=by rw[←zQ3];exact S2.out
 have RL:Rd w2 A L:=HL.out.1.below (by rw[HR.out];exact B2.out);obtain⟨w3,hrun,hg,ha⟩:=uE 3 r 0 16 16 (some ⟨r,0,none⟩) (fun _=>rfl) A n c d hd L HL.out.2 RL _ 79 hp (by simp[nV]);rw[zGS]at hg;refine XG rfl (.tmp 8) (.tmp 9) rfl _ _ _ zBR zBR hrun 10 rfl ?_;have S3:=zW (show AB r (pad L) p w3 from hg);have R3:=zW (show AB (r+1) mU 0 w3 from((ha none).block (r+1) R2.out.lt zBY (fun e=>by cases e)).trans R2.out);have B3:=zW (B2.out.trans ((ha none).below (by have:=S2.out.lt;omega) (zH _) (fun k hk=>by cases hk)));clear hrun hg ha RL hp hd;simp only[zQ,zZ,zJ];go_upto_region 3 with fail;refine zN ?_;refine lP fX S3.out (cQ _ _) rfl (.tmp 2) rfl zBR ?_;simp only[Act.put,zQ,zZ,zJ];refine lE (ds:=ac (pad L) p) fX R3.out (cQ _ _) (cQ _ _) (MF _ _) rfl (.tmp 4) (.tmp 11) rfl zBL zBL ?_;have R4:=zW (R3.out.store (pad L) p);have B4:=zW (aY B3.out (qC r) (ac (pad L) p));generalize w3.setRow (r+1) (ac (pad L) p)=w4 at*;iterate 4 go_step
 exact zT (zF rfl _ _ (r+1) _ _ _ _ rfl R4.out Tryz.underlying79 rfl (by rw[fX.i,cQ])) rfl ⟨rfl,by rw[HR.out];exact B4.out⟩
theorem GU(n:Int)(w:World)(h:0≤n):Calls Tryz.prog 193 #[.int .i64 n] w fun e w'=>e=.returned (.int .i64 (n%16))∧w=w':=by
 have e:=W6 n 16 h;go_enter Tryz.func193,Tryz.ntmps193;go_wp2;go_ret;exact⟨uA zBY,rfl⟩
theorem TV(n:Int)(w:World)(h:0≤n):Calls Tryz.prog 127 #[.int .i64 n] w fun e w'=>e=.returned (.int .i64 (80+5*(n%16)))∧w=w':=by
 go_enter Tryz.func127,Tryz.ntmps127;exact zF1
theorem zXL(n:Int)(w:World)(h:0≤n):Calls Tryz.prog 128 #[.int .i64 n] w fun e w'=>e=.returned (.int .i64 (160+10*(n%16)))∧w=w':=by
 go_enter Tryz.func128,Tryz.ntmps128;exact zF1
def zM3(K:Nat→Bool)(n:Int):Bool:=decide (0≤n)&&K (n%16).toNat
theorem I8(K:Nat→Bool)(n:Int)(w:World)(h1:n≤9223372036854775807):
  Calls Tryz.prog 188 #[.agg (kc K),.int .i64 n] w fun x w'=>x=.returned (.bool (zM3 K n))∧Below w.heap.size w w':=by
 unfold zM3;by_cases h0:0≤n
 ·obtain⟨m,rfl⟩:=qR h0;obtain⟨j,hj⟩:∃j:Nat,(m:Int)%16=(j:Int):=⟨((m:Int)%16).toNat,by omega⟩;have j0:0≤(j:Int):=zBY;have j1:(j:Int)<16:=zBY;have j2:j<16:=zBY;rw[zO h0,Bool.true_and,hj,jS];have P:=zW (KB.new w K);have B:=zW (yD w (.cells (kc K) 75));have c1:=P.out.cell j2;obtain⟨v,hv⟩:∃v,K j=v:=⟨_,rfl⟩;rw[hv]at c1⊢;clear hv P;go_enter Tryz.func188,Tryz.ntmps188;go_upto_region 1 with fail;generalize w.alloc (.cells (kc K) 75)=w1 at*;obtain⟨p,hp⟩:∃p,w.heap.size=p:=⟨_,rfl⟩;have HP:=zW hp;rw[hp]at c1⊢;clear hp;go_wp2;go_ret;exact⟨rfl,B.out⟩
 ·rw[zC h0,Bool.false_and];go_enter Tryz.func188,Tryz.ntmps188;go_wp2;go_ret;exact⟨rfl,yD _ _⟩
theorem YT:∀(L:List Value) (k:Nat) (cs:Array Value),k+L.length≤cs.size→
  (L.zipIdx k).foldl (fun cs (x:Value×Nat)=>cs.setIfInBounds x.2 x.1) cs=(cs.toList.take k++L++cs.toList.drop (k+L.length)).toArray
 |[],k,cs,_=>by simp
 |x::L,k,cs,h=>by
  simp only[jH]at h;rw[List.zipIdx_cons,List.foldl_cons,YT L (k+1) _ zBS];have e:=list_seg_step cs.toList k x L zBS;congr 1
  simpa using e
theorem zM5:(Tryz.prog.info? 209).map (·.size)=some 65536:=by kernel_rfl
theorem zXK(M:List Int)(hM:M.length=65536)(w:World):(Instr.build 213 #[(0,.agg (arr M))]).run Tryz.prog w=.ok (.agg (cells M (.slice none 0 0))) w:=by
 have hf:Instr.fill (fun i=>(#[(0,65536),(65536,1)]:Array (Nat×Nat))[i]?) (cells xT (.slice none 0 0)) [(0,.agg (arr M))]=some (cells M (.slice none 0 0)):=by
  have e0:(#[(0,65536),(65536,1)]:Array (Nat×Nat))[0]?=some (0,65536):=rfl;have e1:(arr M).size=65536:=by rw[MH,hM]
  have e2:(cells xT (.slice none 0 0)).size=65537:=by unfold cells;simp[xK]
  have e3:(arr M).zipIdx.foldl (fun cs (x:Value×Nat)=>cs.setIfInBounds (0+x.2) x.1) (cells xT (.slice none 0 0))=cells M (.slice none 0 0):=by
   have h:=YT (M.map (Value.int .u8)) 0 (cells xT (.slice none 0 0)) (by rw[e2];simp[hM]);simp only[qB];rw[←Array.foldl_toList,Array.toList_zipIdx];refine h.trans ?_;unfold cells;simp[hM,xK]
  unfold Instr.fill;simp only[e0,Value.cells,e1,e2];rw[zL zBT];show Instr.fill _ ((arr M).zipIdx.foldl (fun cs (x:Value×Nat)=>cs.setIfInBounds (0+x.2) x.1) (cells xT (.slice none 0 0))) []=_;rw[e3];rfl
 refine run_build w 213 _ _ ?_;obtain⟨it,hit,hz⟩:=kV.1 zQF;simp only[jC]at hz;have hp:(match Tryz.prog.underlying 213 with|some (.struct fields)=>fields.toList.mapM (fun f=>(Tryz.prog.info? f.type).map fun i=>(f.offset,i.size))|_=>none)=some [(0,65536),(65536,1)]:=by kernel_rfl
 rw[Tryz.underlying213]at hp;unfold Program.built;rw[hit,Tryz.underlying213];simp only at hp⊢;rw[hz.1,hp];exact hf
theorem oP{P:Program}{ops:Array Oper}{rest:List Oper}{o:Oper}{a:Act}{w:World}{Q:Exit→Act→World→Prop}(hgd:o.guard=none)(ty:TypeId)(parts:Array (Nat×Operand))(ho:o.op=.build ty parts)
  (ps:Array (Nat×Value)) (hp:(parts.map fun x=>(x.1,a.eval x.2))=ps) (r:Value) (hrun:(Instr.build ty ps).run P w=.ok r w) (h:wpList P ops Q rest (a.put o.dst r) w):wpList P ops Q (o::rest) a w:=by
 subst hp;refine qL hgd fun K hK=>?_;unfold Oper.wp execOp;simp only[ho,qW,hrun,qX,jW];exact hK _ _ h
def Cloned(M:List Int)(w:World)(e:Ending)(w':World):Prop:=
 ∃q,e=.returned (.pointer (some ⟨q,0,none⟩))∧w.heap.size≤q∧vC q M (.slice none 0 0) w'∧Below w.heap.size w w'
theorem zJ4(p:Nat)(M:List Int)(v:Value)(w:World)(hM:M.length=65536)(hp:vC p M v w):
  Calls Tryz.prog 86 #[.pointer (some ⟨p,0,none⟩)] w (Cloned M w):=by
 have hb:=zXK M hM;have H:=zW (zY hM hp);clear hM hp;go_enter Tryz.func86,Tryz.ntmps86;go_upto_region 3 with fail;refine zN ?_;iterate 9 go_step
 refine tQ rfl 209 (.tmp 7) rfl ⟨p,0,none⟩ zBR M _ (fun j h=>by rw[WP,qB];exact H.out.2.cell H.out.1 j (by rw[←H.out.1];exact h)) Tryz.underlying209 rfl (by rw[zM5,H.out.1]) ?_;refine oP rfl 213 #[(0,.tmp 8)] rfl #[(0,.agg (arr M))] zBL _ (hb w) ?_;clear hb;go_wp2;go_ret;exact⟨w.heap.size,rfl,zH _,jN _ _,(zB _ _).alloc (zH _) _⟩
end
section
open Go.RowKit Go.ChangeShapes Go.WideShapes
structure zGU(w:World)(A:Option Addr)(n c:Nat)(L:List Int):Prop where
 rd:Rd w A L
 len:L.length=n
 cap:n≤c
 max:c≤maxLen
 bd:∀x∈L,0≤x∧x≤255
theorem zGU.below{w w':World}{A:Option Addr}{n c:Nat}{L:List Int}(h:zGU w A n c L)(hb:Below w.heap.size w w'):zGU w' A n c L:=⟨h.rd.below hb,h.len,h.cap,h.max,h.bd⟩
theorem eJ:laidOutB Tryz.prog=true:=by kernel_rfl
section
variable {H:Type} {enc:TypeId×Value→H} {W:World} {r:Reach} {base:Nat}
theorem zJ9{fuel:Nat}{A:Option Addr}{n c:Nat}{x:DataW H×List MemPlace}(h:DataW.trod enc Tryz.prog W 0 (fun _=>true) true fuel 22 [.slice A n c]=some x):∃L,zGU W A n c L:=by
 rcases open_ints Tryz.underlying22 Tryz.underlying5 zBM h with⟨hcs,_⟩|⟨a,len,cap,zs,hcs,hb,hl,hm,hz,_,hcell,hw⟩
 ·injection hcs with hcs
  injection hcs with e1 e2 e3
  subst e1;subst e2;subst e3;exact⟨[],Rd.nil,rfl,zH _,qE _,fun x hx=>by cases hx⟩
 ·injection hcs with hcs
  injection hcs with e1 e2 e3
  subst e1;subst e2;subst e3;simp only[if_true]at hz;refine⟨zs.take n,fun hne=>?_,by rw[qV];omega,hl,hm,fun x hx=>Num.bd_u8 (hw x (List.mem_of_mem_take hx))⟩;have h0:0<n:=by
   rcases Nat.eq_zero_or_pos n with e|e
   ·subst e;exact absurd (lZ) hne
   ·exact e
  have hlt:=lT W _ (hcell 0 zBY);rw[cP]at hlt;refine⟨a,rfl,hlt,fun j hj=>?_⟩;rw[qV]at hj;rw[hcell j zBY,jU,qJ,zP zBY];rfl
end
structure ArgE(w:World)(A:Option Addr)(n c:Nat)(l:List Ev):Prop where
 ev:Evs w A n l
 cap:n≤c
 max:c≤maxLen
theorem ArgE.step{w w':World}{A:Option Addr}{n c:Nat}{l:List Ev}(h:ArgE w A n c l)(hb:Below w.heap.size w w'):ArgE w' A n c l:=⟨h.ev.step hb,h.cap,h.max⟩
section
variable {H:Type} {enc:TypeId×Value→H} {W:World} {r:Reach} {base:Nat}
theorem zWO{fuel:Nat}{cs:List Value}{x:DataW H×List MemPlace}(h:DataW.trod enc Tryz.prog W 0 (fun _=>true) true fuel 103 cs=some x):∃e:Ev,cs=(ec e).toList∧e.ok:=by
 have hc:Tryz.prog.cellsOf 103=2:=zBM;have hi:Tryz.prog.cellsOf 3=1:=zBM;have hb:Tryz.prog.cellsOf 4=1:=zBM;obtain⟨xs,n,_,hx,hcl,hlen,hg⟩:=DataW.trod_struct Tryz.underlying103 h;match cs,hcl.trans hc,xs,hlen with
 |[c0,c1],_,[y0,y1],_=>
  have g0:=hg 0 _ rfl
  have g1:=hg 1 _ rfl
  simp[hi,hb]at g0 g1
  obtain⟨a0,e0,_,s0⟩:=jO Tryz.underlying3 g0
  obtain⟨a1,e1,_⟩:=kM Tryz.underlying4 g1
  simp only[List.cons.injEq,and_true]at e0 e1
  subst e0 e1
  exact⟨⟨a0,a1⟩,rfl,Num.bd_i64 s0⟩
end
end
section
open Go.RowKit Num Go.ChangeShapes Go.WideShapes
def b4V(b0 b1 b2 b3:Nat):Value:=.agg #[.int .u8 (b0:Int),.int .u8 (b1:Int),.int .u8 (b2:Int),.int .u8 (b3:Int)]
def b4D{H:Type}(b0 b1 b2 b3:Nat):DataW H:=.agg [.lit (.int .u8 (b0:Int)),.lit (.int .u8 (b1:Int)),.lit (.int .u8 (b2:Int)),.lit (.int .u8 (b3:Int))]
theorem eO{H:Type}{enc:TypeId×Value→H}{w:World}{base:Nat}{sp:Nat→Bool}{held:Bool}{r:Reach}{b0':Nat}{v:Value}{d:DataW H}{p:List MemPlace}(hv:Value.okWide Tryz.prog w r b0' 29 v)(h:DataW.Trod enc Tryz.prog w base sp held 29 v d p):
  ∃b0 b1 b2 b3:Nat,v=b4V b0 b1 b2 b3∧d=b4D b0 b1 b2 b3∧p=[]∧b0<256∧b1<256∧b2<256∧b3<256:=by
 have hc:Tryz.prog.cellsOf 29=4:=zBM;have hc0:Tryz.prog.cellsOf 5=1:=zBM;simp only[Value.okWide,Tryz.underlying29]at hv;obtain⟨cs,rfl,hsz,_⟩:=hv;obtain⟨l⟩:=cs;match l,hsz.trans hc with
 |[c0,c1,c2,c3],_=>
  obtain⟨fuel,hf⟩:=h
  obtain⟨xs,n,_,hx,_,hlen,hg⟩:=DataW.trod_array Tryz.underlying29 hf
  match xs,hlen with
  |[y0,y1,y2,y3],_=>
   have g0:=hg 0 zBY
   have g1:=hg 1 zBY
   have g2:=hg 2 zBY
   have g3:=hg 3 zBY
   simp[Value.cells,hc,hc0]at g0 g1 g2 g3
   obtain⟨a0,e0,rfl,s0⟩:=jO Tryz.underlying5 g0
   obtain⟨a1,e1,rfl,s1⟩:=jO Tryz.underlying5 g1
   obtain⟨a2,e2,rfl,s2⟩:=jO Tryz.underlying5 g2
   obtain⟨a3,e3,rfl,s3⟩:=jO Tryz.underlying5 g3
   simp at e0 e1 e2 e3
   subst e0 e1 e2 e3
   simp only[jC]at hx
   have t0:=bd_u8 s0
   have t1:=bd_u8 s1
   have t2:=bd_u8 s2
   have t3:=bd_u8 s3
   obtain⟨b0,rfl⟩:=qR t0.1
   obtain⟨b1,rfl⟩:=qR t1.1
   obtain⟨b2,rfl⟩:=qR t2.1
   obtain⟨b3,rfl⟩:=qR t3.1
   exact⟨b0,b1,b2,b3,rfl,by simpa [b4D]using hx.1,by simpa using hx.2,by omega,by omega,by omega,by omega⟩
theorem eE{H:Type}{enc:TypeId×Value→H}{w:World}{base:Nat}{sp:Nat→Bool}{held:Bool}(b0 b1 b2 b3:Nat)(h0:b0<256)(h1:b1<256)(h2:b2<256)(h3:b3<256):DataW.Trod enc Tryz.prog w base sp held 29 (b4V b0 b1 b2 b3) (b4D b0 b1 b2 b3) []:=by
 have hc:Tryz.prog.cellsOf 29=4:=zBM;have hc0:Tryz.prog.cellsOf 5=1:=zBM;have s:∀b:Nat,b<256→(Lit.int .u8 (b:Int)).wf=true:=fun b h=>by
  simp[Lit.wf,IntKind.min,IntKind.max,IntKind.signed,IntKind.bits];omega
 refine⟨3,?_⟩;unfold b4V b4D;simp[DataW.trod,Value.cells,Tryz.underlying29,Tryz.underlying5,hc,hc0,s b0 h0,s b1 h1,s b2 h2,s b3 h3,List.range,List.range.loop]
end
section
open Go.ChangeShapes Go.WideShapes Go.ChangeAt Go.RowKit
theorem eZ{H:Type}{enc:TypeId×Value→H}{w:World}{base:Nat}{sp:Nat→Bool}{held:Bool}{r:Reach}{b0':Nat}{v:Value}{d:DataW H}{p:List MemPlace}(hv:Value.okWide Tryz.prog w r b0' 31 v)(h:DataW.Trod enc Tryz.prog w base sp held 31 v d p):
  ∃(l:Int) (b0:Bool) (b1:Bool) (b2:Bool) (b3:Bool) (b4:Bool) (b5:Bool) (b6:Bool),v=.agg #[.int .i64 l,.bool b0,.bool b1,.bool b2,.bool b3,.bool b4,.bool b5,.bool b6]∧d=.agg [.lit (.int .i64 l),.lit (.bool b0),.lit (.bool b1),.lit (.bool b2),.lit (.bool b3),.lit (.bool b4),.lit (.bool b5),.lit (.bool b6)]∧p=[]∧(Lit.int .i64 l).wf=true:=by
 have hc:Tryz.prog.cellsOf 31=8:=zBM;have hc0:Tryz.prog.cellsOf 4=1:=zBM;have hc1:Tryz.prog.cellsOf 3=1:=zBM;obtain⟨cs,rfl,hsz⟩:=okWide_struct Tryz.underlying31 hv;obtain⟨l⟩:=cs;match l,hsz.trans hc with
 |[c0,c1,c2,c3,c4,c5,c6,c7],_=>
  obtain⟨fuel,hf⟩:=h
  obtain⟨xs,n,_,hx,_,hlen,hg⟩:=DataW.trod_struct Tryz.underlying31 hf
  match xs,hlen with
  |[y0,y1,y2,y3,y4,y5,y6,y7],_=>
   have g0:=hg 0 _ rfl
   have g1:=hg 1 _ rfl
   have g2:=hg 2 _ rfl
   have g3:=hg 3 _ rfl
   have g4:=hg 4 _ rfl
   have g5:=hg 5 _ rfl
   have g6:=hg 6 _ rfl
   have g7:=hg 7 _ rfl
   simp[Value.cells,hc,hc0,hc1]at g0 g1 g2 g3 g4 g5 g6 g7
   obtain⟨l,e0,rfl,s_l⟩:=jO Tryz.underlying3 g0
   obtain⟨b0,e1,rfl⟩:=kM Tryz.underlying4 g1
   obtain⟨b1,e2,rfl⟩:=kM Tryz.underlying4 g2
   obtain⟨b2,e3,rfl⟩:=kM Tryz.underlying4 g3
   obtain⟨b3,e4,rfl⟩:=kM Tryz.underlying4 g4
   obtain⟨b4,e5,rfl⟩:=kM Tryz.underlying4 g5
   obtain⟨b5,e6,rfl⟩:=kM Tryz.underlying4 g6
   obtain⟨b6,e7,rfl⟩:=kM Tryz.underlying4 g7
   simp at e0 e1 e2 e3 e4 e5 e6 e7
   subst e0 e1 e2 e3 e4 e5 e6 e7
   simp only[jC]at hx
   exact⟨l,b0,b1,b2,b3,b4,b5,b6,rfl,by simpa using hx.1,by simpa using hx.2,s_l⟩
theorem dA{H:Type}{enc:TypeId×Value→H}{w:World}{base:Nat}{sp:Nat→Bool}{held:Bool}(l:Int)(b0:Bool)(b1:Bool)(b2:Bool)(b3:Bool)(b4:Bool)(b5:Bool)(b6:Bool)(s_l:(Lit.int .i64 l).wf=true):DataW.Trod enc Tryz.prog w base sp held 31 (.agg #[.int .i64 l,.bool b0,.bool b1,.bool b2,.bool b3,.bool b4,.bool b5,.bool b6]) (.agg [.lit (.int .i64 l),.lit (.bool b0),.lit (.bool b1),.lit (.bool b2),.lit (.bool b3),.lit (.bool b4),.lit (.bool b5),.lit (.bool b6)]) []:=by
 have hc:Tryz.prog.cellsOf 31=8:=zBM;have hc0:Tryz.prog.cellsOf 4=1:=zBM;have hc1:Tryz.prog.cellsOf 3=1:=zBM;refine⟨3,?_⟩;simp[DataW.trod,Value.cells,Tryz.underlying31,Tryz.underlying4,Tryz.underlying3,hc,hc0,hc1,s_l,List.range,List.range.loop]
def zW5{H:Type}(L:List Int):DataW H:=.agg (L.map fun n=> .lit (.int .u8 n))
def zHE{H:Type}(Ls:List (List Int)):DataW H:=.agg (Ls.map zW5)
section
variable {H:Type} {enc:TypeId×Value→H} {P:Program} {w:World} {base:Nat} {sp:Nat→Bool} {held:Bool}
theorem zZT{t e:TypeId}{K fuel:Nat}{cs:List Value}{x:DataW H×List MemPlace}(ht:P.underlying t=some (.array K e))(he:P.underlying e=some (.int .u8))(h1:P.cellsOf e=1)
  (h:DataW.trod enc P w base sp held fuel t cs=some x) {L:List Int} (hx:x.1=zW5 L):L.length=K∧∀j (hj:j<L.length),cs[j]?=some (.int .u8 L[j]):=by
 obtain⟨xs,m,_,rfl,_,hn,hel⟩:=DataW.trod_array ht h;have hm:xs.map (·.1)=L.map fun n=>DataW.lit (.int .u8 n):=by simpa [zW5]using hx
 have hl:xs.length=L.length:=by have:=congrArg List.length hm;simpa using this
 refine⟨by omega,fun j hj=>?_⟩;have hjx:j<xs.length:=zBY;have h2:=hel j zBY;rw[h1,zP hjx,Nat.mul_one]at h2;obtain⟨n,e1,e2,_⟩:=DataW.trod_int he h2;have e3:(xs.map (·.1))[j]?=some (.lit (.int .u8 L[j])):=by rw[hm];simp[hj]
 rw[jK,zP hjx,e2]at e3;simp at e3;subst e3;have e4:((cs.drop j).take 1)[0]?=some (.int .u8 L[j]):=by rw[e1];rfl
 simpa using e4
theorem NT{tt t e:TypeId}{N K fuel:Nat}{cs:List Value}{x:DataW H×List MemPlace}(htt:P.underlying tt=some (.array N t))(ht:P.underlying t=some (.array K e))(he:P.underlying e=some (.int .u8))(h1:P.cellsOf e=1)(hK:P.cellsOf t=K)
  (h:DataW.trod enc P w base sp held fuel tt cs=some x) {Ls:List (List Int)} (hx:x.1=zHE Ls):Ls.length=N∧∀i (hi:i<Ls.length),Ls[i].length=K∧∀j (hj:j<Ls[i].length),cs[i*K+j]?=some (.int .u8 Ls[i][j]):=by
 obtain⟨xs,m,_,rfl,_,hn,hel⟩:=DataW.trod_array htt h;have hm:xs.map (·.1)=Ls.map zW5:=by simpa [zHE]using hx
 have hl:xs.length=Ls.length:=by have:=congrArg List.length hm;simpa using this
 refine⟨by omega,fun i hi=>?_⟩;have hix:i<xs.length:=zBY;have h2:=hel i zBY;rw[hK,zP hix]at h2;have e3:(xs.map (·.1))[i]?=some (zW5 Ls[i]):=by rw[hm];simp[hi]
 rw[jK,zP hix]at e3;simp at e3;obtain⟨hk,hc⟩:=zZT ht he h1 h2 e3;refine⟨hk,fun j hj=>?_⟩;have h4:=hc j hj;rw[List.getElem?_take,zG zBY,kO]at h4;exact h4
end
theorem gSmall:Tryz.prog.globalNamed "cosmac/font.smallFont"=some 0:=by kernel_rfl
theorem gBig:Tryz.prog.globalNamed "cosmac/font.bigFont"=some 1:=by kernel_rfl
theorem tSmall:(Tryz.prog.globals[0]?).map (·.type)=some 301:=by kernel_rfl
theorem tBig:(Tryz.prog.globals[1]?).map (·.type)=some 304:=by kernel_rfl
def tU:List (String×DataW Unit):=[("cosmac/font.smallFont",Rows.laid_cosmac_font_smallFont),("cosmac/font.bigFont",Rows.laid_cosmac_font_bigFont)]
theorem pO(os:Os)(args:Array Value):laidMetH Tryz.prog tU ((World.doorLaid Tryz.prog 400 os).forCall (fun _ _=>0) ⟨#[],args,[]⟩).memory:=
 laidMetH_of_parts3 (fuel:=8) (laidMet_of_run' 8 zBM zBM) zBM zBM
theorem AJ:(Rows.laid_cosmac_font_smallFont:DataW Unit)=zHE ((List.range 16).map sO):=by kernel_rfl
theorem zYG:(Rows.laid_cosmac_font_bigFont:DataW Unit)=zHE ((List.range 16).map PH):=by kernel_rfl
theorem iU{W:World}(h:laidMetH Tryz.prog tU W):uO W:=by
 rw[MakeChecks.laidMetH_plain _ _ _ zBM]at h;obtain⟨ps,⟨g0,t0,cs0,f0,p0,q0,hg0,ht0,hv0,hd0,⟨g1,t1,cs1,f1,p1,q1,hg1,ht1,hv1,hd1,_⟩,_⟩,_,_⟩:=h;obtain rfl:=qU (gSmall.symm.trans hg0);obtain rfl:=qU (tSmall.symm.trans ht0);obtain rfl:=qU (gBig.symm.trans hg1);obtain rfl:=qU (tBig.symm.trans ht1);have k0:=(NT Tryz.underlying301 Tryz.underlying300 Tryz.underlying5 zBM zBM hd0 AJ).2;have k1:=(NT Tryz.underlying304 Tryz.underlying303 Tryz.underlying5 zBM zBM hd1 zYG).2;have c0:∀j (hj:j<vU.length),W.cell? ⟨0,j,none⟩=some (.int .u8 vU[j]):=fun j hj=>by
  have hj':=hj;rw[xV]at hj';obtain⟨hk,hc⟩:=k0 (j/5) zBS;have:=hc (j%5) zBY;rw[show j/5*5+j%5=j by omega]at this;rw[World.var?_cell hg0 hv0 j,←jY,this];congr 2
  simp only[List.getElem_map,List.getElem_range]
  rw[AY _ zBY];congr 1
  omega
 have c1:∀j (hj:j<wI.length),W.cell? ⟨1,j,none⟩=some (.int .u8 wI[j]):=fun j hj=>by
  have hj':=hj;rw[yE]at hj';obtain⟨hk,hc⟩:=k1 (j/10) zBS;have:=hc (j%10) zBY;rw[show j/10*10+j%10=j by omega]at this;rw[World.var?_cell hg1 hv1 j,←jY,this];congr 2
  simp only[List.getElem_map,List.getElem_range]
  rw[zYR _ zBY];congr 1
  omega
 refine⟨?_,c1,c0⟩;have a0:=lT W _ (c0 0 (by rw[xV];omega));have a1:=lT W _ (c1 0 (by rw[yE];omega));simp at a0 a1;omega
end
end Go.Proofs.YtcjldabaekbdlaaGreatDoor
