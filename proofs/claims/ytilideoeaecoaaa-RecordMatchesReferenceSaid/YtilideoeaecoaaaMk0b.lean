/- RecAp, LoadAt, Same, AppRow, ScrNum, ScrWith, CalmBlk, ForkN, Late, BytOpen. -/
import Derived.Test.YtilideoeaecoaaaRows
import Derived.Test.YtilideoeaecoaaaMk0a
set_option maxRecDepth 400000
set_option maxHeartbeats 64000000
set_option linter.unusedVariables false
set_option linter.unusedSimpArgs false
namespace Go.Proofs.Ytilideoeaecoaaa
section
open Go.RowKit Num
theorem m7{b:Nat}{cs:Array Value}{w:World}:j5 (fun k=>k=b) w (w.setRow b cs):=⟨rfl,rfl,rfl,by simp[World.setRow],fun k _ hn=>jL _ _ _ _ hn⟩
theorem kQ{b j:Nat}{x:Value}{w:World}:j5 (fun k=>k=b) w (w.setCell ⟨b,j,none⟩ x):=⟨rfl,rfl,rfl,by simp[World.setCell],fun k _ hn=>jM _ _ _ _ hn⟩
theorem kF{r:Option Nat}{w w':World}(h:w.grownBy w' r):j5 (fun k=>some k=r) w w':=⟨h.os,h.tape,h.output,h.size,fun k hk hn=>h.block k hk hn⟩
def byV(L:List Nat):List Value:=L.map fun b=>Value.int .u8 ((b:Nat):Int)
def toI(L:List Nat):List Int:=L.map fun b=>((b:Nat):Int)
theorem yT(L:List Nat):byV L=(toI L).map (Value.int .u8):=by unfold byV toI;rw[List.map_map];rfl
theorem dE(L M:List Nat):byV (L++M)=byV L++byV M:=by unfold byV;rw[qD]
theorem lG(L:List Nat):(toI L).length=L.length:=by unfold toI;simp
def sgn:List Nat:=[67,56,82,49]
def uS(w:World)(base:Nat)(v:Value)(n:Nat)(M:List Nat):Prop:=
 w.ownsRow base 5 1 v n (byV M)∨(∃g,v=.slice (some ⟨g,0,none⟩) 4 4∧base≤g∧w.heap[g]?=some (.cells (byV sgn).toArray 5 (4,5))∧n=4∧M=sgn)
theorem uS.lt{w:World}{base n:Nat}{v:Value}{M:List Nat}(h:uS w base v n M):∀k,v.ownBlock=some k→base≤k∧k<w.heap.size:=by
 rcases h with h|⟨g,rfl,hb,hg,_⟩
 ·exact h.lt
 ·intro k e;injection e with e
  have e:g=k:=e;subst e;exact⟨hb,(qK.1 hg).1⟩
theorem uS.plain{w:World}{base n:Nat}{v:Value}{M:List Nat}(h:uS w base v n M)(hm:M.length≠4):w.ownsRow base 5 1 v n (byV M):=by
 rcases h with h|⟨_,_,_,_,_,rfl⟩
 ·exact h
 ·exact absurd rfl hm
theorem uS.kept{w w':World}{base n:Nat}{v:Value}{M:List Nat}(h:uS w base v n M)(hb:Below w.heap.size w w'):uS w' base v n M:=by
 rcases h with h|⟨g,rfl,hg,hc,r⟩
 ·exact .inl (j2 (O:=fun _=>False) h (j5.of_below hb) fun _ _ c=>c)
 ·exact .inr ⟨g,rfl,hg,(hb.block g (qK.1 hc).1).trans hc,r⟩
theorem uS.form{w:World}{base n:Nat}{v:Value}{M:List Nat}(h:uS w base v n M):∃A c,v=.slice A n c:=by
 rcases h with h|⟨g,rfl,_,_,rfl,_⟩
 ·exact lD h
 ·exact⟨_,_,rfl⟩
structure ApK(base:Nat)(v0:Value)(w w':World)(v:Value)(M:List Nat):Prop where
 base_le:base≤w.heap.size
 own:uS w' base v M.length M
 grown:w.grownBy w' v0.ownBlock
 blk:v.ownBlock=v0.ownBlock∨∃g,v.ownBlock=some g∧w.heap.size≤g
section
variable {base:Nat} {v0 v v2:Value} {w w1 w2:World} {M N:List Nat}
theorem ApK.refl(hb:base≤w.heap.size)(h:uS w base v M.length M):ApK base v w w v M:=⟨hb,h,World.grownBy.refl w _,.inl rfl⟩
theorem ApK.trans(h:ApK base v0 w w1 v M)(k:ApK base v w1 w2 v2 N):ApK base v0 w w2 v2 N:=by
 refine⟨h.base_le,k.own,⟨k.grown.os.trans h.grown.os,k.grown.tape.trans h.grown.tape,k.grown.output.trans h.grown.output,zT h.grown.size k.grown.size,fun i hi hne=>?_⟩,?_⟩
 ·refine(k.grown.block i (zG hi h.grown.size) fun e=>?_).trans (h.grown.block i hi hne);rcases h.blk with c|⟨g,c,hg⟩
  ·exact hne (by rw[e,c])
  ·rw[c]at e;injection e with e
   omega
 ·rcases k.blk with c|⟨g,c,hg⟩
  ·rw[c];exact h.blk
  ·exact .inr ⟨g,c,zT h.grown.size hg⟩
theorem ApK.step(h:ApK base v0 w w1 v M)(hb:Below w1.heap.size w1 w2):ApK base v0 w w2 v M:=
 h.trans ⟨zT h.base_le h.grown.size,h.own.kept hb,⟨hb.os,hb.tape,hb.output,hb.size,fun k hk _=>hb.block k hk⟩,.inl rfl⟩
theorem ApK.kept(h:ApK base v0 w w1 v M):j5 (fun k=>some k=v0.ownBlock) w w1:=⟨h.grown.os,h.grown.tape,h.grown.output,h.grown.size,fun k hk hn=>h.grown.block k hk hn⟩
theorem ApK.below(h:ApK base v0 w w1 v M)(k:∀g,v0.ownBlock=some g→base≤g):Below base w w1:=
 ⟨h.grown.os,h.grown.tape,h.grown.output,h.grown.size,fun i hi=>h.grown.block i (zG hi h.base_le) fun e=>by have:=k i e.symm;omega⟩
theorem nR(ty:TypeId)(H:ApK base v0 w w1 v M)(A:Option Addr)(m c:Nat)(N:List Nat)(hR:Rd w1 A (toI N))(hL:N.length=m)(hpos:0<m)(h63:M.length+m≤1000000):
  ∃A' n' c' w',(Builtin.append_ #[27,27] ty #[v,.slice A m c]).run Try.prog w1=.ok (.slice A' n' c') w'∧ApK base v0 w w' (.slice A' n' c') (M++N):=by
 obtain⟨i0,hi,hz0,hz1,hz2⟩:=jB vP;have hb1:base≤w1.heap.size:=zT H.base_le H.grown.size;obtain⟨ad,rfl,_,hcR⟩:=hR (by intro e0;have:=lG N;rw[e0]at this;simp at this;omega);have hc:=uQ hcR;have hl:(M++N).length=M.length+m:=by rw[zM,hL]
 rcases H.own with hown|⟨g,rfl,hbg,hg,h4,rfl⟩
 ·obtain⟨v',w',hrun,h2,h3,_,h5⟩:=run_append_own_at (P:=Try.prog) w1 base 27 ty 5 i0 (.int .u8 0) 1 1 Try.underlying27 hi hz0 hz1 hz2 rfl oB v M.length _ hown ad m c ((toI N).map (Value.int .u8)) (by rw[z6,lG];omega) hc (wS _) oE oB hb1;rw[←yT,←dE]at h2;rw[←hl]at h2;obtain⟨A',c',hv⟩:=lD h2;subst hv;exact⟨A',_,c',w',hrun,H.trans ⟨hb1,.inl h2,h3,h5.imp id fun e=>⟨_,e,zP _⟩⟩⟩
 ·have hs:sgn.length=4:=rfl;have hr:=run_append_grow (P:=Try.prog) w1 27 ty 5 i0 (.int .u8 0) Try.underlying27 hi hz0 ⟨g,0,none⟩ 4 4 (byV sgn) (by rw[hz1];rfl) (fun j u hu=>by
   rw[xO,qL,qO _ _ _ _ _ _ hg];simpa using hu) ad m c ((toI N).map (Value.int .u8)) (by rw[z6,lG,hz1];omega) hc oB oB (growslice_fits oB (by rw[hz2];omega))
  have hge:=grownCap_ge w1 (4+m) 4 5;have hcm:grownCap w1 (4+m) 4 5≤maxLen:=grownCap_le_maxLen w1 (4+m) 4 5 oE;have hlen:(byV sgn++(toI N).map (Value.int .u8)).length=(4+m)*1:=by rw[zM,z6,lG,hL];unfold byV;simp[hs]
  have hM:(sgn++N).length=4+m:=by rw[zM,hs,hL]
  refine⟨_,_,_,_,hr,H.trans ⟨hb1,.inl ?_,⟨rfl,rfl,rfl,by simp,fun k hk _=>heap_alloc_old _ _ hk⟩,.inr ⟨_,rfl,zP _⟩⟩⟩;rw[dE,yT N,hM];refine⟨hlen,.inr ⟨w1.heap.size,_,_,rfl,hb1,qP w1.drew _,hge,hcm,?_,?_⟩⟩
  ·simp only[Array.size_append,jF,size_zeroCells,z6,lG,hL];have e1:(Value.int .u8 0).cells.size=1:=rfl;have e2:(byV sgn).length=4:=rfl;rw[e1,e2];omega
  ·simp only[Array.toList_append,zB];rw[←zB,←hlen];exact List.take_left
theorem kZ{ops:Array Oper}{rest:List Oper}{o:Oper}{a:Act}{Q:Exit→Act→World→Prop}(hgd:o.guard=none)(s x:Operand)
  (ho:o.op=.call {callee:=.builtin .append,args:=#[s,x],argTypes:=#[27,27]}) (H:ApK base v0 w w1 v M) (hs:a.eval s=v)
  (A:Option Addr) (m c:Nat) (N:List Nat) (hx:a.eval x=.slice A m c) (hR:Rd w1 A (toI N)) (hL:N.length=m) (hpos:0<m) (h63:M.length+m≤1000000)
  (h:∀A' n' c' w',ApK base v0 w w' (.slice A' n' c') (M++N)→wpList Try.prog ops Q rest (a.put o.dst (.slice A' n' c')) w'):wpList Try.prog ops Q (o::rest) a w1:=by
 refine zI hgd fun K hK=>?_;obtain⟨A',n',c',w',hrun,h2⟩:=nR o.type H A m c N hR hL hpos h63;exact o8
theorem mC{o:Oper}{a:Act}{K:Act→World→Prop}{Q:Exit→Act→World→Prop}(s x:Operand)
  (ho:o.op=.call {callee:=.builtin .append,args:=#[s,x],argTypes:=#[27,27]}) (H:ApK base v0 w w1 v M) (hs:a.eval s=v)
  (A:Option Addr) (m c:Nat) (N:List Nat) (hx:a.eval x=.slice A m c) (hR:Rd w1 A (toI N)) (hL:N.length=m) (hpos:0<m) (h63:M.length+m≤1000000) (t:Nat) (hdst:o.dst=some t)
  (h:∀A' n' c' w',ApK base v0 w w' (.slice A' n' c') (M++N)→K ⟨a.tmps.setIfInBounds t (.slice A' n' c'),a.defers⟩ w'):o.wp Try.prog a w1 K Q:=by
 obtain⟨A',n',c',w',hrun,h2⟩:=nR o.type H A m c N hR hL hpos h63;have hk:=h A' n' c' w' h2;replace hk:K (a.put o.dst (.slice A' n' c')) w':=by rw[hdst];exact hk
 exact o9
theorem vT(w:World)(N:List Nat):Rd (w.alloc (.cells (byV N).toArray 5)) (some ⟨w.heap.size,0,none⟩) (toI N):=fun _=>⟨_,rfl,by simp,fun j hj=>by
 rw[xO,qL,qO _ _ _ _ _ _ (qP _ _),yT];simp[hj]⟩
end
end
section
open Go.RowKit
section
variable {P:Program} {ops:Array Oper} {C:World→Prop} {ty:TypeId} {b o n:Nat} {cs:Array Value} {w:World} {Q:Exit→Act→World→Prop}
theorem xV{op:Oper}{ρ:Operand→Value}(A:lI P ty n)(H:w.rangeAt b o cs.toList)(hn:cs.size=n)(x:Operand)(ho:op.op=.load ty x)(hx:ρ x=.pointer (some ⟨b,o,none⟩)):(execOp ρ op).run P w=.ok (.value (.agg cs)) w:=by
 obtain⟨d,hu,hd⟩:=A.u;have h:=run_loadVar_mid (P:=P) w b o ty cs.toList d H hu hd (by rw[A.i];simp;omega);rw[Array.toArray_toList]at h;unfold execOp;simp only[ho,hx,Instr.loadAt,Instr.sureAddr,zH,Sem.run_pure,Result.andThen_ok,h]
theorem nT{Q:Act→Prop}{op:Oper}{rest:List Oper}{a:Act}(A:lI P ty n)(H:∀w,C w→w.rangeAt b o cs.toList)(hn:cs.size=n)(hw:Region.wanted op (yielded ops a.tmps)=true)(x:Operand)(ho:op.op=.load ty x)(hx:a.eval x=.pointer (some ⟨b,o,none⟩))
  (h:wpQuiet P ops C Q rest (a.put op.dst (.agg cs))):wpQuiet P ops C Q (op::rest) a:=
 m5 hw _ (fun w hC=>xV A (H w hC) hn x ho hx) h
theorem mI{rest:List Oper}{op:Oper}{a:Act}(A:lI P ty n)(H:w.rangeAt b o cs.toList)(hn:cs.size=n)(hgd:op.guard=none)(x:Operand)(ho:op.op=.load ty x)(hx:a.eval x=.pointer (some ⟨b,o,none⟩))
  (h:wpList P ops Q rest (a.put op.dst (.agg cs)) w):wpList P ops Q (op::rest) a w:=
 zI hgd fun K hK=>by unfold Oper.wp;rw[xV A H hn x ho hx];exact hK _ _ h
end
end
section
open Go.RowKit Num
theorem wX(A B:Option Addr)(c d n m:Nat)(L M:List Int)(w:World)(hn:L.length=n)(hm:M.length=m)(n1:n≤1000000)(m1:m≤1000000)(hA:Rd w A L)(hB:Rd w B M):
  Calls Try.prog 14 #[.slice A n c,.slice B m d] w fun e w'=>e=.returned (.bool (decide (L=M)))∧Below w.heap.size w w':=by
 by_cases hnm:n=m
 ·subst hnm;go_enter Try.func14,Try.ntmps14;go_wp2;go_loopw [5] (fun i wr=>∃k:Nat,k≤n∧i=.int .i64 k∧L.take k=M.take k∧Below w.heap.size w wr) (fun i _=>n-(intOf i).toNat)
  case atStart=>exact⟨0,zD _,rfl,rfl,zA _ _⟩
  case round=>
   obtain⟨k,hk,rfl,he,hb⟩:=hrel
   have He:=zW he
   clear he
   by_cases hlt:k<n
   ·obtain⟨ad,rfl,hg,hc⟩:=(hA.below hb).at_ (k:=k) oB
    obtain⟨ad2,rfl,hg2,hc2⟩:=(hB.below hb).at_ (k:=k) oB
    have hlk:(k:Int)<(n:Int):=oB
    have ht:=wZ (X:=L) (k:=k) oB
    have ht2:=wZ (X:=M) (k:=k) oB
    obtain⟨x,hx⟩:∃x,L[k]' oB=x:=⟨_,rfl⟩
    obtain⟨y,hy⟩:∃y,M[k]' oB=y:=⟨_,rfl⟩
    rw[hx]at hc ht
    rw[hy]at hc2 ht2
    have H:=zW (zC ht ht2)
    clear hx hy ht ht2
    by_cases hxy:x=y
    ·subst hxy
     go_wp2
     go_quiet (fail)
     go_wp2
     go_roundw
     case rel=>exact⟨k+1,by omega,by go_num,by rw[H.out.1,H.out.2,He.out],hb.trans ⟨rfl,rfl,rfl,zP _,fun _ _=>rfl⟩⟩
     case measure=>simp[intOf];omega
    ·have hne:¬L=M:=fun e=>by
      subst e;have:=H.out.1.symm.trans H.out.2;simp at this;exact hxy this
     have Hne:=zW hne
     clear hne
     have hq:(x==y)=false:=by simpa using hxy
     go_wp2
     go_quiet (fail)
     go_wp2
     go_ret
     exact⟨by rw[z0 Hne.out];rfl,hb.trans ⟨rfl,rfl,rfl,zP _,fun _ _=>rfl⟩⟩
   ·have hkn:k=n:=oB
    subst hkn
    have he:L=M:=by
     have:=He.out;rw[qE oB,qE oB]at this;exact this
    go_wp2
    go_ret
    exact⟨by rw[zU he];rfl,hb⟩
 ·have hne:¬L=M:=fun e=>hnm (by rw[←hn,←hm,e]);have hq:((n:Int)==(m:Int))=false:=by simp;omega
  rw[z0 hne];clear hne;go_enter Try.func14,Try.ntmps14;go_wp2;go_ret;exact⟨rfl,zA _ _⟩
end
section
open Go.RowKit
structure Elem(P:Program)(S E:TypeId)(z:Value)(bytes:Nat):Prop where
 u:P.underlying S=some (.slice E)
 i:(P.info? E).map (fun i=>(i.zero,i.size,i.bytes))=some (some z,1,bytes)
 z1:z.cells.size=1
section
variable {P:Program} {S E:TypeId} {z:Value} {bytes:Nat} {α:Type} {enc:α→Value}
theorem yO(K:Elem P S E z bytes)(h1:∀a,(enc a).oneCell'=true)(w:World)(ty:TypeId)(base:Nat)(v:Value)(n:Nat)(L0:List α)(hown:w.ownsRow base E 1 v n (L0.map enc))(A:Option Addr)(m c:Nat)(L:List α)(hR:Row enc w A L)(hL:L.length=m)
  (h63:n+m≤1000000) (hby:bytes≤64) (hbase:base≤w.heap.size):
  ∃v' w',(Builtin.append_ #[S,S] ty #[v,.slice A m c]).run P w=.ok v' w'∧w'.ownsRow base E 1 v' (n+m) ((L0++L).map enc)∧w.grownBy w' v.ownBlock:=by
 obtain⟨i0,hi,hz0,hz1,hz2⟩:=jB K.i;rcases A with _|ad
 ·have hm:m=0:=by
   rcases Nat.eq_zero_or_pos m with h|h
   ·exact h
   ·obtain⟨b,o,e,_⟩:=hR (by rintro rfl;simp at hL;omega);cases e
  subst hm;obtain rfl:L=[]:=qB hL;refine⟨v,w,?_,by simpa using hown,World.grownBy.refl w _⟩;rcases hown.2 with⟨rfl,rfl⟩|⟨g,cap,cur,rfl,_,_,hnc,_⟩
  ·simp[Builtin.append_,z7 K.u,sizeOf,typeInfo,hi,Builtin.lenOf,Builtin.firstCells]
  ·simp[Builtin.append_,z7 K.u,sizeOf,typeInfo,hi,Builtin.lenOf,Builtin.firstCells,hnc,storeCells]
 ·have hc:∀j u,(L.map enc)[j]?=some u→w.cell? (ad.add j)=some u:=by
   by_cases hne:L=[]
   ·subst hne;intro j u hu;simp at hu
   ·obtain⟨b,o,e,_,hc⟩:=hR hne;injection e with e
    subst e;intro j u hu;rw[qJ]at hu;obtain⟨a,ha,rfl⟩:=jC.1 hu;obtain⟨hj,e2⟩:=qA.1 ha;rw[show(⟨b,o,none⟩:Addr).add j=⟨b,o+j,none⟩ by unfold Addr.add;split<;>simp_all,hc j hj,e2]
  have hb:(n+m)*bytes≤140737488355328:=zT (Nat.mul_le_mul h63 hby) oR;obtain⟨v',w',hrun,h2,h3,_,_⟩:=run_append_own_at (P:=P) w base S ty E i0 z 1 bytes K.u hi hz0 hz1 hz2 K.z1 oB v n _ hown ad m c (L.map enc) (by rw[z6];omega) hc (fun u hu=>by
   obtain⟨a,_,rfl⟩:=jX.1 hu;exact h1 a) oE hb hbase
  exact⟨v',w',hrun,by rw[qD];exact h2,h3⟩
theorem uE(K:Elem P S E z bytes)(h1:∀a,(enc a).oneCell'=true){w:World}{o:Oper}{a:Act}{K':Act→World→Prop}{Q:Exit→Act→World→Prop}(s x:Operand)
  (ho:o.op=.call {callee:=.builtin .append,args:=#[s,x],argTypes:=#[S,S]}) (base:Nat) (v:Value) (n:Nat) (L0:List α) (hs:a.eval s=v) (hown:w.ownsRow base E 1 v n (L0.map enc))
  (A:Option Addr) (m c:Nat) (L:List α) (hx:a.eval x=.slice A m c) (hR:Row enc w A L) (hL:L.length=m) (h63:n+m≤1000000) (hby:bytes≤64) (hbase:base≤w.heap.size)
  (h:∀v' w',w'.ownsRow base E 1 v' (n+m) ((L0++L).map enc)→w.grownBy w' v.ownBlock→K' (a.put o.dst v') w'):o.wp P a w K' Q:=by
 obtain⟨v',w',hrun,h2,h3⟩:=yO K h1 w o.type base v n L0 hown A m c L hR hL h63 hby hbase;unfold Oper.wp execOp;simp only[ho,resolve,invoke,builtin,zH,Sem.run_pure,Result.andThen_ok,List.map_toArray,List.map_cons,List.map_nil,hs,hx,hrun];exact h v' w' h2 h3
end
end
section
open Go.RowKit Num

def uG(N g:Nat):Value:=.slice (some ⟨g,0,none⟩) N N
section
variable {q:Nat} {v:Value} {hi:Bool} {M:Int} {w w':World}
end
end
section
open Go.RowKit
theorem aQ{b:Nat}{T:TypeId}{cs:Array Value}{W:World}(H:Blk b T cs W):∀w',(∃u:mK W,w'=u.w)→Blk b T cs w':=fun w' hw=>by obtain⟨u,rfl⟩:=hw;exact H.step u.below
inductive gV where
 |last (is:List Nat)
 |branch (is:List Nat) (cs:List Nat) (t:Nat→gV)
section
variable {P:Program} {ops:Array Oper} {C:World→Prop} {Q:Exit→Act→World→Prop} {md:Region.Mode}
def mF(P:Program)(ops:Array Oper)(C:World→Prop)(Q:Exit→Act→World→Prop):gV→Act→World→Prop
 |.last is,a,w=>wpQuiet P ops C (fun a'=>Q .normal a' w) (kD ops is) a
 |.branch is cs t,a,w=>wpQuiet P ops C (fun a'=>∀c,c∈cs→uO P ops C Q c (fun a w=>mF P ops C Q (t c) a w) a' w) (kD ops is) a
def tU(md:Region.Mode)(ops:Array Oper):gV→Array Bool→Bool
 |.last is,listed=>gD md ops is listed&&(Region.ready md ops (kY listed is)).isEmpty
 |.branch is cs t,listed=>gD md ops is listed&&decide (Region.ready md ops (kY listed is)=cs)&& !cs.isEmpty&&cs.all fun c=>tU md ops (t c) ((kY listed is).setIfInBounds c true)
def fH:gV→Nat→Bool
 |.last is,n=>decide (n=is.length)
 |.branch is cs t,n=>decide (is.length+1≤n)&&cs.all fun c=>fH (t c) (n-is.length-1)
theorem rQ(hs:Region.noSelect ops=true)(hQ:∀(c:_) (a:Act) (d:Option Tmp) (v:Value) (w:World),Q (.panic c) (a.put d v) w→Q (.panic c) a w)(k:Nat):∀(t:gV) (n:Nat) (listed:Array Bool) (a:Act) (w:World),C w→
  fH t n=true→tU md ops t listed=true→mF P ops C Q t a w→wpAnyH P md ops Q C (k+n) listed a w
 |.last is,n,listed,a,w,hC,hl,hB,h=>by
  simp only[tU,zR]at hB;obtain rfl:n=is.length:=by simpa [fH]using hl
  have hr:Region.ready md ops (kY listed is)=[]:=by simpa using hB.2
  refine vC hs hQ k hC is listed a hB.1 ?_;simp only[mF]at h;exact wD (fun a h=>wpAnyH_done hr h k) _ _ h
 |.branch is cs t,n,listed,a,w,hC,hl,hB,h=>by
  simp only[tU,zR]at hB;obtain⟨⟨⟨hB1,hB2⟩,hB3⟩,hB4⟩:=hB;have hr:Region.ready md ops (kY listed is)=cs:=by simpa using hB2
  simp only[fH,zR,zE]at hl;obtain⟨hn,hl⟩:=hl;obtain⟨m,rfl⟩:∃m,n=m+1+is.length:=⟨n-is.length-1,by omega⟩;rw[←qT];refine vC hs hQ _ hC is listed a hB1 ?_;simp only[mF]at h;refine wD (fun a' ha=>?_) _ _ h;rw[←qT];refine wpAnyH_all hr (by intro e;rw[e]at hB3;cases hB3) fun i hi=>?_;refine iR hC (ha i hi) fun a'' w'' h1 h2=>?_;have e1:=z4.1 hl i hi;rw[show m+1+is.length-is.length-1=m by omega]at e1;exact rQ hs hQ k (t i) m _ a'' w'' h1 e1 (z4.1 hB4 i hi) h2
theorem yV{id:Nat}{a:Act}{w:World}{l:List Oper}(t:gV)(hm:P.follows .mixedOrders=true)
  (hB:(Region.noSelect l.toArray&&tU .any l.toArray t (Array.replicate l.toArray.size false)&&fH t l.toArray.size)=true)
  (hQ:∀(c:_) (a:Act) (d:Option Tmp) (v:Value) (w:World),Q (.panic c) (a.put d v) w→Q (.panic c) a w) (hC:C w.drew)
  (h:∀wd,wd=w.drew→mF P l.toArray C Q t a wd):(Code.region id l.toArray true).wp P Q a w:=by
 simp only[zR]at hB;obtain⟨⟨hs,hb⟩,hl⟩:=hB;refine wp_region_held (S:=C) hm ?_;have:=rQ (md:=.any) hs hQ 0 t l.toArray.size (Array.replicate l.toArray.size false) a w.drew hC hl hb (h _ rfl);rwa [qL]at this
theorem bH{is:List Nat}{l:List Oper}{a:Act}{w:World}(hl:kD ops is=l)(h:wpQuiet P ops C (fun a'=>Q .normal a' w) l a):mF P ops C Q (.last is) a w:=by
 subst hl;exact h
theorem rU{is cs:List Nat}{t:Nat→gV}{l:List Oper}{a:Act}{w:World}(hl:kD ops is=l)(h:wpQuiet P ops C (fun a'=>∀c,c∈cs→uO P ops C Q c (fun a w=>mF P ops C Q (t c) a w) a' w) l a):mF P ops C Q (.branch is cs t) a w:=by
 subst hl;exact h
theorem v6{c:Nat}{t:gV}{o:Oper}{a:Act}{w:World}(ho:ops[c]?=some o)(hw:Region.wanted o (yielded ops a.tmps)=true)(h:∀K:Act→World→Prop,(∀a w,C w→mF P ops C Q t a w→K a w)→o.wp P a w K Q):uO P ops C Q c (fun a w=>mF P ops C Q t a w) a w:=by
 unfold uO;rw[ho];simp only[hw,if_true];exact h _ fun a w hc h=>⟨hc,h⟩
end
abbrev Gr(w w':World):Prop:=Below w.heap.size w w'
theorem Gr.refl(w:World):Gr w w:=zA _ _
theorem Gr.trans{a b c:World}(h:Gr a b)(k:Gr b c):Gr a c:=Below.trans h (k.mono h.size)
section
variable {P:Program} {ops:Array Oper} {Q:Exit→Act→World→Prop} {md:Region.Mode} {C T:World→Prop} {c0:Nat}
def yQ(C:World→Prop)(c0:Nat)(listed:Array Bool)(w:World):Prop:=listed.getD c0 true=false→C w
def uD(P:Program)(md:Region.Mode)(ops:Array Oper)(Q:Exit→Act→World→Prop)(C:World→Prop)(c0:Nat):Nat→Array Bool→Act→World→Prop
 |0,listed,a,w=>∀w',Gr w w'→Region.ready md ops listed=[]∧Q .normal a w'
 |n+1,listed,a,w=>∀w',Gr w w'→(Region.ready md ops listed=[]→Q .normal a w')∧
   ∀i∈Region.ready md ops listed,wpOp P ops Q i (fun a'' w''=>yQ C c0 (listed.setIfInBounds i true) w''∧uD P md ops Q C c0 n (listed.setIfInBounds i true) a'' w'') a w'
theorem wO{n:Nat}{listed:Array Bool}{a:Act}{w w':World}(h:uD P md ops Q C c0 n listed a w)(g:Gr w w'):uD P md ops Q C c0 n listed a w':=by
 cases n with
 |zero=>exact fun w'' g'=>h w'' (g.trans g')
 |succ n=>exact fun w'' g'=>h w'' (g.trans g')
theorem cZ:∀(n:Nat) (listed:Array Bool) (a:Act) (w:World),uD P md ops Q C c0 n listed a w→wpAny P md ops Q n listed a w
 |0,_,_,w,h=>h w (Gr.refl w)
 |n+1,_,_,w,h=>⟨(h w (Gr.refl w)).1,fun i hi=>wpOp_mono (fun a' w' h'=>cZ n _ a' w' h'.2) ((h w (Gr.refl w)).2 i hi)⟩
def bC(P:Program)(w:World)(v:Value):Result Next→Prop
 |.ok (.value u) w'=>u=v∧Gr w w'
 |.ok (.enter f args) w'=>w'=w∧Calls P f args w fun e w''=>e=.returned v∧Gr w w''
 |_=>False
def nF(P:Program)(ops:Array Oper)(T:World→Prop)(o:Oper)(v:Value)(a:Act):Prop:=
 (Region.wanted o (yielded ops a.tmps)=true∧∀w,T w→bC P w v ((execOp a.eval o).run P w))∨(Region.wanted o (yielded ops a.tmps)=false∧v=undef)
theorem nF.of_same{o:Oper}{v:Value}{a a':Act}(h:nF P ops T o v a)(he:execOp a'.eval o=execOp a.eval o)(hw:Region.wanted o (yielded ops a'.tmps)=Region.wanted o (yielded ops a.tmps)):nF P ops T o v a':=by
 unfold nF at*;rw[he,hw];exact h
theorem nF.op{i:Nat}{o:Oper}{v:Value}{a:Act}(hi:ops[i]?=some o)(h:nF P ops T o v a){K:Act→World→Prop}{w:World}(hT:T w)(hK:∀w',Gr w w'→K (a.put o.dst v) w'):wpOp P ops Q i K a w:=by
 unfold wpOp;rw[hi];simp only;rcases h with⟨hw,h⟩|⟨hw,rfl⟩
 ·rw[zL hw];refine .inl ?_;have h:=h w hT;unfold Oper.wp;generalize (execOp a.eval o).run P w=r at*;cases r with
  |ok n w'=>
   cases n<;>simp only[bC]at h<;>simp only[Oper.upon]
   case value u=>rw[h.1];exact hK _ h.2
   case enter f args=>
    rw[h.1]
    exact h.2.mono fun e w'' ⟨he,hg⟩=>by subst he;exact hK _ hg
  |halt x w'=>simp only[bC]at h
 ·rw[zY (by rw[hw];decide)];exact hK w (Gr.refl w)
theorem gM{j:Nat}{oi oj:Oper}{v:Value}{X:Act→Prop}(hj:ops[j]?=some oj)(hap:oi.apart ops oj=true)(hsj:∀cs b,oj.op≠ .select cs b)
  (hQ:∀(c:_) (a:Act) (w:World),Q (.panic c) (a.put oi.dst v) w→Q (.panic c) a w) (hX1:∀a u,X a→X (a.put oj.dst u)) (hX2:∀(a:Act) d,X a→X {a with defers:=d::a.defers})
  {K:Act→World→Prop} {a:Act} {w:World} (hx:X a) (h:wpOp P ops Q j K (a.put oi.dst v) w):wpOp P ops Q j (fun a' w'=>X a'∧K (a'.put oi.dst v) w') a w:=by
 obtain⟨h1,h2,_⟩:=Oper.apart_spec hap;have he:=execOp_put oj hsj a oi.dst v h1;have hv:∀(b:Act) u,K ((b.put oi.dst v).put oj.dst u) w→K ((b.put oj.dst u).put oi.dst v) w:=fun b u hk=>by rwa [←Act.put_comm b v u h2]
 unfold wpOp at*;rw[hj]at h⊢;simp only at h⊢;rw[wanted_put oj a oi.dst v h1]at h;by_cases hw:Region.wanted oj (yielded ops a.tmps)=true
 ·rw[zL hw]at h⊢;rcases h with h|⟨ha,hl⟩
  ·refine .inl ?_;unfold Oper.wp at h⊢;rw[he]at h;generalize (execOp a.eval oj).run P w=r at*;cases r with
   |ok n w'=>
    cases n<;>simp only[Oper.upon]at h⊢
    case value u=>exact⟨hX1 _ _ hx,by rw[←Act.put_comm a v u h2];exact h⟩
    case skip=>exact⟨hX1 _ _ hx,by rw[←Act.put_comm a v undef h2];exact h⟩
    case defer d=>
     refine⟨hX1 _ _ (hX2 _ _ hx),?_⟩
     rw[←Act.put_comm _ v undef h2,←Act.put_defers]
     exact h
    case enter f args=>
     refine h.mono fun e w'' hh=>?_
     cases e with
     |returned u=>exact⟨hX1 _ _ hx,by rw[←Act.put_comm a v u h2];exact hh⟩
     |panicked c=>exact hQ _ _ _ hh
     |outgrown=>exact hh
    case row row args=>exact h.mono fun u w'' hh=>⟨hX1 _ _ hx,by rw[←Act.put_comm a v u h2];exact hh⟩
   |halt x w'=>
    cases x<;>simp only[Oper.upon]at h⊢
    case panic u=>exact hQ _ _ _ h
  ·exact .inr ⟨by unfold Oper.asks at*;rw[he]at ha;exact ha,hl⟩
 ·rw[zY hw]at h⊢;exact⟨hX1 _ _ hx,by rw[←Act.put_comm a v undef h2];exact h⟩
theorem vL{i:Nat}{oi:Oper}{v:Value}{I:Array Bool→Prop}(hi:ops[i]?=some oi)(hs:Region.noSelect ops=true)(hQ:∀(c:_) (a:Act) (w:World),Q (.panic c) (a.put oi.dst v) w→Q (.panic c) a w)(hic:i≠c0)
  (hC:∀w w',C w→Gr w w'→C w') (hT:∀(listed:Array Bool) w,I listed→yQ C c0 listed w→T w) (hI:∀(listed:Array Bool) j,I listed→listed.getD i true=false→j∈Region.ready md ops listed→j≠i→I (listed.setIfInBounds j true)):
  ∀(n:Nat) (listed:Array Bool) (a:Act) (w:World),(∀j oj,ops[j]?=some oj→j≠i→listed.getD j true=false→(∀e∈oj.after,Region.binds md e=true→e.on≠i)→oi.apart ops oj=true)→
   i∈Region.ready md ops listed→I listed→nF P ops T oi v a→yQ C c0 listed w→uD P md ops Q C c0 n (listed.setIfInBounds i true) (a.put oi.dst v) w→uD P md ops Q C c0 (n+1) listed a w:=by
 intro n;have hset:∀(l:Array Bool) (w:World),yQ C c0 (l.setIfInBounds i true) w↔yQ C c0 l w:=fun l w=>by unfold yQ;rw[getD_set_ne true hic]
 have hcl:∀(l:Array Bool) (w w':World),yQ C c0 l w→Gr w w'→yQ C c0 l w':=fun l w w' h g hc=>hC _ _ (h hc) g;induction n with
 |zero=>
  intro listed a w _ hr hIl hy hS H w' g
  refine⟨fun h=>(by rw[h]at hr;cases hr),fun j hj=>?_⟩
  by_cases hji:j=i
  ·subst hji
   exact hy.op hi (hT _ _ hIl (hcl _ _ _ hS g)) fun w'' g'=>⟨(hset _ _).2 (hcl _ _ _ hS (g.trans g')),wO H (g.trans g')⟩
  ·have h1:=ready_mono hj hji
   rw[(H w' g).1]at h1
   cases h1
 |succ n ih=>
  intro listed a w hfree hr hIl hy hS H w' g
  refine⟨fun h=>(by rw[h]at hr;cases hr),fun j hj=>?_⟩
  by_cases hji:j=i
  ·subst hji
   exact hy.op hi (hT _ _ hIl (hcl _ _ _ hS g)) fun w'' g'=>⟨(hset _ _).2 (hcl _ _ _ hS (g.trans g')),wO H (g.trans g')⟩
  ·have h1:=(H w' g).2 j (ready_mono hj hji)
   obtain⟨hjun,oj,hoj,hall⟩:=mem_ready.1 hj
   have hiun:=(mem_ready.1 hr).1
   have hnot:∀e∈oj.after,Region.binds md e=true→e.on≠i:=fun e he hb heq=>by
    have h2:=hall e he hb;rw[heq]at h2;have hlt:i<listed.size:=by
     rcases jS i listed.size with h'|h'
     ·exact h'
     ·simp[zO h']at h2
    simp[hlt]at hiun h2;rw[hiun]at h2;cases h2
   have hap:=hfree j oj hoj hji hjun hnot
   obtain⟨_,_,h3⟩:=Oper.apart_spec hap
   have hsi:∀cs b,oi.op≠ .select cs b:=fun cs b=>Region.noSelect_spec hs i oi cs b hi
   have h2:=gM (X:=fun a=>nF P ops T oi v a) hoj hap (fun cs b=>Region.noSelect_spec hs j oj cs b hoj) hQ
    (fun a u hx=>hx.of_same (execOp_put oi hsi a oj.dst u h3) (wanted_put oi a oj.dst u h3)) (fun a d hx=>hx.of_same rfl rfl) hy h1
   have hfree':∀k ok,ops[k]?=some ok→k≠i→(listed.setIfInBounds j true).getD k true=false→(∀e∈ok.after,Region.binds md e=true→e.on≠i)→oi.apart ops ok=true:=fun k ok hk hki hun hno=>by
    refine hfree k ok hk hki ?_ hno;by_cases hjk:j=k
    ·subst hjk;exact hjun
    ·rw[getD_set_ne true hjk]at hun;exact hun
   refine wpOp_mono (fun a' w'' h4=>?_) h2
   obtain⟨hy',hS',hA'⟩:=h4
   rw[Array.setIfInBounds_comm _ _ (Ne.symm hji)]at hA' hS'
   exact⟨(hset _ _).1 hS',ih (listed.setIfInBounds j true) a' w'' hfree' (ready_mono hr (Ne.symm hji)) (hI _ _ hIl hiun hj hji) hy' ((hset _ _).1 hS') hA'⟩
def dQ(md:Region.Mode)(ops:Array Oper)(listed:Array Bool)(i c0:Nat):Bool:=
 let W:=(List.range ops.size).foldl (fun W m=>match ops[m]? with|some o=>if o.after.any (fun e=>Region.binds md e&&(e.on==i||W.contains e.on))then m::W else W|none=>W) []
 W.contains c0&&W.all fun m=> !listed.getD m true&&match ops[m]? with|some o=>o.after.any (fun e=>Region.binds md e&&(e.on==i||W.contains e.on))|none=>false
theorem u7{i:Nat}{listed:Array Bool}(h:dQ md ops listed i c0=true):∃I:Array Bool→Prop,I listed∧(∀l,I l→l.getD c0 true=false)∧∀(l:Array Bool) j,I l→l.getD i true=false→j∈Region.ready md ops l→j≠i→I (l.setIfInBounds j true):=by
 unfold dQ at h;generalize (List.range ops.size).foldl _ _=W at h;simp only[zR,z4]at h;obtain⟨hc,hW⟩:=h;have hc:c0∈W:=by simpa using hc
 refine⟨fun l=>∀m∈W,l.getD m true=false,fun m hm=>by have:=(hW m hm).1;simpa using this,fun l hl=>hl c0 hc,fun l j hl hiu hj hji m hm=>?_⟩;have hjW:j ∉ W:=fun hjm=>by
  obtain⟨_,oj,hoj,hall⟩:=mem_ready.1 hj;have h2:=(hW j hjm).2;rw[hoj]at h2;simp only at h2;obtain⟨e,he,hb⟩:=Array.any_eq_true'.1 h2;simp only[zR,Bool.or_eq_true,beq_iff_eq,List.contains_eq_mem,zE]at hb;have h3:=hall e he hb.1;have h4:l.getD e.on true=false:=by
   rcases hb.2 with h5|h5
   ·rw[h5];exact hiu
   ·exact hl _ h5
  have hlt:e.on<l.size:=by
   rcases jS e.on l.size with h'|h'
   ·exact h'
   ·simp[zO h']at h3
  simp[hlt]at h3 h4;rw[h3]at h4;cases h4
 have hne:j≠m:=fun e=>hjW (e▸hm);rw[getD_set_ne true hne];exact hl m hm
def yA:Op→Bool
 |.move _| .assign _| .extract ..=>true
 |_=>false
theorem gB{o:Oper}{ρ:Operand→Value}{v:Value}{w:World}(h:yA o.op=true)(hr:(execOp ρ o).run P w=.ok (.value v) w)(w':World):(execOp ρ o).run P w'=.ok (.value v) w':=by
 obtain⟨dst,op,ty,pos,after,guard⟩:=o;cases op<;>simp[yA]at h
 case move x=>unfold execOp at hr⊢;simp at hr⊢;exact hr
 case assign x=>unfold execOp at hr⊢;simp at hr⊢;exact hr
 case extract x k=>
  unfold execOp at hr⊢
  simp only at hr⊢
  cases hx:ρ x<;>simp[hx,go_sem]at hr⊢
  all_goals
   first
   |(split at hr<;>simp_all [go_sem];done)
   |(cases hk:_<;>simp_all [go_sem];done)
   |exact hr
def eK(md:Region.Mode)(ops:Array Oper)(c0:Nat):List Nat→Array Bool→Bool
 |[],_=>true
 |i::is,listed=>(match ops[i]? with|some o=>nM o.op&&(dQ md ops listed i c0||yA o.op)|none=>false)&&(Region.ready md ops listed).contains i&&Region.free md ops listed i&&decide (i≠c0)&&eK md ops c0 is (listed.setIfInBounds i true)
theorem nW{o:Oper}{v:Value}{a:Act}(h:YieldsIf P ops T o v a):nF P ops T o v a:=by
 rcases h with⟨hw,h⟩|h
 ·exact .inl ⟨hw,fun w hT=>by rw[h w hT];exact⟨rfl,Gr.refl w⟩⟩
 ·exact .inr h
theorem vE(hs:Region.noSelect ops=true)(hQ:∀(c:_) (a:Act) (d:Option Tmp) (v:Value) (w:World),Q (.panic c) (a.put d v) w→Q (.panic c) a w)(hC:∀w w',C w→Gr w w'→C w')(n:Nat){w:World}(hw:C w):∀(is:List Nat) (listed:Array Bool) (a:Act),
  eK md ops c0 is listed=true→wpQuiet P ops C (fun a'=>uD P md ops Q C c0 n (kY listed is) a' w) (kD ops is) a→uD P md ops Q C c0 (n+is.length) listed a w
 |[],listed,a,_,h=>h
 |i::is,listed,a,hB,h=>by
  simp only[eK,zR,zE]at hB;obtain⟨⟨⟨⟨hp,hr⟩,hf⟩,hic⟩,hB'⟩:=hB;cases ho:ops[i]? with
  |none=>rw[ho]at hp;cases hp
  |some o=>
   rw[ho]at hp
   simp only[zR,Bool.or_eq_true]at hp
   simp only[kD,ho,wpQuiet]at h
   obtain⟨v,hy,hK⟩:=lO hp.1 ⟨w,hw⟩ h
   have hr':i∈Region.ready md ops listed:=by simpa using hr
   rcases hp.2 with hwt|hsm
   ·obtain⟨I,hI0,hI1,hI2⟩:=u7 hwt
    exact vL (T:=C) (I:=I) ho hs (fun c a w=>hQ c a o.dst v w) hic hC (fun l w hl hS=>hS (hI1 l hl)) hI2 _ listed a w (Region.free_spec ho hf) hr' hI0 (nW hy) (fun _=>hw) (vE hs hQ hC n hw is _ _ hB' hK)
   ·have hy':YieldsIf P ops (fun _=>True) o v a:=by
     rcases hy with⟨h1,h2⟩|h1
     ·exact .inl ⟨h1,fun w' _=>gB hsm (h2 w hw) w'⟩
     ·exact .inr h1
    exact vL (T:=fun _=>True) (I:=fun _=>True) ho hs (fun c a w=>hQ c a o.dst v w) hic hC (fun _ _ _ _=>trivial) (fun _ _ _ _ _ _=>trivial) _ listed a w (Region.free_spec ho hf) hr' trivial (nW hy') (fun _=>hw) (vE hs hQ hC n hw is _ _ hB' hK)
def dK(md:Region.Mode)(ops:Array Oper)(c0:Nat):List Nat→Array Bool→Bool
 |[],_=>true
 |i::is,listed=>(match ops[i]? with|some o=>nM o.op|none=>false)&&(Region.ready md ops listed).contains i&&Region.free md ops listed i&&decide (i≠c0)&&dK md ops c0 is (listed.setIfInBounds i true)
theorem wI(hs:Region.noSelect ops=true)(hQ:∀(c:_) (a:Act) (d:Option Tmp) (v:Value) (w:World),Q (.panic c) (a.put d v) w→Q (.panic c) a w)(hC:∀w w',C w→Gr w w'→C w')(n:Nat){w:World}:∀(is:List Nat) (listed:Array Bool) (a:Act),
  listed.getD c0 true=true→dK md ops c0 is listed=true→wpQuiet P ops (fun w=>∃x:xB,w=x.w) (fun a'=>uD P md ops Q C c0 n (kY listed is) a' w) (kD ops is) a→uD P md ops Q C c0 (n+is.length) listed a w
 |[],listed,a,_,_,h=>h
 |i::is,listed,a,hl,hB,h=>by
  simp only[dK,zR,zE]at hB;obtain⟨⟨⟨⟨hp,hr⟩,hf⟩,hic⟩,hB'⟩:=hB;cases ho:ops[i]? with
  |none=>rw[ho]at hp;cases hp
  |some o=>
   rw[ho]at hp
   simp only[kD,ho,wpQuiet]at h
   obtain⟨v,hy,hK⟩:=lO hp ⟨w,xB.any w⟩ h
   have hr':i∈Region.ready md ops listed:=by simpa using hr
   have hl':(listed.setIfInBounds i true).getD c0 true=true:=by rw[getD_set_ne true hic];exact hl
   exact vL (T:=fun w=>∃x:xB,w=x.w) (I:=fun _=>True) ho hs (fun c a w=>hQ c a o.dst v w) hic hC (fun _ w _ _=>xB.any w) (fun _ _ _ _ _ _=>trivial) _ listed a w (Region.free_spec ho hf) hr' trivial (nW hy)
    (fun h=>by rw[hl]at h;cases h) (wI hs hQ hC n is _ _ hl' hB' hK)
def fG(P:Program)(ops:Array Oper)(Q:Exit→Act→World→Prop)(c0:Nat)(last:List Nat)(a:Act)(w:World):Prop:=
 match ops[c0]? with
 |none=>False
 |some o=>if Region.wanted o (yielded ops a.tmps)then o.wp P a w (fun a'' w''=>wpQuiet P ops (fun w=>∃x:xB,w=x.w) (fun a3=>∀w3,Gr w'' w3→Q .normal a3 w3) (kD ops last) a'') Q else False
def l9(P:Program)(ops:Array Oper)(C:World→Prop)(Q:Exit→Act→World→Prop)(c0:Nat):List (List Nat×Nat×Bool)→List Nat→List Nat→Act→World→Prop
 |[],is0,last,a,w=>wpQuiet P ops C (fun a'=>∀w',Gr w w'→C w'→fG P ops Q c0 last a' w') (kD ops is0) a
 |(is,c,true)::rest,is0,last,a,w=>wpQuiet P ops C (fun a'=>match ops[c]? with
   |none=>False
   |some o=>∃v,nF P ops C o v a'∧l9 P ops C Q c0 rest is0 last (a'.put o.dst v) w) (kD ops is) a
 |(is,c,false)::rest,is0,last,a,w=>wpQuiet P ops C (fun a'=>match ops[c]? with
   |none=>False
   |some o=>∀w',Gr w w'→C w'→if Region.wanted o (yielded ops a'.tmps)then o.wp P a' w' (fun a'' w''=>C w''∧l9 P ops C Q c0 rest is0 last a'' w'') Q else False) (kD ops is) a
def uY(md:Region.Mode)(ops:Array Oper)(c0:Nat):List (List Nat×Nat×Bool)→List Nat→List Nat→Array Bool→Bool
 |[],is0,last,listed=>eK md ops c0 is0 listed&&decide (Region.ready md ops (kY listed is0)=[c0])&&((kY listed is0).setIfInBounds c0 true).getD c0 true&&dK md ops c0 last ((kY listed is0).setIfInBounds c0 true)&&(Region.ready md ops (kY ((kY listed is0).setIfInBounds c0 true) last)).isEmpty
 |(is,c,true)::rest,is0,last,listed=>eK md ops c0 is listed&&dQ md ops (kY listed is) c c0&&(Region.ready md ops (kY listed is)).contains c&&Region.free md ops (kY listed is) c&&decide (c≠c0)&&uY md ops c0 rest is0 last ((kY listed is).setIfInBounds c true)
 |(is,c,false)::rest,is0,last,listed=>eK md ops c0 is listed&&decide (Region.ready md ops (kY listed is)=[c])&&decide (c≠c0)&&uY md ops c0 rest is0 last ((kY listed is).setIfInBounds c true)
def vY:List (List Nat×Nat×Bool)→List Nat→List Nat→Nat
 |[],is0,last=>last.length+1+is0.length
 |(is,_,_)::rest,is0,last=>vY rest is0 last+1+is.length
theorem vJ{K K':Act→Prop}(hK:∀a,K a→K' a):∀(l:List Oper) (a:Act),wpQuiet P ops C K l a→wpQuiet P ops C K' l a:=by
 exact o7
theorem xI(hs:Region.noSelect ops=true)(hQ:∀(c:_) (a:Act) (d:Option Tmp) (v:Value) (w:World),Q (.panic c) (a.put d v) w→Q (.panic c) a w)(hC:∀w w',C w→Gr w w'→C w')(n:Nat)(is0 last:List Nat):∀(bs:List (List Nat×Nat×Bool)) (listed:Array Bool) (a:Act) (w:World),C w→
  uY md ops c0 bs is0 last listed=true→l9 P ops C Q c0 bs is0 last a w→uD P md ops Q C c0 (n+vY bs is0 last) listed a w
 |[],listed,a,w,hw,hB,h=>by
  simp only[uY,zR,zE]at hB;obtain⟨⟨⟨⟨hB1,hB2⟩,hB3⟩,hB4⟩,hB5⟩:=hB;simp only[vY];rw[←qT,←qT];refine vE hs hQ hC _ hw is0 listed a hB1 (vJ (fun a' ha=>?_) _ _ h);intro w' g;refine⟨fun h=>(by rw[hB2]at h;cases h),fun i hi=>?_⟩;rw[hB2]at hi;obtain rfl:i=c0:=by simpa using hi
  have ha:=ha w' g (hC _ _ hw g);unfold fG at ha;unfold wpOp;cases ho:ops[i]? with
  |none=>rw[ho]at ha;exact ha.elim
  |some o=>
   rw[ho]at ha
   simp only at ha⊢
   by_cases hwt:Region.wanted o (yielded ops a'.tmps)=true
   ·rw[zL hwt]at ha⊢
    refine .inl (Oper.wp_mono (fun a'' w'' h2=>⟨fun h=>(by rw[hB3]at h;cases h),?_⟩) ha)
    refine wI hs hQ hC n last _ a'' hB3 hB4 (vJ (fun a3 h3=>?_) _ _ h2)
    have hr:Region.ready md ops (kY ((kY listed is0).setIfInBounds i true) last)=[]:=by simpa using hB5
    cases n with
    |zero=>exact fun w3 g3=>⟨hr,h3 w3 g3⟩
    |succ n=>exact fun w3 g3=>⟨fun _=>h3 w3 g3,fun i hi=>by rw[hr]at hi;cases hi⟩
   ·rw[zY hwt]at ha
    exact ha.elim
 |(is,c,true)::rest,listed,a,w,hw,hB,h=>by
  simp only[uY,zR,zE]at hB;obtain⟨⟨⟨⟨⟨hB1,hB2⟩,hB3⟩,hB4⟩,hB5⟩,hB6⟩:=hB;simp only[vY];rw[←qT];simp only[l9]at h;refine vE hs hQ hC _ hw is listed a hB1 (vJ (fun a' ha=>?_) _ _ h);cases ho:ops[c]? with
  |none=>rw[ho]at ha;exact ha.elim
  |some o=>
   rw[ho]at ha
   obtain⟨v,hy,hK⟩:=ha
   obtain⟨I,hI0,hI1,hI2⟩:=u7 hB2
   rw[←qT]
   exact vL (T:=C) (I:=I) ho hs (fun c a w=>hQ c a o.dst v w) hB5 hC (fun l w hl hS=>hS (hI1 l hl)) hI2 _ _ a' w (Region.free_spec ho hB4) (by simpa using hB3) hI0 hy (fun _=>hw) (xI hs hQ hC n is0 last rest _ _ w hw hB6 hK)
 |(is,c,false)::rest,listed,a,w,hw,hB,h=>by
  simp only[uY,zR,zE]at hB;obtain⟨⟨⟨hB1,hB2⟩,hB3⟩,hB4⟩:=hB;simp only[vY];rw[←qT];simp only[l9]at h;refine vE hs hQ hC _ hw is listed a hB1 (vJ (fun a' ha=>?_) _ _ h);rw[←qT];intro w' g;refine⟨fun h=>(by rw[hB2]at h;cases h),fun i hi=>?_⟩;rw[hB2]at hi;obtain rfl:i=c:=by simpa using hi
  unfold wpOp;cases ho:ops[i]? with
  |none=>rw[ho]at ha;exact ha.elim
  |some o=>
   rw[ho]at ha
   have ha:=ha w' g (hC _ _ hw g)
   simp only at ha⊢
   by_cases hwt:Region.wanted o (yielded ops a'.tmps)=true
   ·rw[zL hwt]at ha⊢
    exact .inl (Oper.wp_mono (fun a'' w'' h2=>⟨fun _=>h2.1,xI hs hQ hC n is0 last rest _ a'' w'' h2.1 hB4 h2.2⟩) ha)
   ·rw[zY hwt]at ha
    exact ha.elim
theorem yS{id:Nat}{a:Act}{w:World}{l:List Oper}(c0:Nat)(bs:List (List Nat×Nat×Bool))(is0 last:List Nat)(hm:P.follows .mixedOrders=true)
  (hB:(Region.noSelect l.toArray&&uY .any l.toArray c0 bs is0 last (Array.replicate l.toArray.size false)&&decide (vY bs is0 last≤l.toArray.size))=true)
  (hQ:∀(c:_) (a:Act) (d:Option Tmp) (v:Value) (w:World),Q (.panic c) (a.put d v) w→Q (.panic c) a w) (hC:∀w w',C w→Gr w w'→C w') (hw:C w.drew)
  (h:∀wd,wd=w.drew→l9 P l.toArray C Q c0 bs is0 last a wd):(Code.region id l.toArray true).wp P Q a w:=by
 simp only[zR,zE]at hB;obtain⟨⟨hs,hb⟩,hle⟩:=hB;refine wp_region_any hm (cZ (C:=C) (c0:=c0) _ _ _ _ ?_);have:=xI (md:=.any) hs hQ hC (l.toArray.size-vY bs is0 last) is0 last bs (Array.replicate l.toArray.size false) a w.drew hw hb (h _ rfl);rwa [Nat.sub_add_cancel hle]at this
variable {rest:List (List Nat×Nat×Bool)} {is is0 last:List Nat} {c:Nat} {l:List Oper} {o:Oper} {a:Act} {w:World}
def uX(P:Program)(ops:Array Oper)(C:World→Prop)(Q:Exit→Act→World→Prop)(c0:Nat)(rest:List (List Nat×Nat×Bool))(is0 last:List Nat)(o:Oper)(w:World)(a:Act):Prop:=∀w',Gr w w'→C w'→if Region.wanted o (yielded ops a.tmps)then o.wp P a w' (fun a'' w''=>C w''∧l9 P ops C Q c0 rest is0 last a'' w'') Q else False
def uK(P:Program)(ops:Array Oper)(C:World→Prop)(Q:Exit→Act→World→Prop)(last:List Nat)(o:Oper)(w:World)(a:Act):Prop:=∀w',Gr w w'→C w'→if Region.wanted o (yielded ops a.tmps)then o.wp P a w' (fun a'' w''=>wpQuiet P ops (fun w=>∃x:xB,w=x.w) (fun a3=>∀w3,Gr w'' w3→Q .normal a3 w3) (kD ops last) a'') Q else False
theorem sJ(hl:kD ops is=l)(ho:ops[c]?=some o)(h:wpQuiet P ops C (uX P ops C Q c0 rest is0 last o w) l a):l9 P ops C Q c0 ((is,c,false)::rest) is0 last a w:=by
 subst hl;simp only[l9,ho];exact h
theorem cG(h:wpQuiet P ops C (uX P ops C Q c0 rest is0 last o w) l a)(hl:kD ops is=l:=by simp only[kD,zX,zK,zV];rfl)(ho:ops[c]?=some o:=by simp only[zX,zK,zV];rfl):l9 P ops C Q c0 ((is,c,false)::rest) is0 last a w:=sJ hl ho h
theorem sX(hl:kD ops is0=l)(ho:ops[c0]?=some o)(h:wpQuiet P ops C (uK P ops C Q last o w) l a):l9 P ops C Q c0 [] is0 last a w:=by
 subst hl;simp only[l9,fG,ho];exact h
theorem bM(h:wpQuiet P ops C (uK P ops C Q last o w) l a)(hl:kD ops is0=l:=by simp only[kD,zX,zK,zV];rfl)(ho:ops[c0]?=some o:=by simp only[zX,zK,zV];rfl):l9 P ops C Q c0 [] is0 last a w:=sX hl ho h
theorem sN{o:Oper}{ρ:Operand→Value}{g:Nat}{caps args:Array Value}(x:Operand)(xs:Array Operand)(ts:Array TypeId)(ho:o.op=.call {callee:=.value x,args:=xs,argTypes:=ts})(hx:ρ x=.func (.func g) #[] caps)
  (eg:∀args w,(callFunc g args).run P w=.ok (.enter g args) w) (ha:xs.map ρ++caps=args) (w:World):(execOp ρ o).run P w=.ok (.enter g args) w:=by
 subst ha;unfold execOp;simp only[ho,resolve,hx];simp[go_sem,invoke,eg]
theorem gL{o:Oper}{g:Nat}{caps args:Array Value}{K:Act→World→Prop}(x:Operand)(xs:Array Operand)(ts:Array TypeId)(ho:o.op=.call {callee:=.value x,args:=xs,argTypes:=ts})(eg:∀args w,(callFunc g args).run P w=.ok (.enter g args) w)(hx:a.eval x=.func (.func g) #[] caps)(ha:xs.map a.eval++caps=args)
  (h:Calls P g args w fun e w'=>∃v,e=.returned v∧K (a.put o.dst v) w'):o.wp P a w K Q:=by
 unfold Oper.wp;rw[sN x xs ts ho hx eg ha w];simp only[Oper.upon];exact h.mono fun e w' ⟨v,he,hk⟩=>by subst he;exact hk
theorem xF(hw:Region.wanted o (yielded ops a.tmps)=true)(h:∀w',Gr w w'→C w'→∀K:Act→World→Prop,(∀a w,C w→l9 P ops C Q c0 rest is0 last a w→K a w)→o.wp P a w' K Q):uX P ops C Q c0 rest is0 last o w a:=by
 intro w' g hC;rw[zL hw];exact h w' g hC _ fun a w hc h=>⟨hc,h⟩
theorem sK(hw:Region.wanted o (yielded ops a.tmps)=true)(h:∀w',Gr w w'→C w'→∀K:Act→World→Prop,(∀a w,wpQuiet P ops (fun w=>∃x:xB,w=x.w) (fun a3=>∀w3,Gr w w3→Q .normal a3 w3) (kD ops last) a→K a w)→o.wp P a w' K Q):uK P ops C Q last o w a:=by
 intro w' g hC;rw[zL hw];exact h w' g hC _ fun a w h=>h
end
end
section
open Go.RowKit Go.ChangeShapes Go.WideShapes
structure ArgB(w:World)(A:Option Addr)(n c:Nat)(L:List Int):Prop where
 rd:Rd w A L
 len:L.length=n
 cap:n≤c
 max:c≤maxLen
 bd:∀x∈L,0≤x∧x≤255
theorem ArgB.below{w w':World}{A:Option Addr}{n c:Nat}{L:List Int}(h:ArgB w A n c L)(hb:Below w.heap.size w w'):ArgB w' A n c L:=⟨h.rd.below hb,h.len,h.cap,h.max,h.bd⟩
section
variable {H:Type} {enc:TypeId×Value→H} {W:World} {r:Reach} {base:Nat}
end
end
end Go.Proofs.Ytilideoeaecoaaa
