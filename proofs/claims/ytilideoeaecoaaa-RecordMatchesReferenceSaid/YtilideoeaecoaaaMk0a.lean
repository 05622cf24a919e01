/- Calm, Row, Mix, Blk, Rng, StaD, Plain, Num, PixNum, PopNum, PixMath, PlaneNum, PlaneFwd, PlaneBox, Tail, Fork, Words16, Spl, Arr, Byt, AudNum, Pat, DecNum, InsV, InsEq, Cells, AppRd, Kept. -/
import Derived.Test.YtilideoeaecoaaaRows
import Derived.Test.YtilideoeaecoaaaProg
import Derived.Test.YtilideoeaecoaaaMn
set_option maxRecDepth 400000
set_option maxHeartbeats 64000000
set_option linter.unusedVariables false
set_option linter.unusedSimpArgs false
namespace Go.Proofs.Ytilideoeaecoaaa
section
open Go.RowKit
def mK(W:World):Type:={w':World//Below W.heap.size W w'}
def mK.w{W:World}(x:mK W):World:=x.1
theorem mK.below{W:World}(x:mK W):Below W.heap.size W x.w:=x.2
instance(W:World):Nonempty (mK W):=⟨⟨W,zA _ _⟩⟩
theorem mK.cell{W:World}{b o:Nat}{v:Value}(h:W.cell? ⟨b,o,none⟩=some v)(hb:b<W.heap.size)(x:mK W):x.w.cell? ⟨b,o,none⟩=some v:=
 (x.below.cell (p:=⟨b,o,none⟩) hb).trans h
theorem mT{P:Program}{id:Nat}{l:List Oper}{Q:Exit→Act→World→Prop}{a:Act}{W:World}(hm:P.follows .mixedOrders=true)(hB:Region.lexB .any l.toArray=true)
  (h:wpQuiet P l.toArray (fun w'=>∃x:mK W,w'=x.w) (fun a'=>∀w',(∃x:mK W,w'=x.w)→Q .normal a' w') l a):(Code.region id l.toArray true).wp P Q a W:=
 wp_region_quiet (C:=fun w'=>∃x:mK W,w'=x.w) hm hB ⟨⟨W.drew,(zA _ _).drew⟩,rfl⟩ (by simpa using h)
theorem xA{P:Program}{f:FuncId}{args:Array Value}{v:Value}{W:World}{x:mK W}(h:Calls P f args x.w fun e w'=>e=.returned v∧Below x.w.heap.size x.w w'):
  Calls P f args x.w fun e w''=>e=.returned v∧∃y:mK W,w''=y.w:=
 h.mono fun _ w' ⟨he,hb⟩=>⟨he,⟨w',x.below.trans (hb.mono x.below.size)⟩,rfl⟩
def v3(B:Nat)(W:World):Type:={w':World//Below B W w'}
def v3.w{B:Nat}{W:World}(x:v3 B W):World:=x.1
theorem v3.below{B:Nat}{W:World}(x:v3 B W):Below B W x.w:=x.2
instance(B:Nat)(W:World):Nonempty (v3 B W):=⟨⟨W,zA _ _⟩⟩
theorem v3.cell{B:Nat}{W:World}{b o:Nat}{v:Value}(h:W.cell? ⟨b,o,none⟩=some v)(hb:b<B)(x:v3 B W):x.w.cell? ⟨b,o,none⟩=some v:=(x.below.cell (p:=⟨b,o,none⟩) hb).trans h
def Row{α:Type}(enc:α→Value)(w:World)(A:Option Addr)(L:List α):Prop:=
 L≠[]→∃b o,A=some ⟨b,o,none⟩∧b<w.heap.size∧∀j (h:j<L.length),w.cell? ⟨b,o+j,none⟩=some (enc L[j])
section
variable {α:Type} {enc:α→Value} {w w':World} {A:Option Addr} {L:List α}
theorem Row.nil:Row enc w A []:=fun h=>absurd rfl h
theorem Row.at_(h:Row enc w A L){k:Nat}(hk:k<L.length):∃b o,A=some ⟨b,o,none⟩∧b<w.heap.size∧w.cell? ⟨b,o+k,none⟩=some (enc L[k]):=by
 obtain⟨b,o,hA,hb,hc⟩:=h o0;exact⟨b,o,hA,hb,hc k hk⟩
theorem Row.below(h:Row enc w A L)(hb:Below w.heap.size w w'):Row enc w' A L:=fun hne=>by
 obtain⟨b,o,hA,hlt,hc⟩:=h hne;exact⟨b,o,hA,zG hlt hb.size,fun j hj=>(hb.cell (p:=⟨b,o+j,none⟩) hlt).trans (hc j hj)⟩
theorem Row.of_own{base:Nat}{e:TypeId}{n c:Nat}(h:w.ownsRow base e 1 (.slice A n c) n (L.map enc)):Row enc w A L:=fun hne=>by
 have hl:L.length=n:=by have:=h.1;simpa using this
 have hpos:0<n:=by rw[←hl];exact List.length_pos_iff.2 hne
 obtain⟨g,cap,hv,_,hlt⟩:=h.form hpos;have hA:A=some ⟨g,0,none⟩:=by injection hv
 subst hA;refine⟨g,0,rfl,hlt,fun j hj=>?_⟩;have:=h.cellAt (g:=g) j oB;rw[qL,this];simp[hj]
end
theorem lD{w:World}{base n:Nat}{e:TypeId}{v:Value}{xs:List Value}(h:w.ownsRow base e 1 v n xs):∃A cap,v=.slice A n cap:=by
 rcases h.2 with⟨rfl,rfl⟩|⟨g,cap,cur,rfl,_⟩
 ·exact⟨none,0,rfl⟩
 ·exact⟨_,cap,rfl⟩
section
variable {P:Program} {ops:Array Oper} {C:World→Prop} {Q:Exit→Act→World→Prop} {md:Region.Mode}
def nM:Op→Bool
 |.move _| .assign _| .pick ..| .binOp ..| .unOp ..| .slice ..| .convert ..| .index ..| .indexAddr ..| .load ..| .fieldAddr ..| .field ..| .extract ..| .nilCheck _| .build ..=>true
 |.call c=>match c.callee with| .builtin .len| .builtin .cap=>true|_=>false
 |_=>false
theorem cJ{s:Sem Value}{w w':World}{n:Next}(hr:(Sem.run P (do pure (.value (←s)):Sem Next) w)=.ok n w'):∃u,n=.value u:=by
 rw[zH]at hr;cases h:s.run P w with
 |ok u w1=>rw[h]at hr;simp[Result.andThen]at hr;exact⟨u,hr.1.symm⟩
 |halt x w1=>rw[h]at hr;simp[Result.andThen]at hr
theorem tF{o:Oper}{ρ:Operand→Value}{w w':World}{n:Next}(h:nM o.op=true)(hr:(execOp ρ o).run P w=.ok n w'):∃u,n=.value u:=by
 obtain⟨dst,op,ty,pos,after,guard⟩:=o;cases op
 case call c=>
  obtain⟨callee,args,ats⟩:=c
  cases callee
  case builtin b=>
   cases b<;>simp[nM]at h
   all_goals
    rw[BigFrame.execOp_builtin]at hr
    first|rw[BigFrame.builtin_len]at hr|rw[BigFrame.builtin_cap]at hr
    exact cJ hr
  all_goals simp[nM]at h
 case move x=>unfold execOp at hr;simp at hr;exact⟨_,hr.1.symm⟩
 case assign x=>unfold execOp at hr;simp at hr;exact⟨_,hr.1.symm⟩
 case pick c a b=>
  unfold execOp at hr
  simp only[zH]at hr
  cases hc:(asBool (ρ c)).run P w with
  |ok u w1=>rw[hc]at hr;simp[Result.andThen]at hr;exact⟨_,hr.1.symm⟩
  |halt x w1=>rw[hc]at hr;simp[Result.andThen]at hr
 case nilCheck x=>
  unfold execOp at hr
  simp only at hr
  split at hr
  all_goals first|(simp at hr;exact⟨_,hr.1.symm⟩)|(simp[runtimePanic,goPanic]at hr;done)|skip
  split at hr
  ·simp[runtimePanic,goPanic]at hr
  ·simp only[zH]at hr
   revert hr
   cases Sem.run P program w<;>simp[Result.andThen]
   rename_i p w1
   cases Sem.run P (nilAhead (p.types.size+Made.depth) _ _ _) w1<;>simp
   rename_i b w2
   intro hr
   split at hr
   all_goals first
    |(simp at hr;exact⟨_,hr.1.symm⟩)
    |(simp at hr;done)
    |(revert hr;cases Sem.run P (unsupported _:Sem PUnit) w2<;>simp[Result.andThen];intro h _;exact⟨_,h.symm⟩)
  all_goals (simp at hr;exact⟨_,hr.1.symm⟩)
 all_goals first|(simp[nM]at h;done)|(unfold execOp at hr;exact cJ hr)
theorem lO{o:Oper}{a:Act}{K:Act→Prop}(hp:nM o.op=true)(hne:∃w,C w)
  (h:if Region.wanted o (yielded ops a.tmps)then o.quiet P a C K else K (a.put o.dst undef)):∃v,YieldsIf P ops C o v a∧K (a.put o.dst v):=by
 by_cases hw:Region.wanted o (yielded ops a.tmps)=true
 ·simp only[hw,if_true]at h;obtain⟨v,h1,h2⟩:=h;refine⟨v,.inl ⟨hw,fun w hC=>?_⟩,h2⟩;have h3:=h1 w hC;unfold Oper.quietAt at h3;cases hr:(execOp a.eval o).run P w with
  |ok n w'=>
   obtain⟨u,rfl⟩:=tF hp hr
   rw[hr]at h3
   simp only[Oper.quietUpon]at h3
   obtain⟨rfl,rfl⟩:=h3
   rfl
  |halt x w'=>rw[hr]at h3;simp only[Oper.quietUpon]at h3
 ·simp only[hw]at h;exact⟨undef,.inr ⟨by simpa using hw,rfl⟩,h⟩
def kD(ops:Array Oper):List Nat→List Oper
 |[]=>[]
 |i::is=>match ops[i]? with|some o=>o::kD ops is|none=>kD ops is
def kY(listed:Array Bool):List Nat→Array Bool
 |[]=>listed
 |i::is=>kY (listed.setIfInBounds i true) is
def gD(md:Region.Mode)(ops:Array Oper):List Nat→Array Bool→Bool
 |[],_=>true
 |i::is,listed=>(match ops[i]? with|some o=>nM o.op|none=>false)&&(Region.ready md ops listed).contains i&&Region.free md ops listed i&&gD md ops is (listed.setIfInBounds i true)
theorem vC(hs:Region.noSelect ops=true)(hQ:∀(c:_) (a:Act) (d:Option Tmp) (v:Value) (w:World),Q (.panic c) (a.put d v) w→Q (.panic c) a w)(fuel:Nat){w:World}(hC:C w):∀(is:List Nat) (listed:Array Bool) (a:Act),
  gD md ops is listed=true→wpQuiet P ops C (fun a'=>wpAnyH P md ops Q C fuel (kY listed is) a' w) (kD ops is) a→wpAnyH P md ops Q C (fuel+is.length) listed a w
 |[],listed,a,_,h=>h
 |i::is,listed,a,hB,h=>by
  simp only[gD,zR]at hB;obtain⟨⟨⟨hp,hr⟩,hf⟩,hB'⟩:=hB;cases ho:ops[i]? with
  |none=>rw[ho]at hp;cases hp
  |some o=>
   rw[ho]at hp
   simp only[kD,ho,wpQuiet]at h
   obtain⟨v,hy,hK⟩:=lO hp ⟨w,hC⟩ h
   exact wpAnyH_take ho hs hf hr (fun c a w=>hQ c a o.dst v w) hy hC (vC hs hQ fuel hC is _ _ hB' hK)
def mB(P:Program)(ops:Array Oper)(C:World→Prop)(Q:Exit→Act→World→Prop):List (List Nat×Nat)→List Nat→Act→World→Prop
 |[],last,a,w=>wpQuiet P ops C (fun a'=>Q .normal a' w) (kD ops last) a
 |(is,c)::rest,last,a,w=>wpQuiet P ops C (fun a'=>match ops[c]? with
   |none=>False
   |some o=>if Region.wanted o (yielded ops a'.tmps)then o.wp P a' w (fun a'' w''=>C w''∧mB P ops C Q rest last a'' w'') Q else mB P ops C Q rest last (a'.put o.dst undef) w) (kD ops is) a
def fL(md:Region.Mode)(ops:Array Oper):List (List Nat×Nat)→List Nat→Array Bool→Bool
 |[],last,listed=>gD md ops last listed&&(Region.ready md ops (kY listed last)).isEmpty
 |(is,c)::rest,last,listed=>gD md ops is listed&&decide (Region.ready md ops (kY listed is)=[c])&&fL md ops rest last ((kY listed is).setIfInBounds c true)
def cN:List (List Nat×Nat)→List Nat→Nat
 |[],last=>last.length
 |(is,c)::rest,last=>cN rest last+1+is.length
theorem uF(hs:Region.noSelect ops=true)(hQ:∀(c:_) (a:Act) (d:Option Tmp) (v:Value) (w:World),Q (.panic c) (a.put d v) w→Q (.panic c) a w)(k:Nat)(last:List Nat):∀(bs:List (List Nat×Nat)) (listed:Array Bool) (a:Act) (w:World),C w→
  fL md ops bs last listed=true→mB P ops C Q bs last a w→wpAnyH P md ops Q C (k+cN bs last) listed a w
 |[],listed,a,w,hC,hB,h=>by
  simp only[fL,zR]at hB;have hr:Region.ready md ops (kY listed last)=[]:=by simpa using hB.2
  refine vC hs hQ k hC last listed a hB.1 ?_;have mono:∀(l:List Oper) (a:Act),wpQuiet P ops C (fun a'=>Q .normal a' w) l a→wpQuiet P ops C (fun a'=>wpAnyH P md ops Q C k (kY listed last) a' w) l a:=by
   intro l;induction l with
   |nil=>intro a h;exact wpAnyH_done hr h k
   |cons o l ih=>
    intro a h
    simp only[wpQuiet]at h⊢
    split
    ·rename_i hw;simp only[hw,if_true]at h;exact Oper.quiet_mono (fun a h=>ih a h) h
    ·rename_i hw;simp only[hw]at h;exact ih _ h
  exact mono _ _ h
 |(is,c)::rest,listed,a,w,hC,hB,h=>by
  simp only[fL,zR]at hB;obtain⟨⟨hB1,hB2⟩,hB3⟩:=hB;have hr:Region.ready md ops (kY listed is)=[c]:=by simpa using hB2
  simp only[cN];rw[←qT];refine vC hs hQ _ hC is listed a hB1 ?_;simp only[mB]at h;have step:∀a':Act,(match ops[c]? with
   |none=>False
   |some o=>if Region.wanted o (yielded ops a'.tmps)then o.wp P a' w (fun a'' w''=>C w''∧mB P ops C Q rest last a'' w'') Q else mB P ops C Q rest last (a'.put o.dst undef) w)→wpAnyH P md ops Q C (k+(cN rest last+1)) (kY listed is) a' w:=by
   intro a' ha;rw[←qT];refine wpAnyH_all hr oP fun i hi=>?_;obtain rfl:i=c:=by simpa using hi
   unfold wpOp;cases ho:ops[i]? with
   |none=>rw[ho]at ha;exact ha.elim
   |some o=>
    rw[ho]at ha
    simp only at ha⊢
    split
    ·rename_i hw
     simp only[hw,if_true]at ha
     exact .inl (Oper.wp_mono (fun a'' w'' ⟨h1,h2⟩=>⟨h1,uF hs hQ k last rest _ a'' w'' h1 hB3 h2⟩) ha)
    ·rename_i hw
     simp only[hw]at ha
     exact⟨hC,uF hs hQ k last rest _ _ w hC hB3 ha⟩
  have mono:∀(l:List Oper) (a:Act),wpQuiet P ops C (fun a'=>match ops[c]? with
   |none=>False
   |some o=>if Region.wanted o (yielded ops a'.tmps)then o.wp P a' w (fun a'' w''=>C w''∧mB P ops C Q rest last a'' w'') Q else mB P ops C Q rest last (a'.put o.dst undef) w) l a→wpQuiet P ops C (fun a'=>wpAnyH P md ops Q C (k+(cN rest last+1)) (kY listed is) a' w) l a:=by
   intro l;induction l with
   |nil=>intro a h;exact step a h
   |cons o l ih=>
    intro a h
    simp only[wpQuiet]at h⊢
    split
    ·rename_i hw;simp only[hw,if_true]at h;exact Oper.quiet_mono (fun a h=>ih a h) h
    ·rename_i hw;simp only[hw]at h;exact ih _ h
  exact mono _ _ h
theorem lB{id:Nat}{a:Act}{w:World}{l:List Oper}(bs:List (List Nat×Nat))(last:List Nat)(hm:P.follows .mixedOrders=true)
  (hB:(Region.noSelect l.toArray&&fL .any l.toArray bs last (Array.replicate l.toArray.size false)&&decide (cN bs last≤l.toArray.size))=true)
  (hQ:∀(c:_) (a:Act) (d:Option Tmp) (v:Value) (w:World),Q (.panic c) (a.put d v) w→Q (.panic c) a w) (hC:C w.drew)
  (h:∀wd,wd=w.drew→mB P l.toArray C Q bs last a wd):(Code.region id l.toArray true).wp P Q a w:=by
 simp only[zR,zE]at hB;obtain⟨⟨hs,hb⟩,hle⟩:=hB;refine wp_region_held (S:=C) hm ?_;have:=uF (md:=.any) hs hQ (l.toArray.size-cN bs last) last bs (Array.replicate l.toArray.size false) a w.drew hC hb (h _ rfl);rwa [Nat.sub_add_cancel hle]at this
def yR(P:Program)(ops:Array Oper)(C:World→Prop)(Q:Exit→Act→World→Prop)(rest:List (List Nat×Nat))(last:List Nat)(o:Oper)(w:World)(a:Act):Prop:=
 if Region.wanted o (yielded ops a.tmps)then o.wp P a w (fun a'' w''=>C w''∧mB P ops C Q rest last a'' w'') Q else mB P ops C Q rest last (a.put o.dst undef) w
theorem iS{is last:List Nat}{c:Nat}{rest:List (List Nat×Nat)}{l:List Oper}{o:Oper}{a:Act}{w:World}(hl:kD ops is=l)(ho:ops[c]?=some o)(h:wpQuiet P ops C (yR P ops C Q rest last o w) l a):mB P ops C Q ((is,c)::rest) last a w:=by
 subst hl;unfold mB;rw[ho];exact h
theorem kG{is last:List Nat}{c:Nat}{rest:List (List Nat×Nat)}{l:List Oper}{o:Oper}{a:Act}{w:World}(h:wpQuiet P ops C (yR P ops C Q rest last o w) l a)(hl:kD ops is=l:=by simp only[kD,zX,zK,zV];rfl)(ho:ops[c]?=some o:=by simp only[zX,zK,zV];rfl):mB P ops C Q ((is,c)::rest) last a w:=iS hl ho h
theorem fY{last:List Nat}{l:List Oper}{a:Act}{w:World}(hl:kD ops last=l)(h:wpQuiet P ops C (fun a'=>Q .normal a' w) l a):mB P ops C Q [] last a w:=by
 subst hl;exact h
theorem nA{last:List Nat}{l:List Oper}{a:Act}{w:World}(h:wpQuiet P ops C (fun a'=>Q .normal a' w) l a)(hl:kD ops last=l:=by simp only[kD,zX,zK,zV];rfl):mB P ops C Q [] last a w:=fY hl h
theorem kB{rest:List (List Nat×Nat)}{last:List Nat}{o:Oper}{a:Act}{w:World}(hw:Region.wanted o (yielded ops a.tmps)=true)(h:∀K:Act→World→Prop,(∀a w,C w→mB P ops C Q rest last a w→K a w)→o.wp P a w K Q):yR P ops C Q rest last o w a:=by
 unfold yR;rw[zL hw];exact h _ fun a w hc h=>⟨hc,h⟩
end
structure xB where
 w:World
theorem xB.any(w:World):∃x:xB,w=x.w:=⟨⟨w⟩,rfl⟩
instance:Nonempty xB:=⟨⟨default⟩⟩
structure lI(P:Program)(T:TypeId)(n:Nat):Prop where
 u:∃d,P.underlying T=some d∧d.isRow=true
 i:(P.info? T).map (·.size)=some n
def mW(P:Program)(T:TypeId)(z:Array Value):Prop:=(P.info? T).map (fun i=>(i.zero,i.size))=some (some (.agg z),z.size)
def vI(cs:Array Value):Prop:=cs.all (·.oneCell')=true
def Blk(b:Nat)(T:TypeId)(cs:Array Value)(w:World):Prop:=w.heap[b]?=some (.cells cs T (0,0))
theorem mG{B:Nat}{a w:World}(h:Below B a w){g:Nat}(hg:B≤g)(cs:Array Value):Below B a (w.setRow g cs):=
 h.trans ⟨rfl,rfl,rfl,by simp[World.setRow],fun k hk=>jL w g k cs oB⟩
section
variable {b:Nat} {T:TypeId} {cs ds:Array Value} {w w':World}
theorem Blk.lt(H:Blk b T cs w):b<w.heap.size:=(qK.1 H).1
theorem Blk.below(H:Blk b T cs w){n:Nat}(hb:Below n w w')(hn:b<n):Blk b T cs w':=(hb.block b hn).trans H
theorem Blk.step(H:Blk b T cs w)(hb:Below w.heap.size w w'):Blk b T cs w':=H.below hb H.lt
theorem Blk.new(w:World)(T:TypeId)(cs:Array Value):Blk w.heap.size T cs (w.alloc (.cells cs T)):=qP _ _
theorem Blk.alloc(H:Blk b T cs w)(o:Obj):Blk b T cs (w.alloc o):=H.step ((zA _ _).alloc (zP _) _)
theorem Blk.drew(H:Blk b T cs w):Blk b T cs w.drew:=H
theorem Blk.other(H:Blk b T cs w){g:Nat}(hg:b≠g)(o:Nat)(v:Value):Blk b T cs (w.setCell ⟨g,o,none⟩ v):=(jM w ⟨g,o,none⟩ v b hg).trans H
theorem Blk.otherRow(H:Blk b T cs w){g:Nat}(hg:b≠g)(ds:Array Value):Blk b T cs (w.setRow g ds):=(jL w g b ds hg).trans H
theorem Blk.cell(H:Blk b T cs w)(j:Nat):w.cell? ⟨b,j,none⟩=cs[j]?:=qO w b j cs T (0,0) H
theorem Blk.frozen(H:Blk b T cs w)(j:Nat):w.frozen? ⟨b,j,none⟩=false:=frozen_of_row w b j cs T H
theorem Blk.store(H:Blk b T cs w)(ds:Array Value):Blk b T ds (w.setRow b ds):=setRow_heap w b _ _ T (0,0) H
theorem Blk.put(H:Blk b T cs w)(j:Nat)(v:Value):Blk b T (cs.setIfInBounds j v) (w.setCell ⟨b,j,none⟩ v):=heap_setCell_same w b j _ _ v H
theorem Blk.eq(H:Blk b T cs w)(e:cs=ds):Blk b T ds w:=e▸H
def kW(cs:Array Value)(o:Nat)(ds:Array Value):Array Value:=(cs.toList.take o++ds.toList++cs.toList.drop (o+ds.size)).toArray
end
section
variable {P:Program} {ops:Array Oper} {T ty:TypeId} {b o n:Nat} {cs ds:Array Value} {w:World} {Q:Exit→Act→World→Prop}
theorem uA(A:lI P ty n)(H:Blk b T cs w)(ho:o+n≤cs.size):(loadVar ty ⟨b,o,none⟩).run P w=.ok (.agg (cs.extract o (o+n))) w:=by
 obtain⟨d,hu,hd⟩:=A.u;have h:=run_loadVar_mid (P:=P) w b o ty (cs.extract o (o+n)).toList d (World.rangeAt_of_block H o n) hu hd (by rw[A.i];simp;omega);rwa [Array.toArray_toList]at h
theorem nV{op:Oper}{ρ:Operand→Value}(A:lI P ty n)(H:Blk b T cs w)(hn:o+n≤cs.size)(x:Operand)(ho:op.op=.load ty x)(hx:ρ x=.pointer (some ⟨b,o,none⟩)):(execOp ρ op).run P w=.ok (.value (.agg (cs.extract o (o+n)))) w:=by
 unfold execOp;simp only[ho,hx,Instr.loadAt,Instr.sureAddr,zH,Sem.run_pure,Result.andThen_ok,uA A H hn]
theorem nD{op:Oper}{ρ:Operand→Value}(A:lI P ty n)(H:Blk b T cs w)(hn:cs.size=n)(x:Operand)(ho:op.op=.load ty x)(hx:ρ x=.pointer (some ⟨b,0,none⟩)):(execOp ρ op).run P w=.ok (.value (.agg cs)) w:=by
 have h:=nV A H (by omega:0+n≤cs.size) x ho hx;rw[h];subst hn;simp
theorem yI(A:lI P ty n)(H:Blk b T cs w)(hn:ds.size=n)(ho:o+n≤cs.size)(h1:vI ds):(storeVar ty ⟨b,o,none⟩ (.agg ds)).run P w=.ok () (w.setRow b (kW cs o ds)):=by
 have h:=run_storeCells_at P b o T ds.toList 0 cs w H oA (fun v hv=>(qN.1 h1) v (by simpa using hv));have hi:=A.i;cases hq:P.info? ty with
 |none=>simp[hq]at hi
 |some i=>
  have hs:i.size=n:=oI
  simp[storeVar,sizeOf,typeInfo,hq,Value.cells,hs,hn,h,kW]
theorem cQ{op:Oper}{a:Act}{K:Act→World→Prop}(A:lI P ty n)(H:Blk b T cs w)(hn:ds.size=n)(hl:o+n≤cs.size)(h1:vI ds)(x y:Operand)(ho:op.op=.store ty x y)(hx:a.eval x=.pointer (some ⟨b,o,none⟩))(hy:a.eval y=.agg ds)
  (h:K (a.put op.dst undef) (w.setRow b (kW cs o ds))):op.wp P a w K Q:=by
 unfold Oper.wp execOp;simp only[ho,hx,hy,Instr.storeAt,Instr.sureAddr,zH,Sem.run_pure,Result.andThen_ok,yI A H hn hl h1];exact h
theorem tX(h:ds.size=cs.size):kW cs 0 ds=ds:=by
 unfold kW;rw[qL,h];simp[List.drop_eq_nil_of_le]
theorem cD{op:Oper}{a:Act}{K:Act→World→Prop}(A:lI P ty n)(H:Blk b T cs w)(hc:cs.size=n)(hn:ds.size=n)(h1:vI ds)(x y:Operand)(ho:op.op=.store ty x y)(hx:a.eval x=.pointer (some ⟨b,0,none⟩))(hy:a.eval y=.agg ds)
  (h:K (a.put op.dst undef) (w.setRow b ds)):op.wp P a w K Q:=
 cQ A H hn oB h1 x y ho hx hy (by rw[tX oB];exact h)
variable {rest:List Oper} {op:Oper} {a:Act}
theorem uW(hgd:op.guard=none)(v:Value)(h1:(execOp a.eval op).run P w=.ok (.value v) w)(h:wpList P ops Q rest (a.put op.dst v) w):wpList P ops Q (op::rest) a w:=
 zI hgd fun K hK=>by unfold Oper.wp;rw[h1];exact hK _ _ h
theorem kA(A:lI P ty n)(H:Blk b T cs w)(hn:o+n≤cs.size)(hgd:op.guard=none)(x:Operand)(ho:op.op=.load ty x)(hx:a.eval x=.pointer (some ⟨b,o,none⟩))
  (h:wpList P ops Q rest (a.put op.dst (.agg (cs.extract o (o+n)))) w):wpList P ops Q (op::rest) a w:=
 zI hgd fun K hK=>by unfold Oper.wp;rw[nV A H hn x ho hx];exact hK _ _ h
theorem j3(A:lI P ty n)(H:Blk b T cs w)(hn:cs.size=n)(hgd:op.guard=none)(x:Operand)(ho:op.op=.load ty x)(hx:a.eval x=.pointer (some ⟨b,0,none⟩))
  (h:wpList P ops Q rest (a.put op.dst (.agg cs)) w):wpList P ops Q (op::rest) a w:=
 zI hgd fun K hK=>by unfold Oper.wp;rw[nD A H hn x ho hx];exact hK _ _ h
theorem kX(A:lI P ty n)(H:Blk b T cs w)(hc:cs.size=n)(hn:ds.size=n)(h1:vI ds)(hgd:op.guard=none)(x y:Operand)(ho:op.op=.store ty x y)(hx:a.eval x=.pointer (some ⟨b,0,none⟩))(hy:a.eval y=.agg ds)
  (h:wpList P ops Q rest (a.put op.dst undef) (w.setRow b ds)):wpList P ops Q (op::rest) a w:=
 zI hgd fun K hK=>cD A H hc hn h1 x y ho hx hy (hK _ _ h)
theorem mP(A:lI P ty n)(H:Blk b T cs w)(hn:ds.size=n)(hl:o+n≤cs.size)(h1:vI ds)(hgd:op.guard=none)(x y:Operand)(ho:op.op=.store ty x y)(hx:a.eval x=.pointer (some ⟨b,o,none⟩))(hy:a.eval y=.agg ds)
  (h:wpList P ops Q rest (a.put op.dst undef) (w.setRow b (kW cs o ds))):wpList P ops Q (op::rest) a w:=
 zI hgd fun K hK=>cQ A H hn hl h1 x y ho hx hy (hK _ _ h)
theorem rN(W:World)(cs cs':Array Value)(t:TypeId):(W.alloc (.cells cs t)).setRow W.heap.size cs'=W.alloc (.cells cs' t):=by
 unfold World.setRow World.alloc;congr 1
 apply qM
 intro i
 simp only[Array.getElem?_modify,Array.getElem?_push]
 by_cases e:W.heap.size=i
 ·subst e;simp
 ·rw[zY e,zY (fun h=>e h.symm),zY (fun h=>e h.symm)]
theorem wK{z:Array Value}(Z:mW P ty z):(zeroValue ty).run P w=.ok (.agg z) w:=by
 unfold mW at Z;unfold zeroValue typeInfo;cases hq:P.info? ty with
 |none=>simp[hq]at Z
 |some i=>
  simp only[hq,Option.map_some,jN,jW]at Z
  simp[zH,hq,Z.1]
theorem lW{K:Act→World→Prop}{z:Array Value}(Z:mW P ty z)(ho:op.op=.alloc ty)(h:K (a.put op.dst (.pointer (some ⟨w.heap.size,0,none⟩))) (w.alloc (.cells z ty))):op.wp P a w K Q:=by
 unfold Oper.wp execOp;simp only[ho,Instr.alloc,newVar,newRow,newObj,zH,wK Z,Result.andThen_ok,Sem.run_pure];exact h
theorem kU{o1 o2:Oper}{z:Array Value}(A:lI P ty n)(Z:mW P ty z)(hz:z.size=n)(hn:ds.size=n)(h1:vI ds)(g1:o1.guard=none)(ho1:o1.op=.alloc ty)(g2:o2.guard=none)(x y:Operand)(ho2:o2.op=.store ty x y)
  (hx:(a.put o1.dst (.pointer (some ⟨w.heap.size,0,none⟩))).eval x=.pointer (some ⟨w.heap.size,0,none⟩)) (hy:(a.put o1.dst (.pointer (some ⟨w.heap.size,0,none⟩))).eval y=.agg ds)
  (h:wpList P ops Q rest ((a.put o1.dst (.pointer (some ⟨w.heap.size,0,none⟩))).put o2.dst undef) (w.alloc (.cells ds ty))):wpList P ops Q (o1::o2::rest) a w:=by
 refine zI g1 fun K hK=>lW Z ho1 (hK _ _ ?_);refine kX A (Blk.new w ty z) hz hn h1 g2 x y ho2 hx hy ?_;rw[rN];exact h
theorem mJ{cs:Array Value}{parts:Array (Nat×Operand)}(hgd:op.guard=none)(ho:op.op=.build ty parts)(hb:P.built ty (parts.map fun(i,x)=>(i,a.eval x)).toList=some cs)
  (h:wpList P ops Q rest (a.put op.dst (.agg cs)) w):wpList P ops Q (op::rest) a w:=
 wpList_build hgd ty parts ho (by rw[hb];rfl) (by rw[hb];exact h)
end
section
variable {P:Program} {ops:Array Oper} {C:World→Prop} {ty T:TypeId} {b o n:Nat} {cs:Array Value}
theorem m5{Q:Act→Prop}{op:Oper}{rest:List Oper}{a:Act}(hw:Region.wanted op (yielded ops a.tmps)=true)(v:Value)(h1:∀w,C w→(execOp a.eval op).run P w=.ok (.value v) w)(h:wpQuiet P ops C Q rest (a.put op.dst v)):wpQuiet P ops C Q (op::rest) a:=by
 simp only[wpQuiet,hw,if_true];exact⟨v,fun w hC=>by unfold Oper.quietAt;rw[h1 w hC];exact⟨rfl,rfl⟩,h⟩
theorem nJ{Q:Act→Prop}{op:Oper}{rest:List Oper}{a:Act}(A:lI P ty n)(H:∀w,C w→Blk b T cs w)(hn:cs.size=n)(hw:Region.wanted op (yielded ops a.tmps)=true)(x:Operand)(ho:op.op=.load ty x)(hx:a.eval x=.pointer (some ⟨b,0,none⟩))
  (h:wpQuiet P ops C Q rest (a.put op.dst (.agg cs))):wpQuiet P ops C Q (op::rest) a:=
 m5 hw _ (fun w hC=>nD A (H w hC) hn x ho hx) h
theorem mS{Q:Act→Prop}{op:Oper}{rest:List Oper}{a:Act}(A:lI P ty n)(H:∀w,C w→Blk b T cs w)(hn:o+n≤cs.size)(hw:Region.wanted op (yielded ops a.tmps)=true)(x:Operand)(ho:op.op=.load ty x)(hx:a.eval x=.pointer (some ⟨b,o,none⟩))
  (h:wpQuiet P ops C Q rest (a.put op.dst (.agg (cs.extract o (o+n))))):wpQuiet P ops C Q (op::rest) a:=
 m5 hw _ (fun w hC=>nV A (H w hC) hn x ho hx) h
theorem yL{Q:Act→Prop}{op:Oper}{rest:List Oper}{a:Act}{cs:Array Value}{parts:Array (Nat×Operand)}(hw:Region.wanted op (yielded ops a.tmps)=true)(ho:op.op=.build ty parts)(hb:P.built ty (parts.map fun(i,x)=>(i,a.eval x)).toList=some cs)
  (h:wpQuiet P ops C Q rest (a.put op.dst (.agg cs))):wpQuiet P ops C Q (op::rest) a:=
 m5 hw (.agg cs) (fun w _=>by
  unfold execOp;simp only[ho,zH,run_build w ty _ cs hb,Result.andThen_ok,Sem.run_pure]) h
end
def mZ(n:Nat)(f:Nat→Value):Array Value:=((List.range n).map f).toArray
section
variable {n:Nat} {f h:Nat→Value}
theorem lA:(mZ n f).size=n:=by simp[mZ]
theorem mQ{j:Nat}(hj:j<n):(mZ n f)[j]?=some (f j):=by simp[mZ,hj]
theorem pG{j:Nat}(hj:n≤j):(mZ n f)[j]?=none:=by simp[mZ];omega
theorem cE{c:Array Value}(hs:c.size=n)(hc:∀j,j<n→c[j]?=some (f j)):c=mZ n f:=by
 apply qM
 intro j
 by_cases hj:j<n
 ·rw[hc j hj,mQ hj]
 ·rw[pG oB,zO oB]
theorem cW(e:∀j,j<n→f j=h j):mZ n f=mZ n h:=cE lA fun j hj=>by rw[mQ hj,e j hj]
theorem lL(k:Nat)(v:Value)(e:∀j,j<n→h j=if j=k then v else f j):(mZ n f).setIfInBounds k v=mZ n h:=cE (by simp[mZ]) fun j hj=>by
 rw[jZ,lA,e j hj];by_cases hk:k=j
 ·subst hk;rw[zL rfl,zL hj,zL rfl]
 ·rw[zY hk,zY (fun c=>hk c.symm),mQ hj]
theorem mO{o m:Nat}{c:Array Value}(hm:c.size=m)(ho:o+m≤n)(e:∀j,j<m→c[j]?=some (f (o+j))):(mZ n f).extract o (o+m)=c:=by
 apply qM
 intro j
 rw[jQ,lA];by_cases hj:j<m
 ·rw[zL oB,mQ oB,e j hj]
 ·rw[zY oB,zO oB]
theorem vR{o:Nat}{c:Array Value}(ho:o+c.size≤n)(e1:∀j,j<c.size→c[j]?=some (h (o+j)))(e2:∀j,j<n→(j<o∨o+c.size≤j)→f j=h j):kW (mZ n f) o c=mZ n h:=by
 refine cE ?_ fun j hj=>?_
 ·unfold kW;simp[mZ];omega
 ·unfold kW;rw[zX];by_cases h1:j<o
  ·rw[zB,qX (by simp[mZ];omega),List.getElem?_take_of_lt h1,jJ,mQ hj,e2 j hj (.inl h1)]
  ·by_cases h2:j<o+c.size
   ·rw[zB,qZ (by simp[mZ];omega),qX (by simp[mZ];omega)];have hl:((mZ n f).toList.take o).length=o:=by simp[mZ];omega
    rw[hl,jJ,e1 (j-o) oB];congr 2
    omega
   ·rw[qZ (by simp[mZ];omega)];have hl:((mZ n f).toList.take o++c.toList).length=o+c.size:=by simp[mZ];omega
    rw[hl,jR,jJ,show o+c.size+(j-(o+c.size))=j by omega,mQ hj,e2 j hj (.inr oB)]
end
def lY(k c p y:Int):Array Value:=#[.int .i64 k,.int .i64 c,.int .i64 p,.int .i64 y]
theorem vA:lI Try.prog 30 4:=⟨⟨_,Try.underlying30,rfl⟩,by kernel_rfl⟩
theorem aE(k c p y:Int):vI (lY k c p y):=by unfold vI lY;simp[Value.oneCell']
section
variable {P:Program} {ops:Array Oper} {C:World→Prop}
end
end
section
namespace Num
open Go.RowKit
theorem xT(n:Int)(h₀:0≤n)(h₁:n<2^62):IntKind.i64.wrap n=n:=by rw[zS];omega
theorem tZ(n k:Int)(h:0≤n):n.tmod k=n%k:=Int.tmod_eq_emod_of_nonneg h
theorem oG{a:Int}(h:(Lit.int .u8 a).wf=true):0≤a∧a≤255:=by
 simp[Lit.wf,IntKind.min,IntKind.max,IntKind.signed,IntKind.bits]at h;omega
theorem bd_i64{a:Int}(h:(Lit.int .i64 a).wf=true): -9223372036854775808≤a∧a≤9223372036854775807:=by
 simp[Lit.wf,IntKind.min,IntKind.max,IntKind.signed,IntKind.bits]at h;omega
end Num
namespace Num
open Go.RowKit
def hi(r:BitVec 128):BitVec 64:=r.extractLsb' 64 64
def lo(r:BitVec 128):BitVec 64:=r.extractLsb' 0 64
theorem m8(h l:BitVec 64):hi (h++l)=h:=by
 apply BitVec.eq_of_getLsbD_eq
 intro i hi'
 simp only[hi,BitVec.getLsbD_extractLsb',BitVec.getLsbD_append];rw[zY oB,show 64+i-64=i by omega];simp[hi']
theorem m6(h l:BitVec 64):lo (h++l)=l:=by
 apply BitVec.eq_of_getLsbD_eq
 intro i hi'
 simp only[lo,BitVec.getLsbD_extractLsb',BitVec.getLsbD_append];rw[zL oB,show 0+i=i by omega];simp[hi']
theorem t5(r:BitVec 128):hi r++lo r=r:=by
 apply BitVec.eq_of_getLsbD_eq
 intro i hi'
 simp only[hi,lo,BitVec.getLsbD_extractLsb',BitVec.getLsbD_append];split
 ·rename_i h;simp[h]
 ·rename_i h
  rw[show 64+(i-64)=i by omega];simp;omega
theorem oX{h l h' l':BitVec 64}:h++l=h'++l'↔h=h'∧l=l':=
 ⟨fun e=>⟨by rw[←m8 h l,e,m8],by rw[←m6 h l,e,m6]⟩,fun⟨a,b⟩=>by rw[a,b]⟩
theorem dG(u:BitVec 64):BitVec.ofInt 64 (u.toNat:Int)=u:=by
 apply BitVec.eq_of_toNat_eq
 rw[BitVec.toNat_ofInt]
 have:=u.isLt;omega
theorem aR(u:BitVec 64):IntKind.u64.wrap (u.toNat:Int)=(u.toNat:Int):=by
 rw[IntKind.wrap_u64];have:=u.isLt;omega
theorem or64(u v:BitVec 64):bits .or .u64 (u.toNat:Int) (v.toNat:Int)=((u|||v).toNat:Int):=by
 show IntKind.u64.wrap (((BitVec.ofInt 64 (u.toNat:Int)|||BitVec.ofInt 64 (v.toNat:Int)).toNat:Nat):Int)=_;rw[dG,dG,aR]
def mv(r:BitVec 128)(n:Int):BitVec 128:=if n<0 then r<<<(-n).toNat else r>>>n.toNat
def bB(n:Int):BitVec 128:=mv (BitVec.allOnes 128) (n-128)
def tS(x:Int):BitVec 128:=mv (BitVec.twoPow 128 127) x
def px(r:BitVec 128)(x:Nat):Bool:=r.getMsbD x
theorem pS{r s:BitVec 128}(h:∀x,x<128→px r x=px s x):r=s:=BitVec.eq_of_getMsbD_eq h
theorem bX(r s:BitVec 128)(x:Nat):px (r&&&s) x=(px r x&&px s x):=BitVec.getMsbD_and
theorem bJ(r s:BitVec 128)(x:Nat):px (r^^^s) x=(px r x^^px s x):=BitVec.getMsbD_xor
theorem yG(x:Nat):px 0#128 x=false:=by simp[px]
def pxi(r:BitVec 128)(x:Int):Bool:=decide (0≤x)&&px r x.toNat
theorem oN(r:BitVec 128)(n:Int)(x:Nat)(hx:x<128):px (mv r n) x=pxi r (x-n):=by
 unfold mv px pxi px;split
 ·rw[BitVec.getMsbD_shiftLeft,zU oB,show((x:Int)-n).toNat=x+(-n).toNat by omega];rfl
 ·rw[BitVec.getMsbD_ushiftRight,zU hx];by_cases h:x<n.toNat
  ·rw[zU h,z0 oB];rfl
  ·rw[z0 h,zU oB,show((x:Int)-n).toNat=x-n.toNat by omega];rfl
theorem eP(n:Int)(x:Nat)(hx:x<128)(hn:n≤128):px (bB n) x=decide ((x:Int)<n):=by
 unfold bB;rw[oN _ _ _ hx,pxi,px,BitVec.getMsbD_allOnes,Bool.eq_iff_iff];simp;omega
theorem tD(n:Int)(x:Nat)(hx:x<128):px (tS n) x=decide ((x:Int)=n):=by
 unfold tS;rw[oN _ _ _ hx,pxi,px,BitVec.getMsbD_eq_getLsbD,BitVec.getLsbD_twoPow,Bool.eq_iff_iff];simp;omega
def pK(r:BitVec 128)(x:Int)(b:Bool):BitVec 128:=if b then(r^^^(r&&&tS x))^^^(bB 128&&&tS x)else r^^^(r&&&tS x)
theorem pF(r:BitVec 128)(x:Int)(b:Bool)(y:Nat)(hy:y<128):px (pK r x b) y=if(y:Int)=x then b else px r y:=by
 unfold pK;cases b
 ·rw[zY oP,bJ,bX,tD _ _ hy];split<;>rename_i h<;>simp[h]
 ·rw[zL rfl,bJ,bJ,bX,bX,tD _ _ hy,eP _ _ hy oR];split<;>rename_i h<;>simp[h]
  omega
end Num
namespace Num
open Go.RowKit
def V:List Nat→Nat
 |[]=>0
 |d::ds=>256*V ds+d
def t1(d:Nat):Nat:=(d/2&&&85)+(d&&&85)
def t2(d:Nat):Nat:=(d/4&&&51)+(d&&&51)
end Num
namespace Num
open Go.RowKit
theorem iX(r:BitVec 128)(i:Nat):pxi r (i:Int)=px r i:=by
 rw[pxi,zU oB,Bool.true_and,Int.toNat_natCast]
theorem set_get(r:BitVec 128)(x:Nat)(b:Bool)(hx:x<128):pxi (pK r x b) x=b:=by
 rw[iX,pF _ _ _ _ hx,zL rfl]
end Num
namespace Num
open Go.RowKit
abbrev Pl:=Nat→BitVec 128
end Num
namespace Num
open Go.RowKit
def acc(g:Nat→Bool):Nat→Nat
 |0=>0
 |k+1=>2*acc g k+(g k).toNat
theorem x7(g:Nat→Bool)(k:Nat):acc g k<2^k:=by
 induction k with
 |zero=>simp[acc]
 |succ k ih=>
  rw[acc,Nat.pow_succ]
  have:=Bool.toNat_le (g k)
  omega
theorem oW(g:Nat→Bool)(k j:Nat):(acc g k).testBit j=(decide (j<k)&&g (k-1-j)):=by
 induction k generalizing j with
 |zero=>simp[acc]
 |succ k ih=>
  rw[acc]
  cases j with
  |zero=>
   rw[Nat.testBit_zero]
   cases hg:g k<;>simp[hg]<;>omega
  |succ j=>
   rw[Nat.testBit_succ,show(2*acc g k+(g k).toNat)/2=acc g k by have:=Bool.toNat_le (g k);omega,ih j,show k+1-1-(j+1)=k-1-j by omega,
    show decide (j<k)=decide (j+1<k+1) by congr 1;simp]
def wd(g:Nat→Bool):BitVec 64:=BitVec.ofNat 64 (acc g 64)
theorem yP(g:Nat→Bool):(wd g).toNat=acc g 64:=by
 have:=x7 g 64;rw[wd,BitVec.toNat_ofNat,qR this]
theorem s7(g:Nat→Bool)(i:Nat)(hi:i<64):(wd g).getMsbD i=g i:=by
 rw[BitVec.getMsbD_eq_getLsbD,←BitVec.testBit_toNat,yP,oW,zU hi,zU oB,show 64-1-(64-1-i)=i by omega,Bool.true_and,Bool.true_and]
def fwd(f:Nat→Bool):Pl:=fun y=>wd (fun i=>f (128*y+i))++wd (fun i=>f (128*y+(64+i)))
theorem rE(f:Nat→Bool)(y x:Nat)(hx:x<128):px (fwd f y) x=f (128*y+x):=by
 unfold fwd px;rw[BitVec.getMsbD_append];split
 ·rw[s7 _ _ oB,show 64+(x-64)=x by omega]
 ·rw[s7 _ _ oB]
def rV(f:Nat→Bool)(m h:Nat):Prop:=∀i,f i=true→i%128<m∧i/128<h
theorem d8(g:Nat→Bool)(k:Nat)(h:g k=true):acc g (k+1)=2*acc g k+1:=by rw[acc,h];rfl
theorem rJ(g:Nat→Bool)(k:Nat)(h:g k=false):acc g (k+1)=2*acc g k:=by rw[acc,h];rfl
theorem pI(n m h:Nat)(hm:m≤128)(h0:0<m)(hn:n<m*h):(128*(n/m)+n%m)%128<m∧(128*(n/m)+n%m)/128<h∧128*(n/m)+n%m<128*h:=by
 have h1:n%m<m:=qI _ h0;have h2:n/m<h:=(Nat.div_lt_iff_lt_mul h0).2 (by rw[Nat.mul_comm];exact hn);have h3:(128*(n/m)+n%m)%128=n%m:=oB;have h4:(128*(n/m)+n%m)/128=n/m:=oB;rw[h3,h4];exact⟨h1,h2,by omega⟩
theorem sV{f:Nat→Bool}{m h:Nat}(hf:rV f m h)(p:Nat)(b:Bool)(h1:p%128<m)(h2:p/128<h):rV (fun i=>if i=p then b else f i) m h:=fun i hi=>by
 by_cases e:i=p
 ·subst e;exact⟨h1,h2⟩
 ·simp only[zY e]at hi;exact hf i hi
theorem yZ(m h:Nat):rV (fun _=>false) m h:=fun i hi=>by cases hi
end Num
end
section
open Go.RowKit Num
def lQ(P:Pl)(j:Nat):Int:=if j%2=0 then((hi (P (j/2))).toNat:Int)else((lo (P (j/2))).toNat:Int)
def j0(P:Pl):Array Value:=((List.range 128).map fun j=>Value.int .u64 (lQ P j)).toArray
theorem j1(P:Pl):(j0 P).size=128:=by simp[j0]
theorem kE(P:Pl)(j:Nat)(hj:j<128):(j0 P)[j]?=some (.int .u64 (lQ P j)):=by simp[j0,hj]
theorem v4(P:Pl)(y:Nat):lQ P (2*y)=((hi (P y)).toNat:Int):=by
 rw[lQ,zL oB,show 2*y/2=y by omega]
theorem cS(P:Pl)(y:Nat):lQ P (2*y+1)=((lo (P y)).toNat:Int):=by
 rw[lQ,zY oB,show(2*y+1)/2=y by omega]
theorem rC{P Q:Pl}(h:∀y,y<64→P y=Q y):j0 P=j0 Q:=by
 unfold j0;congr 1
 refine List.map_congr_left fun j hj=>?_
 have hj:=z9.1 hj;unfold lQ;rw[h (j/2) oB]
theorem cM(P:Pl):(j0 P).all (·.oneCell')=true:=by
 rw[qN];intro v hv;simp[j0]at hv;obtain⟨j,_,rfl⟩:=hv;rfl
def nI(P:Pl)(y:Nat)(r:BitVec 128):Pl:=fun j=>if j=y then r else P j
theorem mR(P:Pl)(y:Nat)(r:BitVec 128):nI P y r y=r:=by simp[nI]
theorem nE(P:Pl)(y j:Nat)(r:BitVec 128)(h:j≠y):nI P y r j=P j:=by simp[nI,h]
theorem uJ(P:Pl)(y:Nat)(h l:BitVec 64)(hy:y<64):((j0 P).setIfInBounds (2*y) (.int .u64 (h.toNat:Int))).setIfInBounds (2*y+1) (.int .u64 (l.toNat:Int))=j0 (nI P y (h++l)):=by
 apply qM
 intro j
 by_cases hj:j<128
 ·rw[kE _ _ hj,jZ,jZ];by_cases e1:2*y+1=j
  ·subst e1;rw[zL rfl,zL (by simp[j1];omega),cS,mR,m6]
  ·rw[zY e1];by_cases e0:2*y=j
   ·subst e0;rw[zL rfl,zL (by simp[j1];omega),v4,mR,m8]
   ·rw[zY e0,kE _ _ hj];unfold lQ;rw[nE _ _ _ _ oB]
 ·rw[zO (by simp[j1];omega),zO (by simp[j1];omega)]
def kO(b:Nat)(t:TypeId)(P:Pl)(w:World):Prop:=w.heap[b]?=some (.cells (j0 P) t (0,0))
section
variable {b:Nat} {t:TypeId} {P Q:Pl} {w w':World}
theorem kO.lt(H:kO b t P w):b<w.heap.size:=(qK.1 H).1
theorem kO.below(H:kO b t P w){n:Nat}(hb:Below n w w')(hn:b<n):kO b t P w':=(hb.block b hn).trans H
theorem kO.step(H:kO b t P w)(hb:Below w.heap.size w w'):kO b t P w':=H.below hb H.lt
theorem kO.new(w:World)(P:Pl)(t:TypeId):kO w.heap.size t P (w.alloc (.cells (j0 P) t)):=qP _ _
theorem kO.alloc(H:kO b t P w)(o:Obj):kO b t P (w.alloc o):=H.step ((zA _ _).alloc (zP _) _)
theorem kO.drew(H:kO b t P w):kO b t P w.drew:=H
theorem kO.congr(H:kO b t P w)(h:∀y,y<64→P y=Q y):kO b t Q w:=by
 unfold kO at*;rw[←rC h];exact H
theorem kO.other(H:kO b t P w){g:Nat}(hg:b≠g)(o:Nat)(v:Value):kO b t P (w.setCell ⟨g,o,none⟩ v):=(jM w ⟨g,o,none⟩ v b hg).trans H
theorem kO.otherRow(H:kO b t P w){g:Nat}(hg:b≠g)(cs:Array Value):kO b t P (w.setRow g cs):=(jL w g b cs hg).trans H
theorem kO.cell(H:kO b t P w)(j:Nat)(hj:j<128):w.cell? ⟨b,j,none⟩=some (.int .u64 (lQ P j)):=by
 rw[qO w b j (j0 P) t (0,0) H];exact kE P j hj
theorem kO.left(H:kO b t P w)(y:Nat)(hy:y<64):w.cell? ⟨b,y*2,none⟩=some (.int .u64 ((hi (P y)).toNat:Int)):=by
 rw[Nat.mul_comm y 2,H.cell _ oB,v4]
theorem kO.right(H:kO b t P w)(y:Nat)(hy:y<64):w.cell? ⟨b,y*2+1,none⟩=some (.int .u64 ((lo (P y)).toNat:Int)):=by
 rw[Nat.mul_comm y 2,H.cell _ oB,cS]
theorem kO.frozen(H:kO b t P w)(j:Nat):w.frozen? ⟨b,j,none⟩=false:=frozen_of_row w b j (j0 P) t H
theorem kO.store(H:kO b t P w)(Q:Pl):kO b t Q (w.setRow b (j0 Q)):=setRow_heap w b _ _ t (0,0) H
theorem kO.row(H:kO b t P w)(y:Nat)(hy:y<64)(h l:BitVec 64):kO b t (nI P y (h++l)) ((w.setCell ⟨b,y*2,none⟩ (.int .u64 (h.toNat:Int))).setCell ⟨b,y*2+1,none⟩ (.int .u64 (l.toNat:Int))):=by
 rw[Nat.mul_comm y 2];have e1:=setCell_eq_setRow w b (2*y) (j0 P) t (0,0) (.int .u64 (h.toNat:Int)) H;have H1:(w.setRow b ((j0 P).setIfInBounds (2*y) (.int .u64 (h.toNat:Int)))).heap[b]?=_:=setRow_heap w b _ _ t (0,0) H;have e2:=setCell_eq_setRow _ b (2*y+1) _ t (0,0) (.int .u64 (l.toNat:Int)) H1;rw[e1,e2,uJ P y h l hy];exact setRow_heap _ b _ _ t (0,0) H1
end
section
variable {P:Program}
theorem kR(t:TypeId)(d:TypeDesc)(xs:Array Value)(off sz:Nat)(w:World)(hd:(match d with| .struct _| .array _ _=>true|_=>false)=true)(hu:P.underlying t=some d)(hi:(P.info? t).map (·.size)=some sz):
  (part t xs off).run P w=.ok (.agg (xs.extract off (off+sz))) w:=by
 cases hq:P.info? t with
 |none=>simp[hq]at hi
 |some i=>
  have hs:i.size=sz:=oI
  have hagg:(isAgg t).run P w=.ok true w:=by
   unfold isAgg;rw[zH,z7 hu w];cases d<;>simp_all
  simp[part,zH,hagg,sizeOf,typeInfo,hq,hs]
end
end
section
open Go.RowKit
theorem tJ{P:Program}{id:Nat}{Q:Exit→Act→World→Prop}{a:Act}{w:World}{l:List Oper}(n:Nat)(hm:P.follows .mixedOrders=true)(hB:Region.lexTailB .any l.toArray n=true)
  (h:∀wd,wd=w.drew→wpStill P l.toArray wd (fun a'=>wpList P l.toArray Q (l.drop n) a' wd) (l.take n) a):(Code.region id l.toArray true).wp P Q a w:=
 wp_region_still_tail n hm hB (h w.drew rfl)
section
variable {P:Program} {ops:Array Oper} {C:World→Prop} {Q:Exit→Act→World→Prop} {md:Region.Mode}
def uO(P:Program)(ops:Array Oper)(C:World→Prop)(Q:Exit→Act→World→Prop)(c:Nat)(F:Act→World→Prop)(a:Act)(w:World):Prop:=
 match ops[c]? with
 |none=>False
 |some o=>if Region.wanted o (yielded ops a.tmps)then o.wp P a w (fun a'' w''=>C w''∧F a'' w'') Q else F (a.put o.dst undef) w
theorem wD{K K':Act→Prop}(hK:∀a,K a→K' a):∀(l:List Oper) (a:Act),wpQuiet P ops C K l a→wpQuiet P ops C K' l a:=by
 exact o7
theorem iR{c:Nat}{F G:Act→World→Prop}{a:Act}{w:World}(hC:C w)(h:uO P ops C Q c F a w)(hF:∀a w,C w→F a w→G a w):wpOp P ops Q c (fun a' w'=>C w'∧G a' w') a w:=by
 unfold uO at h;unfold wpOp;cases ho:ops[c]? with
 |none=>rw[ho]at h;exact h.elim
 |some o=>
  rw[ho]at h
  simp only at h⊢
  split
  ·rename_i hw
   simp only[hw,if_true]at h
   exact .inl (Oper.wp_mono (fun a'' w'' ⟨h1,h2⟩=>⟨h1,hF _ _ h1 h2⟩) h)
  ·rename_i hw
   simp only[hw]at h
   exact⟨hC,hF _ _ hC h⟩
end
end
section
open Go.RowKit Go.ChangeShapes Go.WideShapes Num
def u5(w:World)(A:Option Addr)(L:List Nat):Prop:=L≠[]→∃ad,A=some ad∧ad.block<w.heap.size∧∀j (h:j<L.length),w.cell? (ad.add j)=some (.int .u16 (L[j]:Int))
theorem gX(a:Addr)(n:Nat):(a.add n).block=a.block:=by unfold Addr.add;split<;>rfl
section
variable {w w':World} {A:Option Addr} {L:List Nat}
theorem u5.nil:u5 w A []:=fun h=>absurd rfl h
theorem u5.at_(h:u5 w A L){k:Nat}(hk:k<L.length):∃ad,A=some ad∧ad.block<w.heap.size∧w.cell? (ad.add k)=some (.int .u16 (L.getD k 0:Int)):=by
 obtain⟨ad,hA,hb,hc⟩:=h o0;exact⟨ad,hA,hb,by rw[hc k hk];simp[hk]⟩
theorem u5.below(h:u5 w A L)(hb:Below w.heap.size w w'):u5 w' A L:=fun hne=>by
 obtain⟨ad,hA,hlt,hc⟩:=h hne;exact⟨ad,hA,zG hlt hb.size,fun j hj=>(hb.cell (p:=ad.add j) (by rw[gX];exact hlt)).trans (hc j hj)⟩
end
section
variable {H:Type} {enc:TypeId×Value→H} {W:World} {r:Reach} {base:Nat}
end
end
section
theorem gH{α:Type}(L:List α)(off:Nat)(cs:List α)(h:off+cs.length≤L.length):(splice L off cs).length=L.length:=length_splice L off cs h
theorem gG{α:Type}(L:List α)(off:Nat)(cs:List α)(h:off+cs.length≤L.length)(j:Nat):
  (splice L off cs)[j]?=if j<off then L[j]? else if j<off+cs.length then cs[j-off]? else L[j]?:=by
 unfold splice;by_cases h1:j<off
 ·rw[zL h1,qX oA,List.getElem?_take,zL h1]
 ·rw[zY h1,qZ oA];have e:(L.take off).length=off:=by simp;omega
  rw[e];by_cases h2:j<off+cs.length
  ·rw[zL h2,qX oB]
  ·rw[zY h2,qZ oB,jR];congr 1
   omega
end
section
open Go.RowKit Num
def arr(L:List Int):Array Value:=(L.map (Value.int .u8)).toArray
theorem aL(L:List Int):(arr L).size=L.length:=by simp[arr]
theorem oJ(L:List Int)(j:Nat)(h:j<L.length):(arr L)[j]?=some (.int .u8 L[j]):=by simp[arr,h]
theorem wZ{X:List Int}{k:Nat}(h:k<X.length):X.take (k+1)=X.take k++[X[k]]:=by simp
theorem vP:(Try.prog.info? 5).map (fun i=>(i.zero,i.size,i.bytes))=some (some (.int .u8 0),1,1):=by kernel_rfl
structure lP(p:Nat)(g:Option Nat)(w w':World):Prop where
 os:w'.os=w.os
 tape:w'.tape=w.tape
 output:w'.output=w.output
 size:w.heap.size≤w'.heap.size
 block:∀k,k<w.heap.size→k≠p→some k≠g→w'.heap[k]?=w.heap[k]?
section
variable {p:Nat} {g:Option Nat} {u w w':World}
theorem lP.refl:lP p g w w:=⟨rfl,rfl,rfl,zP _,fun _ _ _ _=>rfl⟩
theorem lP.trans(h:lP p g u w)(k:lP p g w w'):lP p g u w':=
 ⟨k.os.trans h.os,k.tape.trans h.tape,k.output.trans h.output,zT h.size k.size,fun i hi h1 h2=>(k.block i (zG hi h.size) h1 h2).trans (h.block i hi h1 h2)⟩
theorem lP.drew(h:lP p g u w):lP p g u w.drew:=⟨h.os,h.tape,h.output,h.size,h.block⟩
theorem lP.of_below(h:Below w.heap.size w w'):lP p g w w':=⟨h.os,h.tape,h.output,h.size,fun k hk _ _=>h.block k hk⟩
theorem lP.setRow(cs:Array Value):lP p g w (w.setRow p cs):=⟨rfl,rfl,rfl,by simp[World.setRow],fun k hk hp _=>jL w p k cs hp⟩
theorem lP.setCell(o:Nat)(v:Value):lP p g w (w.setCell ⟨p,o,none⟩ v):=⟨rfl,rfl,rfl,by simp,fun k hk hp _=>jM w _ v k hp⟩
theorem lP.below(h:lP p g w w'){B:Nat}(hB:B≤w.heap.size)(hp:B≤p)(hg:∀k,g=some k→B≤k):Below B w w':=
 ⟨h.os,h.tape,h.output,h.size,fun k hk=>h.block k oB oB (fun e=>by have:=hg k e.symm;omega)⟩
end
def Rd(w:World)(A:Option Addr)(L:List Int):Prop:=L≠[]→∃ad,A=some ad∧ad.block<w.heap.size∧∀j (h:j<L.length),w.cell? (ad.add j)=some (.int .u8 L[j])
theorem v7(a:Addr)(n:Nat):(a.add n).block=a.block:=by unfold Addr.add;split<;>rfl
theorem oV(a:Addr)(i j:Nat):(a.add i).add j=a.add (i+j):=by
 unfold Addr.add;by_cases hi:i=0<;>by_cases hj:j=0<;>simp[hi,hj,qT]
theorem xO(g o j:Nat):(⟨g,o,none⟩:Addr).add j=⟨g,o+j,none⟩:=by unfold Addr.add;split<;>simp_all
section
variable {w w':World} {A:Option Addr} {L:List Int}
theorem Rd.nil:Rd w A []:=fun h=>absurd rfl h
theorem Rd.at_(h:Rd w A L){k:Nat}(hk:k<L.length):∃ad,A=some ad∧ad.block<w.heap.size∧w.cell? (ad.add k)=some (.int .u8 L[k]):=by
 obtain⟨ad,e,hb,hc⟩:=h o0;exact⟨ad,e,hb,hc k hk⟩
theorem Rd.block_lt'(h:Rd w A L)(hne:L≠[]){ad:Addr}(e:A=some ad):ad.block<w.heap.size:=by
 obtain⟨ad',e',hb,_⟩:=h hne;rw[e]at e';injection e' with e'
 rw[e'];exact hb
theorem Rd.keep(h:Rd w A L)(hs:w.heap.size≤w'.heap.size)(hk:∀ad,A=some ad→ad.block<w.heap.size→w'.heap[ad.block]?=w.heap[ad.block]?):Rd w' A L:=fun hne=>by
 obtain⟨ad,rfl,hb,hc⟩:=h hne;exact⟨ad,rfl,by omega,fun j hj=>(jG (a:=ad.add j) (by rw[v7];exact hk ad rfl hb)).trans (hc j hj)⟩
theorem Rd.below(h:Rd w A L)(hb:Below w.heap.size w w'):Rd w' A L:=fun hne=>by
 obtain⟨ad,rfl,hlt,hc⟩:=h hne;exact⟨ad,rfl,zG hlt hb.size,fun j hj=>(hb.cell (p:=ad.add j) (by rw[v7];exact hlt)).trans (hc j hj)⟩
theorem Rd.of_row(h:Row (Value.int .u8) w A L):Rd w A L:=fun hne=>by
 obtain⟨b,o,rfl,hb,hc⟩:=h hne;exact⟨_,rfl,hb,fun j hj=>by rw[xO];exact hc j hj⟩
theorem Rd.cut(h:Rd w A L){k cap:Nat}(hc:L.length≤cap):Rd w (if cap=k then A else A.map (·.add k)) (L.drop k):=fun hne=>by
 have hk:k<L.length:=by
  rcases jS k L.length with h1|h1
  ·exact h1
  ·exact absurd (List.drop_eq_nil_of_le h1) hne
 obtain⟨ad,rfl,hlt,hcell⟩:=h o0;rw[zY oB];refine⟨ad.add k,rfl,by rw[v7];exact hlt,fun j hj=>?_⟩;rw[jP]at hj;rw[oV,hcell (k+j) oB,List.getElem_drop]
end
theorem own_rd{w:World}{base:Nat}{e:TypeId}{n c:Nat}{A:Option Addr}{L:List Int}(h:w.ownsRow base e 1 (.slice A n c) n (L.map (Value.int .u8))):Rd w A L:=Rd.of_row (Row.of_own h)
theorem iN{w:World}{base size n:Nat}{e t:TypeId}{v:Value}{xs:List Value}{b:Nat}{cs:Array Value}{fr:Nat×Nat}(h:w.ownsRow base e size v n xs)(hb:w.heap[b]?=some (.cells cs t fr))(hne:e≠t):v.ownBlock≠some b:=by
 rcases h.2 with⟨rfl,_⟩|⟨g,cap,cur,rfl,_,hh,_⟩
 ·intro c;cases c
 ·intro c;injection c with c
  have c:g=b:=c;subst c;rw[hh]at hb;injection hb with hb
  injection hb with _ ht _
  exact hne ht
theorem eU{w:World}{base size n:Nat}{e:TypeId}{v:Value}{xs:List Value}(h:w.ownsRow base e size v n xs){b:Nat}(hb:v.ownBlock=some b):base≤b∧∃cs,w.heap[b]?=some (.cells cs e (0,0)):=by
 rcases h.2 with⟨rfl,_⟩|⟨g,cap,cur,rfl,hg,hh,_⟩
 ·cases hb
 ·injection hb with hb
  have hb:g=b:=hb;subst hb;exact⟨hg,cur,hh⟩
theorem r8{o:Oper}{a:Act}{w w':World}{K:Act→World→Prop}{Q:Exit→Act→World→Prop}(d s:Operand)
  (ho:o.op=.call {callee:=.builtin .copy,args:=#[d,s],argTypes:=#[27,27]}) (ty:TypeId) (ht:o.type=ty) (X Y r:Value) (hd:a.eval d=X) (hs:a.eval s=Y)
  (hrun:(Builtin.copy_ #[27,27] ty #[X,Y]).run Try.prog w=.ok r w') (t:Nat) (hdst:o.dst=some t) (h:K ⟨a.tmps.setIfInBounds t r,a.defers⟩ w'):o.wp Try.prog a w K Q:=by
 subst ht;replace h:K (a.put o.dst r) w':=by rw[hdst];exact h
 unfold Oper.wp;simp[execOp,ho,resolve,invoke,builtin,hd,hs,hrun,Result.andThen];exact h
theorem rB{w:World}(ty:TypeId)(p off n c:Nat)(dp:Option Addr)(hdp:0<n→dp=some ⟨p,off,none⟩)(A:Option Addr)(m k d:Nat)(hd:d=min m n)
  (L:List Int) (hL:L.length=m) (hR:Rd w A L) (cur:List Value) (t:TypeId) (hp:w.heap[p]?=some (.cells cur.toArray t (0,0))) (hn:off+n≤cur.length):
  ∃w',(Builtin.copy_ #[27,27] ty #[.slice dp n c,.slice A m k]).run Try.prog w=.ok (.int .i64 (d:Int)) w'∧w'.heap[p]?=some (.cells (splice cur off ((L.take n).map (Value.int .u8))).toArray t (0,0))∧∀g,lP p g w w':=by
 have hl:((L.take n).map (Value.int .u8)).length=d:=by rw[z6,qH,hL,hd];exact Nat.min_comm _ _
 have hu:Try.prog.underlying 27=some (.slice 5):=Try.underlying27;have hz:(Try.prog.info? 5).map (·.size)=some 1:=oT;have hmn:Nat.min m n=d:=hd.symm;by_cases h0:d=0
 ·have hrun:=run_copy_none (P:=Try.prog) w 27 27 ty 5 dp A n c m k hu hz (by rw[hmn,h0]);have e0:L.take n=[]:=qB (by rw[z6]at hl;omega);refine⟨w,by rw[hrun,h0];rfl,by rw[e0];simpa [splice]using hp,fun g=>lP.refl⟩
 ·obtain rfl:=hdp oB;obtain⟨ad,rfl,hb,hc⟩:=hR (by rintro rfl;simp at hL;omega);have hrun:=run_copy_row (P:=Try.prog) w 27 27 ty 5 p off n c ad m k cur.toArray t ((L.take n).map (Value.int .u8)) hu hz hp (by rw[hl,hmn])
   (fun j x hx=>by
    rw[qJ]at hx;by_cases hj:j<(L.take n).length
    ·rw[z8 hj]at hx;have hj2:j<L.length:=by rw[qH]at hj;omega
     rw[hc j hj2,←hx,jD];rfl
    ·rw[z3 oB]at hx;cases hx)
   (by rw[hl];simp;omega) (fun x hx=>by obtain⟨y,_,rfl⟩:=jX.1 hx;rfl)
  have e1:cur.toArray.toList.take off++(L.take n).map (Value.int .u8)++cur.toArray.toList.drop (off+((L.take n).map (Value.int .u8)).length)=splice cur off ((L.take n).map (Value.int .u8)):=by
   unfold splice;rw[zB]
  rw[e1,hl]at hrun;exact⟨_,hrun,setRow_heap w p _ _ _ _ hp,fun g=>lP.setRow _⟩
theorem wS(L:List Int):∀u∈L.map (Value.int .u8),u.oneCell'=true:=fun u hu=>by
 obtain⟨y,_,rfl⟩:=jX.1 hu;rfl
theorem uQ{w:World}{ad:Addr}{L:List Int}(hc:∀j (h:j<L.length),w.cell? (ad.add j)=some (.int .u8 L[j])):∀j u,(L.map (Value.int .u8))[j]?=some u→w.cell? (ad.add j)=some u:=fun j u hu=>by
 rw[qJ]at hu;by_cases hj:j<L.length
 ·rw[z8 hj]at hu;rw[hc j hj];exact hu
 ·rw[z3 oB]at hu;cases hu
theorem bY(n:Nat)(x:Int)(hx:x=n)(hn:n≤1000000)(w:World):(Instr.makeSlice 27 (.int .i64 x) (.int .i64 x)).run Try.prog w=.ok (.slice (some ⟨w.heap.size,0,none⟩) n n) (w.alloc (.cells (arr (List.replicate n 0)) 5)):=by
 subst hx;obtain⟨i0,hi,hz0,hz1,hz2⟩:=jB vP;have h:=run_make_row (P:=Try.prog) 27 5 i0 (.int .u8 0) Try.underlying27 hi hz0 hz1 rfl .i64 .i64 n (by rw[hz2];omega) oB w;rw[h];congr 3
 apply Array.ext'
 unfold arr
 rw[toList_madeCells_one,List.map_replicate]
end
section
open Go.RowKit
def eqP(P Q:Nat→Int):Bool:=(List.range' 0 16).all fun j=>decide (P j=Q j)
theorem dF(P Q:Nat→Int):eqP P Q=true↔∀j,j<16→P j=Q j:=by
 unfold eqP;rw[z4];constructor
 ·intro h j hj;exact qS (h j (by rw[qY];omega))
 ·intro h j hj;rw[qY]at hj;exact zU (h j oB)
def cH(P:Nat→Int):List Int:=(List.range 16).map P
theorem nU(P:Nat→Int):(cH P).length=16:=by simp[cH]
theorem t4(P:Nat→Int)(j:Nat)(h:j<16)(h':j<(cH P).length):(cH P)[j]=P j:=by simp[cH]
end
section
open Go.RowKit Num
def pc(P:Nat→Int):Array Value:=((List.range 16).map fun j=>Value.int .u8 (P j)).toArray
theorem iM(P:Nat→Int):(pc P).size=16:=by simp[pc]
theorem pO(P:Nat→Int)(j:Nat)(hj:j<16):(pc P)[j]?=some (.int .u8 (P j)):=by simp[pc,hj]
theorem aH:lI Try.prog 37 16:=⟨⟨_,Try.underlying37,rfl⟩,by kernel_rfl⟩
theorem jI(w:World)(o:Obj):Below w.heap.size w (w.alloc o):=(zA _ _).alloc (zP _) _
theorem rO(x y:Int)(d:Nat)(w:World):(Op.equalIn (d+1) 5 (.int .u8 x) (.int .u8 y)).run Try.prog w=.ok (decide (x=y)) w:=by
 have e:(x==y)=decide (x=y):=by by_cases h:x=y<;>simp[h]
 rw[←e];simp[Op.equalIn,z7 Try.underlying5,go_sem]
theorem wF(P:Nat→Int)(j:Nat)(hj:j<16)(w:World):(part 5 (pc P) j).run Try.prog w=.ok (.int .u8 (P j)) w:=by
 simp[part,isAgg,zH,z7 Try.underlying5,pO P j hj]
theorem gT(P Q:Nat→Int)(D:Nat)(hD:∀(x y:Int) (w:World),(Op.equalIn D 5 (.int .u8 x) (.int .u8 y)).run Try.prog w=.ok (decide (x=y)) w)(w:World):
  (Op.equalIn (D+1) 37 (.agg (pc P)) (.agg (pc Q))).run Try.prog w=.ok (eqP P Q) w:=by
 have hi:(Try.prog.info? 5).map (·.size)=some 1:=oT;cases hq:Try.prog.info? 5 with
 |none=>simp[hq]at hi
 |some i=>
  have hs:i.size=1:=oI
  simp only[Op.equalIn,zH,z7 Try.underlying37,Result.andThen_ok,sizeOf,typeInfo,hq,hs,Sem.run_pure]
  have go:∀l:List Nat,(∀i∈l,i<16)→(forIn (m:=Sem) l ((none:Option Bool),()) (fun i _=>do
      let a←part 5 (pc P) i
      let b←part 5 (pc Q) i
      let r←Op.equalIn D 5 a b
      if r=false then pure (ForInStep.done (some false,()))else pure (ForInStep.yield (none,())))).run Try.prog w=.ok ((if l.all (fun j=>decide (P j=Q j))then none else some false),()) w:=by
   intro l;induction l with
   |nil=>intro _;simp
   |cons k l ih=>
    intro hl
    simp only[List.forIn_cons,zH,wF P k (hl k oP),wF Q k (hl k oP),Result.andThen_ok,hD]
    by_cases hk:P k=Q k
    ·simp[hk]
     have:=ih fun i hi=>hl i (by simp[hi])
     simpa using this
    ·simp[hk]
  have hgo:=go (List.range' 0 16) fun i hi=>by have:=qY.1 hi;omega
  simp[zH,hq,hs,Std.Legacy.Range.forIn_eq_forIn_range']at hgo⊢
  rw[hgo]
  unfold eqP
  have ha:(List.range' 0 16).all (fun j=>decide (P j=Q j))=true↔∀x,x<16→P x=Q x:=by simp[z4,qY]
  by_cases hall:∀x,x<16→P x=Q x
  ·rw[ha.2 hall];simp only[Result.andThen_ok,zL hall];simp
  ·cases hb:(List.range' 0 16).all fun j=>decide (P j=Q j)
   ·simp only[Result.andThen_ok,zY hall];simp
   ·exact absurd (ha.1 hb) hall
theorem wJ(P Q:Nat→Int)(d:Nat)(w:World):(Op.equalIn (d+2) 37 (.agg (pc P)) (.agg (pc Q))).run Try.prog w=.ok (eqP P Q) w:=gT P Q (d+1) (fun x y w=>rO x y d w) w
end
section
namespace Dec
inductive Pk|pNone|pX|pN|pXY|pXYN|pXNN|pAddr|pXAddr|pPlanes|pNext
def pkN:Pk→Nat
 |.pNone=>0
 |.pX=>1
 |.pN=>2
 |.pXY=>3
 |.pXYN=>4
 |.pXNN=>5
 |.pAddr=>6
 |.pXAddr=>7
 |.pPlanes=>8
 |.pNext=>9
theorem iL(a b:Pk)(h:pkN a=pkN b):a=b:=by cases a<;>cases b<;>first|rfl|cases h
instance:DecidableEq Pk:=fun a b=>decidable_of_iff (pkN a=pkN b) ⟨iL a b,fun h=>by rw[h]⟩
structure Rl where
 mask:Nat
 code:Nat
 op:Nat
 level:Nat
 pk:Pk
instance:DecidableEq Rl:=fun a b=>decidable_of_iff (a.mask=b.mask∧a.code=b.code∧a.op=b.op∧a.level=b.level∧a.pk=b.pk) ⟨fun⟨h1,h2,h3,h4,h5⟩=>by cases a;cases b;simp only at h1 h2 h3 h4 h5;subst h1 h2 h3 h4 h5;rfl,fun h=>by rw[h];exact⟨rfl,rfl,rfl,rfl,rfl⟩⟩
def noRl:Rl:=⟨0,0,0,0,.pNone⟩
def rls:List Rl:=[
 ⟨65535,224,1,1,.pNone⟩,
 ⟨65535,238,2,1,.pNone⟩,
 ⟨61440,4096,3,1,.pAddr⟩,
 ⟨61440,8192,4,1,.pAddr⟩,
 ⟨61440,12288,5,1,.pXNN⟩,
 ⟨61440,16384,6,1,.pXNN⟩,
 ⟨61455,20480,7,1,.pXY⟩,
 ⟨61440,24576,8,1,.pXNN⟩,
 ⟨61440,28672,9,1,.pXNN⟩,
 ⟨61455,32768,10,1,.pXY⟩,
 ⟨61455,32769,11,1,.pXY⟩,
 ⟨61455,32770,12,1,.pXY⟩,
 ⟨61455,32771,13,1,.pXY⟩,
 ⟨61455,32772,14,1,.pXY⟩,
 ⟨61455,32773,15,1,.pXY⟩,
 ⟨61455,32774,16,1,.pXY⟩,
 ⟨61455,32775,17,1,.pXY⟩,
 ⟨61455,32782,18,1,.pXY⟩,
 ⟨61455,36864,19,1,.pXY⟩,
 ⟨61440,40960,20,1,.pAddr⟩,
 ⟨61440,45056,21,1,.pXAddr⟩,
 ⟨61440,49152,22,1,.pXNN⟩,
 ⟨61455,53248,41,2,.pXY⟩,
 ⟨61440,53248,23,1,.pXYN⟩,
 ⟨61695,57502,24,1,.pX⟩,
 ⟨61695,57505,25,1,.pX⟩,
 ⟨61695,61447,26,1,.pX⟩,
 ⟨61695,61450,27,1,.pX⟩,
 ⟨61695,61461,28,1,.pX⟩,
 ⟨61695,61464,29,1,.pX⟩,
 ⟨61695,61470,30,1,.pX⟩,
 ⟨61695,61481,31,1,.pX⟩,
 ⟨61695,61491,32,1,.pX⟩,
 ⟨61695,61525,33,1,.pX⟩,
 ⟨61695,61541,34,1,.pX⟩,
 ⟨65520,192,35,2,.pN⟩,
 ⟨65535,251,36,2,.pNone⟩,
 ⟨65535,252,37,2,.pNone⟩,
 ⟨65535,253,38,2,.pNone⟩,
 ⟨65535,254,39,2,.pNone⟩,
 ⟨65535,255,40,2,.pNone⟩,
 ⟨61695,61488,42,2,.pX⟩,
 ⟨61695,61557,43,2,.pX⟩,
 ⟨61695,61573,44,2,.pX⟩,
 ⟨65520,208,45,3,.pN⟩,
 ⟨61455,20482,46,3,.pXY⟩,
 ⟨61455,20483,47,3,.pXY⟩,
 ⟨65535,61440,48,3,.pNext⟩,
 ⟨61695,61441,49,3,.pPlanes⟩,
 ⟨65535,61442,50,3,.pNone⟩,
 ⟨61695,61498,51,3,.pX⟩]
def fit(n:Nat)(r:Rl):Bool:=Nat.beq (Nat.land n r.mask) r.code
def oL(n:Nat):List Rl→Rl
 |[]=>noRl
 |r::rs=>bif fit n r then r else oL n rs
def top(n:Nat):Rl:=oL n rls
structure Ins where
 op:Int
 x:Int
 y:Int
 n:Int
 nn:Int
 addr:Int
 len:Int
instance:DecidableEq Ins:=fun a b=>decidable_of_iff (a.op=b.op∧a.x=b.x∧a.y=b.y∧a.n=b.n∧a.nn=b.nn∧a.addr=b.addr∧a.len=b.len) ⟨fun⟨h1,h2,h3,h4,h5,h6,h7⟩=>by cases a;cases b;simp only at h1 h2 h3 h4 h5 h6 h7;subst h1 h2 h3 h4 h5 h6 h7;rfl,fun h=>by rw[h];exact⟨rfl,rfl,rfl,rfl,rfl,rfl,rfl⟩⟩
def pX(p:Pk)(x:Int):Int:=match p with| .pX| .pXY| .pXYN| .pXNN| .pXAddr=>x|_=>0
def pN(p:Pk)(x n:Int):Int:=match p with| .pN| .pXYN=>n| .pPlanes=>x|_=>0
def alwF(l x:Int):Bool:=decide ((l=2∧0≤x∧x≤7)∨(l=3∧0≤x∧x≤15))
def alw(r:Rl)(l x:Int):Bool:=bif (r.op==43||r.op==44)then alwF l x else(decide ((r.level:Int)≤l)&&decide (l≤3))
def dx(h:Nat):Nat:=h%16
def ok(b0 b1:Nat)(l:Int):Bool:=(top (b0*256+b1)).op !=0&&alw (top (b0*256+b1)) l (dx b0:Nat)
end Dec
end
section
open Go.RowKit Dec

section
variable {ops:Array Oper} {C:World→Prop} {i j:Ins}
end
end
section
open Go.RowKit
section
variable {P:Program} {ops:Array Oper} {rest:List Oper} {o:Oper} {a:Act} {w:World} {Q:Exit→Act→World→Prop}
theorem kT(hgd:o.guard=none)(ty:TypeId)(x:Operand)(ho:o.op=.box ty x)(cs:Array Value)(hx:a.eval x=.agg cs)
  (h:wpList P ops Q rest (a.put o.dst (.pointer (some ⟨w.heap.size,0,none⟩))) (w.alloc (.cells cs ty))):wpList P ops Q (o::rest) a w:=by
 refine zI hgd fun K hK=>?_;unfold Oper.wp execOp;simp only[ho,hx,Instr.box,newVar,newRow,newObj,zH,Result.andThen_ok,Sem.run_pure];exact hK _ _ h
end
end
section
open Go.RowKit Num
theorem uU(w:World)(ty:TypeId)(base:Nat)(v:Value)(n:Nat)(L0:List Int)(hown:w.ownsRow base 5 1 v n (L0.map (Value.int .u8)))(A:Option Addr)(m c:Nat)(L:List Int)(hR:Rd w A L)(hL:L.length=m)
  (h63:n+m≤1000000) (hbase:base≤w.heap.size):
  ∃v' w',(Builtin.append_ #[27,27] ty #[v,.slice A m c]).run Try.prog w=.ok v' w'∧w'.ownsRow base 5 1 v' (n+m) ((L0++L).map (Value.int .u8))∧w.grownBy w' v.ownBlock:=by
 obtain⟨i0,hi,hz0,hz1,hz2⟩:=jB vP;rcases A with _|ad
 ·have hm:m=0:=by
   rcases Nat.eq_zero_or_pos m with h|h
   ·exact h
   ·obtain⟨ad,e,_⟩:=hR (by rintro rfl;simp at hL;omega);cases e
  subst hm;obtain rfl:L=[]:=qB hL;refine⟨v,w,?_,by simpa using hown,World.grownBy.refl w _⟩;rcases hown.2 with⟨rfl,rfl⟩|⟨g,cap,cur,rfl,_,_,hnc,_⟩
  ·simp[Builtin.append_,z7 Try.underlying27,sizeOf,typeInfo,hi,Builtin.lenOf,Builtin.firstCells]
  ·simp[Builtin.append_,z7 Try.underlying27,sizeOf,typeInfo,hi,Builtin.lenOf,Builtin.firstCells,hnc,storeCells]
 ·have hc:∀j u,(L.map (Value.int .u8))[j]?=some u→w.cell? (ad.add j)=some u:=by
   by_cases hne:L=[]
   ·subst hne;intro j u hu;simp at hu
   ·obtain⟨ad',e,_,hc⟩:=hR hne;injection e with e
    subst e;exact uQ hc
  obtain⟨v',w',hrun,h2,h3,_,_⟩:=run_append_own_at (P:=Try.prog) w base 27 ty 5 i0 (.int .u8 0) 1 1 Try.underlying27 hi hz0 hz1 hz2 rfl oB v n _ hown ad m c (L.map (Value.int .u8)) (by rw[z6];omega) hc (wS L) oE oB hbase;exact⟨v',w',hrun,by rw[qD];exact h2,h3⟩
theorem rY{w:World}{o:Oper}{a:Act}{K:Act→World→Prop}{Q:Exit→Act→World→Prop}(s x:Operand)
  (ho:o.op=.call {callee:=.builtin .append,args:=#[s,x],argTypes:=#[27,27]}) (base:Nat) (v:Value) (n:Nat) (L0:List Int) (hs:a.eval s=v) (hown:w.ownsRow base 5 1 v n (L0.map (Value.int .u8)))
  (A:Option Addr) (m c:Nat) (L:List Int) (hx:a.eval x=.slice A m c) (hR:Rd w A L) (hL:L.length=m) (h63:n+m≤1000000) (hbase:base≤w.heap.size) (t:Nat) (hdst:o.dst=some t)
  (h:∀v' w',w'.ownsRow base 5 1 v' (n+m) ((L0++L).map (Value.int .u8))→w.grownBy w' v.ownBlock→K ⟨a.tmps.setIfInBounds t v',a.defers⟩ w'):o.wp Try.prog a w K Q:=by
 obtain⟨v',w',hrun,h2,h3⟩:=uU w o.type base v n L0 hown A m c L hR hL h63 hbase;have hk:=h v' w' h2 h3;replace hk:K (a.put o.dst v') w':=by rw[hdst];exact hk
 exact o9
structure j5(O:Nat→Prop)(w w':World):Prop where
 os:w'.os=w.os
 tape:w'.tape=w.tape
 output:w'.output=w.output
 size:w.heap.size≤w'.heap.size
 block:∀k,k<w.heap.size→¬O k→w'.heap[k]?=w.heap[k]?
def uP(O O':Nat→Prop)(n:Nat):Prop:=∀k,O' k→O k∨n≤k
section
variable {O O' O2:Nat→Prop} {u w w':World} {n m:Nat}
theorem uP.refl:uP O O n:=fun _ h=> .inl h
theorem uP.trans(h:uP O O' n)(h2:uP O' O2 m)(hm:n≤m):uP O O2 n:=fun k hk=>by
 rcases h2 k hk with h3|h3
 ·exact h k h3
 ·exact .inr (zT hm h3)
theorem uP.away(h:uP O O' n){k:Nat}(hk:k<n)(ho:¬O k):¬O' k:=fun c=>by
 rcases h k c with h1|h1
 ·exact ho h1
 ·omega
theorem j5.refl:j5 O w w:=⟨rfl,rfl,rfl,zP _,fun _ _ _=>rfl⟩
theorem j5.mono(h:j5 O w w')(ho:∀k,k<w.heap.size→O k→O' k):j5 O' w w':=⟨h.os,h.tape,h.output,h.size,fun k hk hn=>h.block k hk fun c=>hn (ho k hk c)⟩
theorem j5.trans(h:j5 O u w)(k:j5 O' w w')(hg:uP O O' u.heap.size):j5 O u w':=
 ⟨k.os.trans h.os,k.tape.trans h.tape,k.output.trans h.output,zT h.size k.size,fun i hi hn=>(k.block i (zG hi h.size) (hg.away hi hn)).trans (h.block i hi hn)⟩
theorem j5.of_below(h:Below w.heap.size w w'):j5 O w w':=⟨h.os,h.tape,h.output,h.size,fun k hk _=>h.block k hk⟩
theorem j5.of_apart{p:Nat}{g:Option Nat}(h:lP p g w w'):j5 (fun k=>k=p∨some k=g) w w':=⟨h.os,h.tape,h.output,h.size,fun k hk hn=>h.block k hk (fun e=>hn (.inl e)) (fun e=>hn (.inr e))⟩
theorem j5.below(h:j5 O w w'){B:Nat}(hB:B≤w.heap.size)(ho:∀k,O k→B≤k):Below B w w':=
 ⟨h.os,h.tape,h.output,h.size,fun k hk=>h.block k oB fun c=>by have:=ho k c;omega⟩
theorem j5.cell(h:j5 O w w'){a:Addr}(ha:a.block<w.heap.size)(hn:¬O a.block):w'.cell? a=w.cell? a:=jG (h.block _ ha hn)
theorem Rd.kept{A:Option Addr}{L:List Int}(h:Rd w A L)(k:j5 O w w')(hn:∀ad,A=some ad→¬O ad.block):Rd w' A L:=h.keep k.size fun ad e hlt=>k.block _ hlt (hn ad e)
theorem j2{base size len:Nat}{e:TypeId}{v:Value}{xs:List Value}(h:w.ownsRow base e size v len xs)(k:j5 O w w')(hn:∀b,v.ownBlock=some b→¬O b):w'.ownsRow base e size v len xs:=by
 refine⟨h.1,h.2.imp id ?_⟩;rintro⟨b,cap,cur,rfl,hb,hh,r⟩;exact⟨b,cap,cur,rfl,hb,(k.block b (qK.1 hh).1 (hn b rfl)).trans hh,r⟩
end
end
end Go.Proofs.Ytilideoeaecoaaa
