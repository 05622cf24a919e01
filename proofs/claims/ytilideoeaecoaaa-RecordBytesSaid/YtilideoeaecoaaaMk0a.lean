/- Calm, Row, Mix, Blk, Rng, StaD, Plain, Num, PixNum, PopNum, PixMath, PlaneNum, PlaneFwd, PlaneBox, Tail, Fork, Words16, Spl, Arr, Byt, AudNum, Pat, DecNum, InsV, InsEq, Cells, AppRd, Kept. -/
import Derived.Test.YtilideoeaecoaaaRows
import Derived.Test.YtilideoeaecoaaaProg
import Derived.Test.YtilideoeaecoaaaMn
set_option maxRecDepth 400000
set_option maxHeartbeats 64000000
set_option linter.unusedVariables false
set_option linter.unusedSimpArgs false
namespace Go.Proofs.Ytilideoeaecoaaa
section
open Go.RowKit
def m4(W:World):Type:={w':World//Below W.heap.size W w'}
def m4.w{W:World}(x:m4 W):World:=x.1
theorem m4.below{W:World}(x:m4 W):Below W.heap.size W x.w:=x.2
instance(W:World):Nonempty (m4 W):=⟨⟨W,zU _ _⟩⟩
theorem m4.cell{W:World}{b o:Nat}{v:Value}(h:W.cell? ⟨b,o,none⟩=some v)(hb:b<W.heap.size)(x:m4 W):x.w.cell? ⟨b,o,none⟩=some v:=
 (x.below.cell (p:=⟨b,o,none⟩) hb).trans h
theorem nR{P:Program}{id:Nat}{l:List Oper}{Q:Exit→Act→World→Prop}{a:Act}{W:World}(hm:P.follows .mixedOrders=true)(hB:Region.lexB .any l.toArray=true)
  (h:wpQuiet P l.toArray (fun w'=>∃x:m4 W,w'=x.w) (fun a'=>∀w',(∃x:m4 W,w'=x.w)→Q .normal a' w') l a):(Code.region id l.toArray true).wp P Q a W:=
 wp_region_quiet (C:=fun w'=>∃x:m4 W,w'=x.w) hm hB ⟨⟨W.drew,(zU _ _).drew⟩,rfl⟩ (by simpa using h)
theorem pV{P:Program}{f:FuncId}{args:Array Value}{v:Value}{W:World}{x:m4 W}(h:Calls P f args x.w fun e w'=>e=.returned v∧Below x.w.heap.size x.w w'):
  Calls P f args x.w fun e w''=>e=.returned v∧∃y:m4 W,w''=y.w:=
 h.mono fun _ w' ⟨he,hb⟩=>⟨he,⟨w',x.below.trans (hb.mono x.below.size)⟩,rfl⟩
def v9(B:Nat)(W:World):Type:={w':World//Below B W w'}
def v9.w{B:Nat}{W:World}(x:v9 B W):World:=x.1
theorem v9.below{B:Nat}{W:World}(x:v9 B W):Below B W x.w:=x.2
instance(B:Nat)(W:World):Nonempty (v9 B W):=⟨⟨W,zU _ _⟩⟩
theorem v9.cell{B:Nat}{W:World}{b o:Nat}{v:Value}(h:W.cell? ⟨b,o,none⟩=some v)(hb:b<B)(x:v9 B W):x.w.cell? ⟨b,o,none⟩=some v:=(x.below.cell (p:=⟨b,o,none⟩) hb).trans h
def Row{α:Type}(enc:α→Value)(w:World)(A:Option Addr)(L:List α):Prop:=
 L≠[]→∃b o,A=some ⟨b,o,none⟩∧b<w.heap.size∧∀j (h:j<L.length),w.cell? ⟨b,o+j,none⟩=some (enc L[j])
section
variable {α:Type} {enc:α→Value} {w w':World} {A:Option Addr} {L:List α}
theorem Row.nil:Row enc w A []:=fun h=>absurd rfl h
theorem Row.at_(h:Row enc w A L){k:Nat}(hk:k<L.length):∃b o,A=some ⟨b,o,none⟩∧b<w.heap.size∧w.cell? ⟨b,o+k,none⟩=some (enc L[k]):=by
 obtain⟨b,o,hA,hb,hc⟩:=h ZV;exact⟨b,o,hA,hb,hc k hk⟩
theorem Row.below(h:Row enc w A L)(hb:Below w.heap.size w w'):Row enc w' A L:=fun hne=>by
 obtain⟨b,o,hA,hlt,hc⟩:=h hne;exact⟨b,o,hA,zG hlt hb.size,fun j hj=>(hb.cell (p:=⟨b,o+j,none⟩) hlt).trans (hc j hj)⟩
theorem Row.of_own{base:Nat}{e:TypeId}{n c:Nat}(h:w.ownsRow base e 1 (.slice A n c) n (L.map enc)):Row enc w A L:=fun hne=>by
 have hl:L.length=n:=by have:=h.1;simpa using this
 have hpos:0<n:=by rw[←hl];exact List.length_pos_iff.2 hne
 obtain⟨g,cap,hv,_,hlt⟩:=h.form hpos;have hA:A=some ⟨g,0,none⟩:=by injection hv
 subst hA;refine⟨g,0,rfl,hlt,fun j hj=>?_⟩;have:=h.cellAt (g:=g) j oD;rw[zI,this];simp[hj]
end
theorem mN{w:World}{base n:Nat}{e:TypeId}{v:Value}{xs:List Value}(h:w.ownsRow base e 1 v n xs):∃A cap,v=.slice A n cap:=by
 rcases h.2 with⟨rfl,rfl⟩|⟨g,cap,cur,rfl,_⟩
 ·exact⟨none,0,rfl⟩
 ·exact⟨_,cap,rfl⟩
section
variable {P:Program} {ops:Array Oper} {C:World→Prop} {Q:Exit→Act→World→Prop} {md:Region.Mode}
def nH:Op→Bool
 |.move _| .assign _| .pick ..| .binOp ..| .unOp ..| .slice ..| .convert ..| .index ..| .indexAddr ..| .load ..| .fieldAddr ..| .field ..| .extract ..| .nilCheck _| .build ..=>true
 |.call c=>match c.callee with| .builtin .len| .builtin .cap=>true|_=>false
 |_=>false
theorem cU{s:Sem Value}{w w':World}{n:Next}(hr:(Sem.run P (do pure (.value (←s)):Sem Next) w)=.ok n w'):∃u,n=.value u:=by
 rw[zH]at hr;cases h:s.run P w with
 |ok u w1=>rw[h]at hr;simp[Result.andThen]at hr;exact⟨u,hr.1.symm⟩
 |halt x w1=>rw[h]at hr;simp[Result.andThen]at hr
theorem gK{o:Oper}{ρ:Operand→Value}{w w':World}{n:Next}(h:nH o.op=true)(hr:(execOp ρ o).run P w=.ok n w'):∃u,n=.value u:=by
 obtain⟨dst,op,ty,pos,after,guard⟩:=o;cases op
 case call c=>
  obtain⟨callee,args,ats⟩:=c
  cases callee
  case builtin b=>
   cases b<;>simp[nH]at h
   all_goals
    rw[BigFrame.execOp_builtin]at hr
    first|rw[BigFrame.builtin_len]at hr|rw[BigFrame.builtin_cap]at hr
    exact cU hr
  all_goals simp[nH]at h
 case move x=>unfold execOp at hr;simp at hr;exact⟨_,hr.1.symm⟩
 case assign x=>unfold execOp at hr;simp at hr;exact⟨_,hr.1.symm⟩
 case pick c a b=>
  unfold execOp at hr
  simp only[zH]at hr
  cases hc:(asBool (ρ c)).run P w with
  |ok u w1=>rw[hc]at hr;simp[Result.andThen]at hr;exact⟨_,hr.1.symm⟩
  |halt x w1=>rw[hc]at hr;simp[Result.andThen]at hr
 case nilCheck x=>
  unfold execOp at hr
  simp only at hr
  split at hr
  all_goals first|(simp at hr;exact⟨_,hr.1.symm⟩)|(simp[runtimePanic,goPanic]at hr;done)|skip
  split at hr
  ·simp[runtimePanic,goPanic]at hr
  ·simp only[zH]at hr
   revert hr
   cases Sem.run P program w<;>simp[Result.andThen]
   rename_i p w1
   cases Sem.run P (nilAhead (p.types.size+Made.depth) _ _ _) w1<;>simp
   rename_i b w2
   intro hr
   split at hr
   all_goals first
    |(simp at hr;exact⟨_,hr.1.symm⟩)
    |(simp at hr;done)
    |(revert hr;cases Sem.run P (unsupported _:Sem PUnit) w2<;>simp[Result.andThen];intro h _;exact⟨_,h.symm⟩)
  all_goals (simp at hr;exact⟨_,hr.1.symm⟩)
 all_goals first|(simp[nH]at h;done)|(unfold execOp at hr;exact cU hr)
theorem mW{o:Oper}{a:Act}{K:Act→Prop}(hp:nH o.op=true)(hne:∃w,C w)
  (h:if Region.wanted o (yielded ops a.tmps)then o.quiet P a C K else K (a.put o.dst undef)):∃v,YieldsIf P ops C o v a∧K (a.put o.dst v):=by
 by_cases hw:Region.wanted o (yielded ops a.tmps)=true
 ·simp only[hw,if_true]at h;obtain⟨v,h1,h2⟩:=h;refine⟨v,.inl ⟨hw,fun w hC=>?_⟩,h2⟩;have h3:=h1 w hC;unfold Oper.quietAt at h3;cases hr:(execOp a.eval o).run P w with
  |ok n w'=>
   obtain⟨u,rfl⟩:=gK hp hr
   rw[hr]at h3
   simp only[Oper.quietUpon]at h3
   obtain⟨rfl,rfl⟩:=h3
   rfl
  |halt x w'=>rw[hr]at h3;simp only[Oper.quietUpon]at h3
 ·simp only[hw]at h;exact⟨undef,.inr ⟨by simpa using hw,rfl⟩,h⟩
def kS(ops:Array Oper):List Nat→List Oper
 |[]=>[]
 |i::is=>match ops[i]? with|some o=>o::kS ops is|none=>kS ops is
def kL(listed:Array Bool):List Nat→Array Bool
 |[]=>listed
 |i::is=>kL (listed.setIfInBounds i true) is
def bS(md:Region.Mode)(ops:Array Oper):List Nat→Array Bool→Bool
 |[],_=>true
 |i::is,listed=>(match ops[i]? with|some o=>nH o.op|none=>false)&&(Region.ready md ops listed).contains i&&Region.free md ops listed i&&bS md ops is (listed.setIfInBounds i true)
theorem vI(hs:Region.noSelect ops=true)(hQ:∀(c:_) (a:Act) (d:Option Tmp) (v:Value) (w:World),Q (.panic c) (a.put d v) w→Q (.panic c) a w)(fuel:Nat){w:World}(hC:C w):∀(is:List Nat) (listed:Array Bool) (a:Act),
  bS md ops is listed=true→wpQuiet P ops C (fun a'=>wpAnyH P md ops Q C fuel (kL listed is) a' w) (kS ops is) a→wpAnyH P md ops Q C (fuel+is.length) listed a w
 |[],listed,a,_,h=>h
 |i::is,listed,a,hB,h=>by
  simp only[bS,zR]at hB;obtain⟨⟨⟨hp,hr⟩,hf⟩,hB'⟩:=hB;cases ho:ops[i]? with
  |none=>rw[ho]at hp;cases hp
  |some o=>
   rw[ho]at hp
   simp only[kS,ho,wpQuiet]at h
   obtain⟨v,hy,hK⟩:=mW hp ⟨w,hC⟩ h
   exact wpAnyH_take ho hs hf hr (fun c a w=>hQ c a o.dst v w) hy hC (vI hs hQ fuel hC is _ _ hB' hK)
def mE(P:Program)(ops:Array Oper)(C:World→Prop)(Q:Exit→Act→World→Prop):List (List Nat×Nat)→List Nat→Act→World→Prop
 |[],last,a,w=>wpQuiet P ops C (fun a'=>Q .normal a' w) (kS ops last) a
 |(is,c)::rest,last,a,w=>wpQuiet P ops C (fun a'=>match ops[c]? with
   |none=>False
   |some o=>if Region.wanted o (yielded ops a'.tmps)then o.wp P a' w (fun a'' w''=>C w''∧mE P ops C Q rest last a'' w'') Q else mE P ops C Q rest last (a'.put o.dst undef) w) (kS ops is) a
def fI(md:Region.Mode)(ops:Array Oper):List (List Nat×Nat)→List Nat→Array Bool→Bool
 |[],last,listed=>bS md ops last listed&&(Region.ready md ops (kL listed last)).isEmpty
 |(is,c)::rest,last,listed=>bS md ops is listed&&decide (Region.ready md ops (kL listed is)=[c])&&fI md ops rest last ((kL listed is).setIfInBounds c true)
def xW:List (List Nat×Nat)→List Nat→Nat
 |[],last=>last.length
 |(is,c)::rest,last=>xW rest last+1+is.length
theorem wB(hs:Region.noSelect ops=true)(hQ:∀(c:_) (a:Act) (d:Option Tmp) (v:Value) (w:World),Q (.panic c) (a.put d v) w→Q (.panic c) a w)(k:Nat)(last:List Nat):∀(bs:List (List Nat×Nat)) (listed:Array Bool) (a:Act) (w:World),C w→
  fI md ops bs last listed=true→mE P ops C Q bs last a w→wpAnyH P md ops Q C (k+xW bs last) listed a w
 |[],listed,a,w,hC,hB,h=>by
  simp only[fI,zR]at hB;have hr:Region.ready md ops (kL listed last)=[]:=by simpa using hB.2
  refine vI hs hQ k hC last listed a hB.1 ?_;have mono:∀(l:List Oper) (a:Act),wpQuiet P ops C (fun a'=>Q .normal a' w) l a→wpQuiet P ops C (fun a'=>wpAnyH P md ops Q C k (kL listed last) a' w) l a:=by
   intro l;induction l with
   |nil=>intro a h;exact wpAnyH_done hr h k
   |cons o l ih=>
    intro a h
    simp only[wpQuiet]at h⊢
    split
    ·rename_i hw;simp only[hw,if_true]at h;exact Oper.quiet_mono (fun a h=>ih a h) h
    ·rename_i hw;simp only[hw]at h;exact ih _ h
  exact mono _ _ h
 |(is,c)::rest,listed,a,w,hC,hB,h=>by
  simp only[fI,zR]at hB;obtain⟨⟨hB1,hB2⟩,hB3⟩:=hB;have hr:Region.ready md ops (kL listed is)=[c]:=by simpa using hB2
  simp only[xW];rw[←qN];refine vI hs hQ _ hC is listed a hB1 ?_;simp only[mE]at h;have step:∀a':Act,(match ops[c]? with
   |none=>False
   |some o=>if Region.wanted o (yielded ops a'.tmps)then o.wp P a' w (fun a'' w''=>C w''∧mE P ops C Q rest last a'' w'') Q else mE P ops C Q rest last (a'.put o.dst undef) w)→wpAnyH P md ops Q C (k+(xW rest last+1)) (kL listed is) a' w:=by
   intro a' ha;rw[←qN];refine wpAnyH_all hr oC fun i hi=>?_;obtain rfl:i=c:=by simpa using hi
   unfold wpOp;cases ho:ops[i]? with
   |none=>rw[ho]at ha;exact ha.elim
   |some o=>
    rw[ho]at ha
    simp only at ha⊢
    split
    ·rename_i hw
     simp only[hw,if_true]at ha
     exact .inl (Oper.wp_mono (fun a'' w'' ⟨h1,h2⟩=>⟨h1,wB hs hQ k last rest _ a'' w'' h1 hB3 h2⟩) ha)
    ·rename_i hw
     simp only[hw]at ha
     exact⟨hC,wB hs hQ k last rest _ _ w hC hB3 ha⟩
  have mono:∀(l:List Oper) (a:Act),wpQuiet P ops C (fun a'=>match ops[c]? with
   |none=>False
   |some o=>if Region.wanted o (yielded ops a'.tmps)then o.wp P a' w (fun a'' w''=>C w''∧mE P ops C Q rest last a'' w'') Q else mE P ops C Q rest last (a'.put o.dst undef) w) l a→wpQuiet P ops C (fun a'=>wpAnyH P md ops Q C (k+(xW rest last+1)) (kL listed is) a' w) l a:=by
   intro l;induction l with
   |nil=>intro a h;exact step a h
   |cons o l ih=>
    intro a h
    simp only[wpQuiet]at h⊢
    split
    ·rename_i hw;simp only[hw,if_true]at h;exact Oper.quiet_mono (fun a h=>ih a h) h
    ·rename_i hw;simp only[hw]at h;exact ih _ h
  exact mono _ _ h
theorem nD{id:Nat}{a:Act}{w:World}{l:List Oper}(bs:List (List Nat×Nat))(last:List Nat)(hm:P.follows .mixedOrders=true)
  (hB:(Region.noSelect l.toArray&&fI .any l.toArray bs last (Array.replicate l.toArray.size false)&&decide (xW bs last≤l.toArray.size))=true)
  (hQ:∀(c:_) (a:Act) (d:Option Tmp) (v:Value) (w:World),Q (.panic c) (a.put d v) w→Q (.panic c) a w) (hC:C w.drew)
  (h:∀wd,wd=w.drew→mE P l.toArray C Q bs last a wd):(Code.region id l.toArray true).wp P Q a w:=by
 simp only[zR,zS]at hB;obtain⟨⟨hs,hb⟩,hle⟩:=hB;refine wp_region_held (S:=C) hm ?_;have:=wB (md:=.any) hs hQ (l.toArray.size-xW bs last) last bs (Array.replicate l.toArray.size false) a w.drew hC hb (h _ rfl);rwa [Nat.sub_add_cancel hle]at this
def uY(P:Program)(ops:Array Oper)(C:World→Prop)(Q:Exit→Act→World→Prop)(rest:List (List Nat×Nat))(last:List Nat)(o:Oper)(w:World)(a:Act):Prop:=
 if Region.wanted o (yielded ops a.tmps)then o.wp P a w (fun a'' w''=>C w''∧mE P ops C Q rest last a'' w'') Q else mE P ops C Q rest last (a.put o.dst undef) w
theorem i3{is last:List Nat}{c:Nat}{rest:List (List Nat×Nat)}{l:List Oper}{o:Oper}{a:Act}{w:World}(hl:kS ops is=l)(ho:ops[c]?=some o)(h:wpQuiet P ops C (uY P ops C Q rest last o w) l a):mE P ops C Q ((is,c)::rest) last a w:=by
 subst hl;unfold mE;rw[ho];exact h
theorem lU{is last:List Nat}{c:Nat}{rest:List (List Nat×Nat)}{l:List Oper}{o:Oper}{a:Act}{w:World}(h:wpQuiet P ops C (uY P ops C Q rest last o w) l a)(hl:kS ops is=l:=by simp only[kS,zX,zK,zV];rfl)(ho:ops[c]?=some o:=by simp only[zX,zK,zV];rfl):mE P ops C Q ((is,c)::rest) last a w:=i3 hl ho h
theorem fU{last:List Nat}{l:List Oper}{a:Act}{w:World}(hl:kS ops last=l)(h:wpQuiet P ops C (fun a'=>Q .normal a' w) l a):mE P ops C Q [] last a w:=by
 subst hl;exact h
theorem yN{last:List Nat}{l:List Oper}{a:Act}{w:World}(h:wpQuiet P ops C (fun a'=>Q .normal a' w) l a)(hl:kS ops last=l:=by simp only[kS,zX,zK,zV];rfl):mE P ops C Q [] last a w:=fU hl h
theorem lI{rest:List (List Nat×Nat)}{last:List Nat}{o:Oper}{a:Act}{w:World}(hw:Region.wanted o (yielded ops a.tmps)=true)(h:∀K:Act→World→Prop,(∀a w,C w→mE P ops C Q rest last a w→K a w)→o.wp P a w K Q):uY P ops C Q rest last o w a:=by
 unfold uY;rw[zL hw];exact h _ fun a w hc h=>⟨hc,h⟩
end
structure yQ where
 w:World
theorem yQ.any(w:World):∃x:yQ,w=x.w:=⟨⟨w⟩,rfl⟩
instance:Nonempty yQ:=⟨⟨default⟩⟩
structure mV(P:Program)(T:TypeId)(n:Nat):Prop where
 u:∃d,P.underlying T=some d∧d.isRow=true
 i:(P.info? T).map (·.size)=some n
def mR(P:Program)(T:TypeId)(z:Array Value):Prop:=(P.info? T).map (fun i=>(i.zero,i.size))=some (some (.agg z),z.size)
def cR(cs:Array Value):Prop:=cs.all (·.oneCell')=true
def Blk(b:Nat)(T:TypeId)(cs:Array Value)(w:World):Prop:=w.heap[b]?=some (.cells cs T (0,0))
theorem mP{B:Nat}{a w:World}(h:Below B a w){g:Nat}(hg:B≤g)(cs:Array Value):Below B a (w.setRow g cs):=
 h.trans ⟨rfl,rfl,rfl,by simp[World.setRow],fun k hk=>jL w g k cs oD⟩
section
variable {b:Nat} {T:TypeId} {cs ds:Array Value} {w w':World}
theorem Blk.lt(H:Blk b T cs w):b<w.heap.size:=(qH.1 H).1
theorem Blk.below(H:Blk b T cs w){n:Nat}(hb:Below n w w')(hn:b<n):Blk b T cs w':=(hb.block b hn).trans H
theorem Blk.step(H:Blk b T cs w)(hb:Below w.heap.size w w'):Blk b T cs w':=H.below hb H.lt
theorem Blk.new(w:World)(T:TypeId)(cs:Array Value):Blk w.heap.size T cs (w.alloc (.cells cs T)):=qI _ _
theorem Blk.alloc(H:Blk b T cs w)(o:Obj):Blk b T cs (w.alloc o):=H.step ((zU _ _).alloc (zT _) _)
theorem Blk.drew(H:Blk b T cs w):Blk b T cs w.drew:=H
theorem Blk.other(H:Blk b T cs w){g:Nat}(hg:b≠g)(o:Nat)(v:Value):Blk b T cs (w.setCell ⟨g,o,none⟩ v):=(jM w ⟨g,o,none⟩ v b hg).trans H
theorem Blk.otherRow(H:Blk b T cs w){g:Nat}(hg:b≠g)(ds:Array Value):Blk b T cs (w.setRow g ds):=(jL w g b ds hg).trans H
theorem Blk.cell(H:Blk b T cs w)(j:Nat):w.cell? ⟨b,j,none⟩=cs[j]?:=jW w b j cs T (0,0) H
theorem Blk.frozen(H:Blk b T cs w)(j:Nat):w.frozen? ⟨b,j,none⟩=false:=frozen_of_row w b j cs T H
theorem Blk.store(H:Blk b T cs w)(ds:Array Value):Blk b T ds (w.setRow b ds):=setRow_heap w b _ _ T (0,0) H
theorem Blk.put(H:Blk b T cs w)(j:Nat)(v:Value):Blk b T (cs.setIfInBounds j v) (w.setCell ⟨b,j,none⟩ v):=heap_setCell_same w b j _ _ v H
theorem Blk.eq(H:Blk b T cs w)(e:cs=ds):Blk b T ds w:=e▸H
def kY(cs:Array Value)(o:Nat)(ds:Array Value):Array Value:=(cs.toList.take o++ds.toList++cs.toList.drop (o+ds.size)).toArray
end
section
variable {P:Program} {ops:Array Oper} {T ty:TypeId} {b o n:Nat} {cs ds:Array Value} {w:World} {Q:Exit→Act→World→Prop}
theorem wP(A:mV P ty n)(H:Blk b T cs w)(ho:o+n≤cs.size):(loadVar ty ⟨b,o,none⟩).run P w=.ok (.agg (cs.extract o (o+n))) w:=by
 obtain⟨d,hu,hd⟩:=A.u;have h:=run_loadVar_mid (P:=P) w b o ty (cs.extract o (o+n)).toList d (World.rangeAt_of_block H o n) hu hd (by rw[A.i];simp;omega);rwa [Array.toArray_toList]at h
theorem nW{op:Oper}{ρ:Operand→Value}(A:mV P ty n)(H:Blk b T cs w)(hn:o+n≤cs.size)(x:Operand)(ho:op.op=.load ty x)(hx:ρ x=.pointer (some ⟨b,o,none⟩)):(execOp ρ op).run P w=.ok (.value (.agg (cs.extract o (o+n)))) w:=by
 unfold execOp;simp only[ho,hx,Instr.loadAt,Instr.sureAddr,zH,Sem.run_pure,Result.andThen_ok,wP A H hn]
theorem nS{op:Oper}{ρ:Operand→Value}(A:mV P ty n)(H:Blk b T cs w)(hn:cs.size=n)(x:Operand)(ho:op.op=.load ty x)(hx:ρ x=.pointer (some ⟨b,0,none⟩)):(execOp ρ op).run P w=.ok (.value (.agg cs)) w:=by
 have h:=nW A H (by omega:0+n≤cs.size) x ho hx;rw[h];subst hn;simp
theorem uS(A:mV P ty n)(H:Blk b T cs w)(hn:ds.size=n)(ho:o+n≤cs.size)(h1:cR ds):(storeVar ty ⟨b,o,none⟩ (.agg ds)).run P w=.ok () (w.setRow b (kY cs o ds)):=by
 have h:=run_storeCells_at P b o T ds.toList 0 cs w H ZQ (fun v hv=>(qD.1 h1) v (by simpa using hv));have hi:=A.i;cases hq:P.info? ty with
 |none=>simp[hq]at hi
 |some i=>
  have hs:i.size=n:=ZJ
  simp[storeVar,sizeOf,typeInfo,hq,Value.cells,hs,hn,h,kY]
theorem cF{op:Oper}{a:Act}{K:Act→World→Prop}(A:mV P ty n)(H:Blk b T cs w)(hn:ds.size=n)(hl:o+n≤cs.size)(h1:cR ds)(x y:Operand)(ho:op.op=.store ty x y)(hx:a.eval x=.pointer (some ⟨b,o,none⟩))(hy:a.eval y=.agg ds)
  (h:K (a.put op.dst undef) (w.setRow b (kY cs o ds))):op.wp P a w K Q:=by
 unfold Oper.wp execOp;simp only[ho,hx,hy,Instr.storeAt,Instr.sureAddr,zH,Sem.run_pure,Result.andThen_ok,uS A H hn hl h1];exact h
theorem t5(h:ds.size=cs.size):kY cs 0 ds=ds:=by
 unfold kY;rw[zI,h];simp[List.drop_eq_nil_of_le]
theorem xH{op:Oper}{a:Act}{K:Act→World→Prop}(A:mV P ty n)(H:Blk b T cs w)(hc:cs.size=n)(hn:ds.size=n)(h1:cR ds)(x y:Operand)(ho:op.op=.store ty x y)(hx:a.eval x=.pointer (some ⟨b,0,none⟩))(hy:a.eval y=.agg ds)
  (h:K (a.put op.dst undef) (w.setRow b ds)):op.wp P a w K Q:=
 cF A H hn oD h1 x y ho hx hy (by rw[t5 oD];exact h)
variable {rest:List Oper} {op:Oper} {a:Act}
theorem xE(hgd:op.guard=none)(v:Value)(h1:(execOp a.eval op).run P w=.ok (.value v) w)(h:wpList P ops Q rest (a.put op.dst v) w):wpList P ops Q (op::rest) a w:=
 zO hgd fun K hK=>by unfold Oper.wp;rw[h1];exact hK _ _ h
theorem kE(A:mV P ty n)(H:Blk b T cs w)(hn:o+n≤cs.size)(hgd:op.guard=none)(x:Operand)(ho:op.op=.load ty x)(hx:a.eval x=.pointer (some ⟨b,o,none⟩))
  (h:wpList P ops Q rest (a.put op.dst (.agg (cs.extract o (o+n)))) w):wpList P ops Q (op::rest) a w:=
 zO hgd fun K hK=>by unfold Oper.wp;rw[nW A H hn x ho hx];exact hK _ _ h
theorem j8(A:mV P ty n)(H:Blk b T cs w)(hn:cs.size=n)(hgd:op.guard=none)(x:Operand)(ho:op.op=.load ty x)(hx:a.eval x=.pointer (some ⟨b,0,none⟩))
  (h:wpList P ops Q rest (a.put op.dst (.agg cs)) w):wpList P ops Q (op::rest) a w:=
 zO hgd fun K hK=>by unfold Oper.wp;rw[nS A H hn x ho hx];exact hK _ _ h
theorem kW(A:mV P ty n)(H:Blk b T cs w)(hc:cs.size=n)(hn:ds.size=n)(h1:cR ds)(hgd:op.guard=none)(x y:Operand)(ho:op.op=.store ty x y)(hx:a.eval x=.pointer (some ⟨b,0,none⟩))(hy:a.eval y=.agg ds)
  (h:wpList P ops Q rest (a.put op.dst undef) (w.setRow b ds)):wpList P ops Q (op::rest) a w:=
 zO hgd fun K hK=>xH A H hc hn h1 x y ho hx hy (hK _ _ h)
theorem mO(A:mV P ty n)(H:Blk b T cs w)(hn:ds.size=n)(hl:o+n≤cs.size)(h1:cR ds)(hgd:op.guard=none)(x y:Operand)(ho:op.op=.store ty x y)(hx:a.eval x=.pointer (some ⟨b,o,none⟩))(hy:a.eval y=.agg ds)
  (h:wpList P ops Q rest (a.put op.dst undef) (w.setRow b (kY cs o ds))):wpList P ops Q (op::rest) a w:=
 zO hgd fun K hK=>cF A H hn hl h1 x y ho hx hy (hK _ _ h)
theorem r8(W:World)(cs cs':Array Value)(t:TypeId):(W.alloc (.cells cs t)).setRow W.heap.size cs'=W.alloc (.cells cs' t):=by
 unfold World.setRow World.alloc;congr 1
 apply qM
 intro i
 simp only[Array.getElem?_modify,Array.getElem?_push]
 by_cases e:W.heap.size=i
 ·subst e;simp
 ·rw[zY e,zY (fun h=>e h.symm),zY (fun h=>e h.symm)]
theorem rK{z:Array Value}(Z:mR P ty z):(zeroValue ty).run P w=.ok (.agg z) w:=by
 unfold mR at Z;unfold zeroValue typeInfo;cases hq:P.info? ty with
 |none=>simp[hq]at Z
 |some i=>
  simp only[hq,Option.map_some,jN,jB]at Z
  simp[zH,hq,Z.1]
theorem lB{K:Act→World→Prop}{z:Array Value}(Z:mR P ty z)(ho:op.op=.alloc ty)(h:K (a.put op.dst (.pointer (some ⟨w.heap.size,0,none⟩))) (w.alloc (.cells z ty))):op.wp P a w K Q:=by
 unfold Oper.wp execOp;simp only[ho,Instr.alloc,newVar,newRow,newObj,zH,rK Z,Result.andThen_ok,Sem.run_pure];exact h
theorem lG{o1 o2:Oper}{z:Array Value}(A:mV P ty n)(Z:mR P ty z)(hz:z.size=n)(hn:ds.size=n)(h1:cR ds)(g1:o1.guard=none)(ho1:o1.op=.alloc ty)(g2:o2.guard=none)(x y:Operand)(ho2:o2.op=.store ty x y)
  (hx:(a.put o1.dst (.pointer (some ⟨w.heap.size,0,none⟩))).eval x=.pointer (some ⟨w.heap.size,0,none⟩)) (hy:(a.put o1.dst (.pointer (some ⟨w.heap.size,0,none⟩))).eval y=.agg ds)
  (h:wpList P ops Q rest ((a.put o1.dst (.pointer (some ⟨w.heap.size,0,none⟩))).put o2.dst undef) (w.alloc (.cells ds ty))):wpList P ops Q (o1::o2::rest) a w:=by
 refine zO g1 fun K hK=>lB Z ho1 (hK _ _ ?_);refine kW A (Blk.new w ty z) hz hn h1 g2 x y ho2 hx hy ?_;rw[r8];exact h
theorem mH{cs:Array Value}{parts:Array (Nat×Operand)}(hgd:op.guard=none)(ho:op.op=.build ty parts)(hb:P.built ty (parts.map fun(i,x)=>(i,a.eval x)).toList=some cs)
  (h:wpList P ops Q rest (a.put op.dst (.agg cs)) w):wpList P ops Q (op::rest) a w:=
 wpList_build hgd ty parts ho (by rw[hb];rfl) (by rw[hb];exact h)
end
section
variable {P:Program} {ops:Array Oper} {C:World→Prop} {ty T:TypeId} {b o n:Nat} {cs:Array Value}
theorem m8{Q:Act→Prop}{op:Oper}{rest:List Oper}{a:Act}(hw:Region.wanted op (yielded ops a.tmps)=true)(v:Value)(h1:∀w,C w→(execOp a.eval op).run P w=.ok (.value v) w)(h:wpQuiet P ops C Q rest (a.put op.dst v)):wpQuiet P ops C Q (op::rest) a:=by
 simp only[wpQuiet,hw,if_true];exact⟨v,fun w hC=>by unfold Oper.quietAt;rw[h1 w hC];exact⟨rfl,rfl⟩,h⟩
theorem uI{Q:Act→Prop}{op:Oper}{rest:List Oper}{a:Act}(A:mV P ty n)(H:∀w,C w→Blk b T cs w)(hn:cs.size=n)(hw:Region.wanted op (yielded ops a.tmps)=true)(x:Operand)(ho:op.op=.load ty x)(hx:a.eval x=.pointer (some ⟨b,0,none⟩))
  (h:wpQuiet P ops C Q rest (a.put op.dst (.agg cs))):wpQuiet P ops C Q (op::rest) a:=
 m8 hw _ (fun w hC=>nS A (H w hC) hn x ho hx) h
theorem mI{Q:Act→Prop}{op:Oper}{rest:List Oper}{a:Act}(A:mV P ty n)(H:∀w,C w→Blk b T cs w)(hn:o+n≤cs.size)(hw:Region.wanted op (yielded ops a.tmps)=true)(x:Operand)(ho:op.op=.load ty x)(hx:a.eval x=.pointer (some ⟨b,o,none⟩))
  (h:wpQuiet P ops C Q rest (a.put op.dst (.agg (cs.extract o (o+n))))):wpQuiet P ops C Q (op::rest) a:=
 m8 hw _ (fun w hC=>nW A (H w hC) hn x ho hx) h
theorem uZ{Q:Act→Prop}{op:Oper}{rest:List Oper}{a:Act}{cs:Array Value}{parts:Array (Nat×Operand)}(hw:Region.wanted op (yielded ops a.tmps)=true)(ho:op.op=.build ty parts)(hb:P.built ty (parts.map fun(i,x)=>(i,a.eval x)).toList=some cs)
  (h:wpQuiet P ops C Q rest (a.put op.dst (.agg cs))):wpQuiet P ops C Q (op::rest) a:=
 m8 hw (.agg cs) (fun w _=>by
  unfold execOp;simp only[ho,zH,run_build w ty _ cs hb,Result.andThen_ok,Sem.run_pure]) h
end
def mM(n:Nat)(f:Nat→Value):Array Value:=((List.range n).map f).toArray
section
variable {n:Nat} {f h:Nat→Value}
theorem lV:(mM n f).size=n:=by simp[mM]
theorem mL{j:Nat}(hj:j<n):(mM n f)[j]?=some (f j):=by simp[mM,hj]
theorem fV{j:Nat}(hj:n≤j):(mM n f)[j]?=none:=by simp[mM];omega
theorem xR{c:Array Value}(hs:c.size=n)(hc:∀j,j<n→c[j]?=some (f j)):c=mM n f:=by
 apply qM
 intro j
 by_cases hj:j<n
 ·rw[hc j hj,mL hj]
 ·rw[fV oD,z4 oD]
theorem xZ(e:∀j,j<n→f j=h j):mM n f=mM n h:=xR lV fun j hj=>by rw[mL hj,e j hj]
theorem lF(k:Nat)(v:Value)(e:∀j,j<n→h j=if j=k then v else f j):(mM n f).setIfInBounds k v=mM n h:=xR (by simp[mM]) fun j hj=>by
 rw[jK,lV,e j hj];by_cases hk:k=j
 ·subst hk;rw[zL rfl,zL hj,zL rfl]
 ·rw[zY hk,zY (fun c=>hk c.symm),mL hj]
theorem m6{o m:Nat}{c:Array Value}(hm:c.size=m)(ho:o+m≤n)(e:∀j,j<m→c[j]?=some (f (o+j))):(mM n f).extract o (o+m)=c:=by
 apply qM
 intro j
 rw[jJ,lV];by_cases hj:j<m
 ·rw[zL oD,mL oD,e j hj]
 ·rw[zY oD,z4 oD]
theorem vS{o:Nat}{c:Array Value}(ho:o+c.size≤n)(e1:∀j,j<c.size→c[j]?=some (h (o+j)))(e2:∀j,j<n→(j<o∨o+c.size≤j)→f j=h j):kY (mM n f) o c=mM n h:=by
 refine xR ?_ fun j hj=>?_
 ·unfold kY;simp[mM];omega
 ·unfold kY;rw[zX];by_cases h1:j<o
  ·rw[zB,qK (by simp[mM];omega),List.getElem?_take_of_lt h1,qB,mL hj,e2 j hj (.inl h1)]
  ·by_cases h2:j<o+c.size
   ·rw[zB,qX (by simp[mM];omega),qK (by simp[mM];omega)];have hl:((mM n f).toList.take o).length=o:=by simp[mM];omega
    rw[hl,qB,e1 (j-o) oD];congr 2
    omega
   ·rw[qX (by simp[mM];omega)];have hl:((mM n f).toList.take o++c.toList).length=o+c.size:=by simp[mM];omega
    rw[hl,jD,qB,show o+c.size+(j-(o+c.size))=j by omega,mL hj,e2 j hj (.inr oD)]
end
def lD(k c p y:Int):Array Value:=#[.int .i64 k,.int .i64 c,.int .i64 p,.int .i64 y]
theorem vO:mV Try.prog 30 4:=⟨⟨_,Try.underlying30,rfl⟩,by kernel_rfl⟩
theorem iY(k c p y:Int):cR (lD k c p y):=by unfold cR lD;simp[Value.oneCell']
section
variable {P:Program} {ops:Array Oper} {C:World→Prop}
end
end
section
namespace Num
open Go.RowKit
theorem yZ(n:Int)(h₀:0≤n)(h₁:n<2^62):IntKind.i64.wrap n=n:=by rw[zC];omega
theorem uB(n k:Int)(h:0≤n):n.tmod k=n%k:=Int.tmod_eq_emod_of_nonneg h
theorem bd_u8{a:Int}(h:(Lit.int .u8 a).wf=true):0≤a∧a≤255:=by
 exact ZB
theorem bd_u16{a:Int}(h:(Lit.int .u16 a).wf=true):0≤a∧a≤65535:=by
 exact ZB
theorem bd_i64{a:Int}(h:(Lit.int .i64 a).wf=true): -9223372036854775808≤a∧a≤9223372036854775807:=by
 exact ZB
end Num
namespace Num
open Go.RowKit
def hi(r:BitVec 128):BitVec 64:=r.extractLsb' 64 64
def lo(r:BitVec 128):BitVec 64:=r.extractLsb' 0 64
theorem nZ(h l:BitVec 64):hi (h++l)=h:=by
 apply BitVec.eq_of_getLsbD_eq
 intro i hi'
 simp only[hi,BitVec.getLsbD_extractLsb',BitVec.getLsbD_append];rw[zY oD,show 64+i-64=i by omega];simp[hi']
theorem m9(h l:BitVec 64):lo (h++l)=l:=by
 apply BitVec.eq_of_getLsbD_eq
 intro i hi'
 simp only[lo,BitVec.getLsbD_extractLsb',BitVec.getLsbD_append];rw[zL oD,show 0+i=i by omega];simp[hi']
theorem gD(r:BitVec 128):hi r++lo r=r:=by
 apply BitVec.eq_of_getLsbD_eq
 intro i hi'
 simp only[hi,lo,BitVec.getLsbD_extractLsb',BitVec.getLsbD_append];split
 ·rename_i h;simp[h]
 ·rename_i h
  rw[show 64+(i-64)=i by omega];simp;omega
theorem oY{h l h' l':BitVec 64}:h++l=h'++l'↔h=h'∧l=l':=
 ⟨fun e=>⟨by rw[←nZ h l,e,nZ],by rw[←m9 h l,e,m9]⟩,fun⟨a,b⟩=>by rw[a,b]⟩
theorem eH(u:BitVec 64):BitVec.ofInt 64 (u.toNat:Int)=u:=by
 apply BitVec.eq_of_toNat_eq
 rw[BitVec.toNat_ofInt]
 have:=u.isLt;omega
theorem iJ(u:BitVec 64):IntKind.u64.wrap (u.toNat:Int)=(u.toNat:Int):=by
 rw[IntKind.wrap_u64];have:=u.isLt;omega
theorem or64(u v:BitVec 64):bits .or .u64 (u.toNat:Int) (v.toNat:Int)=((u|||v).toNat:Int):=by
 show IntKind.u64.wrap (((BitVec.ofInt 64 (u.toNat:Int)|||BitVec.ofInt 64 (v.toNat:Int)).toNat:Nat):Int)=_;rw[eH,eH,iJ]
def mv(r:BitVec 128)(n:Int):BitVec 128:=if n<0 then r<<<(-n).toNat else r>>>n.toNat
def dN(n:Int):BitVec 128:=mv (BitVec.allOnes 128) (n-128)
def gV(x:Int):BitVec 128:=mv (BitVec.twoPow 128 127) x
def px(r:BitVec 128)(x:Nat):Bool:=r.getMsbD x
theorem px_ext{r s:BitVec 128}(h:∀x,x<128→px r x=px s x):r=s:=BitVec.eq_of_getMsbD_eq h
theorem dK(r s:BitVec 128)(x:Nat):px (r&&&s) x=(px r x&&px s x):=BitVec.getMsbD_and
theorem dX(r s:BitVec 128)(x:Nat):px (r^^^s) x=(px r x^^px s x):=BitVec.getMsbD_xor
theorem eN(x:Nat):px 0#128 x=false:=by simp[px]
def pxi(r:BitVec 128)(x:Int):Bool:=decide (0≤x)&&px r x.toNat
theorem oR(r:BitVec 128)(n:Int)(x:Nat)(hx:x<128):px (mv r n) x=pxi r (x-n):=by
 unfold mv px pxi px;split
 ·rw[BitVec.getMsbD_shiftLeft,zP oD,show((x:Int)-n).toNat=x+(-n).toNat by omega];rfl
 ·rw[BitVec.getMsbD_ushiftRight,zP hx];by_cases h:x<n.toNat
  ·rw[zP h,z5 oD];rfl
  ·rw[z5 h,zP oD,show((x:Int)-n).toNat=x-n.toNat by omega];rfl
theorem sT(n:Int)(x:Nat)(hx:x<128)(hn:n≤128):px (dN n) x=decide ((x:Int)<n):=by
 unfold dN;rw[oR _ _ _ hx,pxi,px,BitVec.getMsbD_allOnes,Bool.eq_iff_iff];simp;omega
theorem gX(n:Int)(x:Nat)(hx:x<128):px (gV n) x=decide ((x:Int)=n):=by
 unfold gV;rw[oR _ _ _ hx,pxi,px,BitVec.getMsbD_eq_getLsbD,BitVec.getLsbD_twoPow,Bool.eq_iff_iff];simp;omega
def fQ(r:BitVec 128)(x:Int)(b:Bool):BitVec 128:=if b then(r^^^(r&&&gV x))^^^(dN 128&&&gV x)else r^^^(r&&&gV x)
theorem fM(r:BitVec 128)(x:Int)(b:Bool)(y:Nat)(hy:y<128):px (fQ r x b) y=if(y:Int)=x then b else px r y:=by
 unfold fQ;cases b
 ·rw[zY oC,dX,dK,gX _ _ hy];split<;>rename_i h<;>simp[h]
 ·rw[zL rfl,dX,dX,dK,dK,gX _ _ hy,sT _ _ hy oF];split<;>rename_i h<;>simp[h]
  omega
end Num
namespace Num
open Go.RowKit
def V:List Nat→Nat
 |[]=>0
 |d::ds=>256*V ds+d
def t1(d:Nat):Nat:=(d/2&&&85)+(d&&&85)
def t2(d:Nat):Nat:=(d/4&&&51)+(d&&&51)
end Num
namespace Num
open Go.RowKit
theorem iR(r:BitVec 128)(i:Nat):pxi r (i:Int)=px r i:=by
 rw[pxi,zP oD,Bool.true_and,Int.toNat_natCast]
theorem set_get(r:BitVec 128)(x:Nat)(b:Bool)(hx:x<128):pxi (fQ r x b) x=b:=by
 rw[iR,fM _ _ _ _ hx,zL rfl]
end Num
namespace Num
open Go.RowKit
abbrev Pl:=Nat→BitVec 128
end Num
namespace Num
open Go.RowKit
def acc(g:Nat→Bool):Nat→Nat
 |0=>0
 |k+1=>2*acc g k+(g k).toNat
theorem tE(g:Nat→Bool)(k:Nat):acc g k<2^k:=by
 induction k with
 |zero=>simp[acc]
 |succ k ih=>
  rw[acc,Nat.pow_succ]
  have:=Bool.toNat_le (g k)
  omega
theorem oN(g:Nat→Bool)(k j:Nat):(acc g k).testBit j=(decide (j<k)&&g (k-1-j)):=by
 induction k generalizing j with
 |zero=>simp[acc]
 |succ k ih=>
  rw[acc]
  cases j with
  |zero=>
   rw[Nat.testBit_zero]
   cases hg:g k<;>simp[hg]<;>omega
  |succ j=>
   rw[Nat.testBit_succ,show(2*acc g k+(g k).toNat)/2=acc g k by have:=Bool.toNat_le (g k);omega,ih j,show k+1-1-(j+1)=k-1-j by omega,
    show decide (j<k)=decide (j+1<k+1) by congr 1;simp]
def wd(g:Nat→Bool):BitVec 64:=BitVec.ofNat 64 (acc g 64)
theorem uG(g:Nat→Bool):(wd g).toNat=acc g 64:=by
 have:=tE g 64;rw[wd,BitVec.toNat_ofNat,qR this]
theorem pE(g:Nat→Bool)(i:Nat)(hi:i<64):(wd g).getMsbD i=g i:=by
 rw[BitVec.getMsbD_eq_getLsbD,←BitVec.testBit_toNat,uG,oN,zP hi,zP oD,show 64-1-(64-1-i)=i by omega,Bool.true_and,Bool.true_and]
def fwd(f:Nat→Bool):Pl:=fun y=>wd (fun i=>f (128*y+i))++wd (fun i=>f (128*y+(64+i)))
theorem fN(f:Nat→Bool)(y x:Nat)(hx:x<128):px (fwd f y) x=f (128*y+x):=by
 unfold fwd px;rw[BitVec.getMsbD_append];split
 ·rw[pE _ _ oD,show 64+(x-64)=x by omega]
 ·rw[pE _ _ oD]
def rI(f:Nat→Bool)(m h:Nat):Prop:=∀i,f i=true→i%128<m∧i/128<h
theorem eI(g:Nat→Bool)(k:Nat)(h:g k=true):acc g (k+1)=2*acc g k+1:=by rw[acc,h];rfl
theorem rA(g:Nat→Bool)(k:Nat)(h:g k=false):acc g (k+1)=2*acc g k:=by rw[acc,h];rfl
theorem fG(n m h:Nat)(hm:m≤128)(h0:0<m)(hn:n<m*h):(128*(n/m)+n%m)%128<m∧(128*(n/m)+n%m)/128<h∧128*(n/m)+n%m<128*h:=by
 have h1:n%m<m:=qA _ h0;have h2:n/m<h:=(Nat.div_lt_iff_lt_mul h0).2 (by rw[Nat.mul_comm];exact hn);have h3:(128*(n/m)+n%m)%128=n%m:=oD;have h4:(128*(n/m)+n%m)/128=n/m:=oD;rw[h3,h4];exact⟨h1,h2,by omega⟩
theorem s8{f:Nat→Bool}{m h:Nat}(hf:rI f m h)(p:Nat)(b:Bool)(h1:p%128<m)(h2:p/128<h):rI (fun i=>if i=p then b else f i) m h:=fun i hi=>by
 by_cases e:i=p
 ·subst e;exact⟨h1,h2⟩
 ·simp only[zY e]at hi;exact hf i hi
theorem yA(m h:Nat):rI (fun _=>false) m h:=fun i hi=>by cases hi
end Num
end
section
open Go.RowKit Num
def lK(P:Pl)(j:Nat):Int:=if j%2=0 then((hi (P (j/2))).toNat:Int)else((lo (P (j/2))).toNat:Int)
def j4(P:Pl):Array Value:=((List.range 128).map fun j=>Value.int .u64 (lK P j)).toArray
theorem j5(P:Pl):(j4 P).size=128:=by simp[j4]
theorem kO(P:Pl)(j:Nat)(hj:j<128):(j4 P)[j]?=some (.int .u64 (lK P j)):=by simp[j4,hj]
theorem cQ(P:Pl)(y:Nat):lK P (2*y)=((hi (P y)).toNat:Int):=by
 rw[lK,zL oD,show 2*y/2=y by omega]
theorem xG(P:Pl)(y:Nat):lK P (2*y+1)=((lo (P y)).toNat:Int):=by
 rw[lK,zY oD,show(2*y+1)/2=y by omega]
theorem tY{P Q:Pl}(h:∀y,y<64→P y=Q y):j4 P=j4 Q:=by
 unfold j4;congr 1
 refine List.map_congr_left fun j hj=>?_
 have hj:=qZ.1 hj;unfold lK;rw[h (j/2) oD]
theorem xK(P:Pl):(j4 P).all (·.oneCell')=true:=by
 rw[qD];intro v hv;simp[j4]at hv;obtain⟨j,_,rfl⟩:=hv;rfl
def vZ(P:Pl)(y:Nat)(r:BitVec 128):Pl:=fun j=>if j=y then r else P j
theorem mC(P:Pl)(y:Nat)(r:BitVec 128):vZ P y r y=r:=by simp[vZ]
theorem nE(P:Pl)(y j:Nat)(r:BitVec 128)(h:j≠y):vZ P y r j=P j:=by simp[vZ,h]
theorem uO(P:Pl)(y:Nat)(h l:BitVec 64)(hy:y<64):((j4 P).setIfInBounds (2*y) (.int .u64 (h.toNat:Int))).setIfInBounds (2*y+1) (.int .u64 (l.toNat:Int))=j4 (vZ P y (h++l)):=by
 apply qM
 intro j
 by_cases hj:j<128
 ·rw[kO _ _ hj,jK,jK];by_cases e1:2*y+1=j
  ·subst e1;rw[zL rfl,zL (by simp[j5];omega),xG,mC,m9]
  ·rw[zY e1];by_cases e0:2*y=j
   ·subst e0;rw[zL rfl,zL (by simp[j5];omega),cQ,mC,nZ]
   ·rw[zY e0,kO _ _ hj];unfold lK;rw[nE _ _ _ _ oD]
 ·rw[z4 (by simp[j5];omega),z4 (by simp[j5];omega)]
def lZ(b:Nat)(t:TypeId)(P:Pl)(w:World):Prop:=w.heap[b]?=some (.cells (j4 P) t (0,0))
section
variable {b:Nat} {t:TypeId} {P Q:Pl} {w w':World}
theorem lZ.lt(H:lZ b t P w):b<w.heap.size:=(qH.1 H).1
theorem lZ.below(H:lZ b t P w){n:Nat}(hb:Below n w w')(hn:b<n):lZ b t P w':=(hb.block b hn).trans H
theorem lZ.step(H:lZ b t P w)(hb:Below w.heap.size w w'):lZ b t P w':=H.below hb H.lt
theorem lZ.new(w:World)(P:Pl)(t:TypeId):lZ w.heap.size t P (w.alloc (.cells (j4 P) t)):=qI _ _
theorem lZ.alloc(H:lZ b t P w)(o:Obj):lZ b t P (w.alloc o):=H.step ((zU _ _).alloc (zT _) _)
theorem lZ.drew(H:lZ b t P w):lZ b t P w.drew:=H
theorem lZ.congr(H:lZ b t P w)(h:∀y,y<64→P y=Q y):lZ b t Q w:=by
 unfold lZ at*;rw[←tY h];exact H
theorem lZ.other(H:lZ b t P w){g:Nat}(hg:b≠g)(o:Nat)(v:Value):lZ b t P (w.setCell ⟨g,o,none⟩ v):=(jM w ⟨g,o,none⟩ v b hg).trans H
theorem lZ.otherRow(H:lZ b t P w){g:Nat}(hg:b≠g)(cs:Array Value):lZ b t P (w.setRow g cs):=(jL w g b cs hg).trans H
theorem lZ.cell(H:lZ b t P w)(j:Nat)(hj:j<128):w.cell? ⟨b,j,none⟩=some (.int .u64 (lK P j)):=by
 rw[jW w b j (j4 P) t (0,0) H];exact kO P j hj
theorem lZ.left(H:lZ b t P w)(y:Nat)(hy:y<64):w.cell? ⟨b,y*2,none⟩=some (.int .u64 ((hi (P y)).toNat:Int)):=by
 rw[Nat.mul_comm y 2,H.cell _ oD,cQ]
theorem lZ.right(H:lZ b t P w)(y:Nat)(hy:y<64):w.cell? ⟨b,y*2+1,none⟩=some (.int .u64 ((lo (P y)).toNat:Int)):=by
 rw[Nat.mul_comm y 2,H.cell _ oD,xG]
theorem lZ.frozen(H:lZ b t P w)(j:Nat):w.frozen? ⟨b,j,none⟩=false:=frozen_of_row w b j (j4 P) t H
theorem lZ.store(H:lZ b t P w)(Q:Pl):lZ b t Q (w.setRow b (j4 Q)):=setRow_heap w b _ _ t (0,0) H
theorem lZ.row(H:lZ b t P w)(y:Nat)(hy:y<64)(h l:BitVec 64):lZ b t (vZ P y (h++l)) ((w.setCell ⟨b,y*2,none⟩ (.int .u64 (h.toNat:Int))).setCell ⟨b,y*2+1,none⟩ (.int .u64 (l.toNat:Int))):=by
 rw[Nat.mul_comm y 2];have e1:=setCell_eq_setRow w b (2*y) (j4 P) t (0,0) (.int .u64 (h.toNat:Int)) H;have H1:(w.setRow b ((j4 P).setIfInBounds (2*y) (.int .u64 (h.toNat:Int)))).heap[b]?=_:=setRow_heap w b _ _ t (0,0) H;have e2:=setCell_eq_setRow _ b (2*y+1) _ t (0,0) (.int .u64 (l.toNat:Int)) H1;rw[e1,e2,uO P y h l hy];exact setRow_heap _ b _ _ t (0,0) H1
end
section
variable {P:Program}
theorem kT(t:TypeId)(d:TypeDesc)(xs:Array Value)(off sz:Nat)(w:World)(hd:(match d with| .struct _| .array _ _=>true|_=>false)=true)(hu:P.underlying t=some d)(hi:(P.info? t).map (·.size)=some sz):
  (part t xs off).run P w=.ok (.agg (xs.extract off (off+sz))) w:=by
 cases hq:P.info? t with
 |none=>simp[hq]at hi
 |some i=>
  have hs:i.size=sz:=ZJ
  have hagg:(isAgg t).run P w=.ok true w:=by
   unfold isAgg;rw[zH,z9 hu w];cases d<;>simp_all
  simp[part,zH,hagg,sizeOf,typeInfo,hq,hs]
end
end
section
open Go.RowKit
theorem t4{P:Program}{id:Nat}{Q:Exit→Act→World→Prop}{a:Act}{w:World}{l:List Oper}(n:Nat)(hm:P.follows .mixedOrders=true)(hB:Region.lexTailB .any l.toArray n=true)
  (h:∀wd,wd=w.drew→wpStill P l.toArray wd (fun a'=>wpList P l.toArray Q (l.drop n) a' wd) (l.take n) a):(Code.region id l.toArray true).wp P Q a w:=
 wp_region_still_tail n hm hB (h w.drew rfl)
section
variable {P:Program} {ops:Array Oper} {C:World→Prop} {Q:Exit→Act→World→Prop} {md:Region.Mode}
def wE(P:Program)(ops:Array Oper)(C:World→Prop)(Q:Exit→Act→World→Prop)(c:Nat)(F:Act→World→Prop)(a:Act)(w:World):Prop:=
 match ops[c]? with
 |none=>False
 |some o=>if Region.wanted o (yielded ops a.tmps)then o.wp P a w (fun a'' w''=>C w''∧F a'' w'') Q else F (a.put o.dst undef) w
theorem rL{K K':Act→Prop}(hK:∀a,K a→K' a):∀(l:List Oper) (a:Act),wpQuiet P ops C K l a→wpQuiet P ops C K' l a:=by
 exact ZH
theorem iI{c:Nat}{F G:Act→World→Prop}{a:Act}{w:World}(hC:C w)(h:wE P ops C Q c F a w)(hF:∀a w,C w→F a w→G a w):wpOp P ops Q c (fun a' w'=>C w'∧G a' w') a w:=by
 unfold wE at h;unfold wpOp;cases ho:ops[c]? with
 |none=>rw[ho]at h;exact h.elim
 |some o=>
  rw[ho]at h
  simp only at h⊢
  split
  ·rename_i hw
   simp only[hw,if_true]at h
   exact .inl (Oper.wp_mono (fun a'' w'' ⟨h1,h2⟩=>⟨h1,hF _ _ h1 h2⟩) h)
  ·rename_i hw
   simp only[hw]at h
   exact⟨hC,hF _ _ hC h⟩
end
end
section
open Go.RowKit Go.ChangeShapes Go.WideShapes Num
def wU(w:World)(A:Option Addr)(L:List Nat):Prop:=L≠[]→∃ad,A=some ad∧ad.block<w.heap.size∧∀j (h:j<L.length),w.cell? (ad.add j)=some (.int .u16 (L[j]:Int))
theorem bV(a:Addr)(n:Nat):(a.add n).block=a.block:=by unfold Addr.add;split<;>rfl
section
variable {w w':World} {A:Option Addr} {L:List Nat}
theorem wU.nil:wU w A []:=fun h=>absurd rfl h
theorem wU.at_(h:wU w A L){k:Nat}(hk:k<L.length):∃ad,A=some ad∧ad.block<w.heap.size∧w.cell? (ad.add k)=some (.int .u16 (L.getD k 0:Int)):=by
 obtain⟨ad,hA,hb,hc⟩:=h ZV;exact⟨ad,hA,hb,by rw[hc k hk];simp[hk]⟩
theorem wU.below(h:wU w A L)(hb:Below w.heap.size w w'):wU w' A L:=fun hne=>by
 obtain⟨ad,hA,hlt,hc⟩:=h hne;exact⟨ad,hA,zG hlt hb.size,fun j hj=>(hb.cell (p:=ad.add j) (by rw[bV];exact hlt)).trans (hc j hj)⟩
end
section
variable {H:Type} {enc:TypeId×Value→H} {W:World} {r:Reach} {base:Nat}
end
end
section
theorem bB{α:Type}(L:List α)(off:Nat)(cs:List α)(h:off+cs.length≤L.length):(splice L off cs).length=L.length:=length_splice L off cs h
theorem bR{α:Type}(L:List α)(off:Nat)(cs:List α)(h:off+cs.length≤L.length)(j:Nat):
  (splice L off cs)[j]?=if j<off then L[j]? else if j<off+cs.length then cs[j-off]? else L[j]?:=by
 unfold splice;by_cases h1:j<off
 ·rw[zL h1,qK ZQ,List.getElem?_take,zL h1]
 ·rw[zY h1,qX ZQ];have e:(L.take off).length=off:=by simp;omega
  rw[e];by_cases h2:j<off+cs.length
  ·rw[zL h2,qK oD]
  ·rw[zY h2,qX oD,jD];congr 1
   omega
end
section
open Go.RowKit Num
theorem rJ{X:List Int}{k:Nat}(h:k<X.length):X.take (k+1)=X.take k++[X[k]]:=by simp
theorem gT:(Try.prog.info? 5).map (fun i=>(i.zero,i.size,i.bytes))=some (some (.int .u8 0),1,1):=by kernel_rfl
structure mQ(p:Nat)(g:Option Nat)(w w':World):Prop where
 os:w'.os=w.os
 tape:w'.tape=w.tape
 output:w'.output=w.output
 size:w.heap.size≤w'.heap.size
 block:∀k,k<w.heap.size→k≠p→some k≠g→w'.heap[k]?=w.heap[k]?
section
variable {p:Nat} {g:Option Nat} {u w w':World}
theorem mQ.refl:mQ p g w w:=⟨rfl,rfl,rfl,zT _,fun _ _ _ _=>rfl⟩
theorem mQ.trans(h:mQ p g u w)(k:mQ p g w w'):mQ p g u w':=
 ⟨k.os.trans h.os,k.tape.trans h.tape,k.output.trans h.output,zE h.size k.size,fun i hi h1 h2=>(k.block i (zG hi h.size) h1 h2).trans (h.block i hi h1 h2)⟩
theorem mQ.drew(h:mQ p g u w):mQ p g u w.drew:=⟨h.os,h.tape,h.output,h.size,h.block⟩
theorem mQ.of_below(h:Below w.heap.size w w'):mQ p g w w':=⟨h.os,h.tape,h.output,h.size,fun k hk _ _=>h.block k hk⟩
theorem mQ.setRow(cs:Array Value):mQ p g w (w.setRow p cs):=⟨rfl,rfl,rfl,by simp[World.setRow],fun k hk hp _=>jL w p k cs hp⟩
theorem mQ.setCell(o:Nat)(v:Value):mQ p g w (w.setCell ⟨p,o,none⟩ v):=⟨rfl,rfl,rfl,by simp,fun k hk hp _=>jM w _ v k hp⟩
theorem mQ.below(h:mQ p g w w'){B:Nat}(hB:B≤w.heap.size)(hp:B≤p)(hg:∀k,g=some k→B≤k):Below B w w':=
 ⟨h.os,h.tape,h.output,h.size,fun k hk=>h.block k oD oD (fun e=>by have:=hg k e.symm;omega)⟩
end
def Rd(w:World)(A:Option Addr)(L:List Int):Prop:=L≠[]→∃ad,A=some ad∧ad.block<w.heap.size∧∀j (h:j<L.length),w.cell? (ad.add j)=some (.int .u8 L[j])
theorem vQ(a:Addr)(n:Nat):(a.add n).block=a.block:=by unfold Addr.add;split<;>rfl
theorem oM(a:Addr)(i j:Nat):(a.add i).add j=a.add (i+j):=by
 unfold Addr.add;by_cases hi:i=0<;>by_cases hj:j=0<;>simp[hi,hj,qN]
theorem v4(g o j:Nat):(⟨g,o,none⟩:Addr).add j=⟨g,o+j,none⟩:=by unfold Addr.add;split<;>simp_all
section
variable {w w':World} {A:Option Addr} {L:List Int}
theorem Rd.nil:Rd w A []:=fun h=>absurd rfl h
theorem Rd.at_(h:Rd w A L){k:Nat}(hk:k<L.length):∃ad,A=some ad∧ad.block<w.heap.size∧w.cell? (ad.add k)=some (.int .u8 L[k]):=by
 obtain⟨ad,e,hb,hc⟩:=h ZV;exact⟨ad,e,hb,hc k hk⟩
theorem Rd.block_lt'(h:Rd w A L)(hne:L≠[]){ad:Addr}(e:A=some ad):ad.block<w.heap.size:=by
 obtain⟨ad',e',hb,_⟩:=h hne;rw[e]at e';injection e' with e'
 rw[e'];exact hb
theorem Rd.keep(h:Rd w A L)(hs:w.heap.size≤w'.heap.size)(hk:∀ad,A=some ad→ad.block<w.heap.size→w'.heap[ad.block]?=w.heap[ad.block]?):Rd w' A L:=fun hne=>by
 obtain⟨ad,rfl,hb,hc⟩:=h hne;exact⟨ad,rfl,by omega,fun j hj=>(jT (a:=ad.add j) (by rw[vQ];exact hk ad rfl hb)).trans (hc j hj)⟩
theorem Rd.below(h:Rd w A L)(hb:Below w.heap.size w w'):Rd w' A L:=fun hne=>by
 obtain⟨ad,rfl,hlt,hc⟩:=h hne;exact⟨ad,rfl,zG hlt hb.size,fun j hj=>(hb.cell (p:=ad.add j) (by rw[vQ];exact hlt)).trans (hc j hj)⟩
theorem Rd.of_row(h:Row (Value.int .u8) w A L):Rd w A L:=fun hne=>by
 obtain⟨b,o,rfl,hb,hc⟩:=h hne;exact⟨_,rfl,hb,fun j hj=>by rw[v4];exact hc j hj⟩
theorem Rd.cut(h:Rd w A L){k cap:Nat}(hc:L.length≤cap):Rd w (if cap=k then A else A.map (·.add k)) (L.drop k):=fun hne=>by
 have hk:k<L.length:=by
  rcases jO k L.length with h1|h1
  ·exact h1
  ·exact absurd (List.drop_eq_nil_of_le h1) hne
 obtain⟨ad,rfl,hlt,hcell⟩:=h ZV;rw[zY oD];refine⟨ad.add k,rfl,by rw[vQ];exact hlt,fun j hj=>?_⟩;rw[jE]at hj;rw[oM,hcell (k+j) oD,List.getElem_drop]
end
theorem dV{w:World}{base:Nat}{e:TypeId}{n c:Nat}{A:Option Addr}{L:List Int}(h:w.ownsRow base e 1 (.slice A n c) n (L.map (Value.int .u8))):Rd w A L:=Rd.of_row (Row.of_own h)
theorem tA{o:Oper}{a:Act}{w w':World}{K:Act→World→Prop}{Q:Exit→Act→World→Prop}(d s:Operand)
  (ho:o.op=.call {callee:=.builtin .copy,args:=#[d,s],argTypes:=#[27,27]}) (ty:TypeId) (ht:o.type=ty) (X Y r:Value) (hd:a.eval d=X) (hs:a.eval s=Y)
  (hrun:(Builtin.copy_ #[27,27] ty #[X,Y]).run Try.prog w=.ok r w') (t:Nat) (hdst:o.dst=some t) (h:K ⟨a.tmps.setIfInBounds t r,a.defers⟩ w'):o.wp Try.prog a w K Q:=by
 subst ht;replace h:K (a.put o.dst r) w':=by rw[hdst];exact h
 unfold Oper.wp;simp[execOp,ho,resolve,invoke,builtin,hd,hs,hrun,Result.andThen];exact h
theorem tQ{w:World}(ty:TypeId)(p off n c:Nat)(dp:Option Addr)(hdp:0<n→dp=some ⟨p,off,none⟩)(A:Option Addr)(m k d:Nat)(hd:d=min m n)
  (L:List Int) (hL:L.length=m) (hR:Rd w A L) (cur:List Value) (t:TypeId) (hp:w.heap[p]?=some (.cells cur.toArray t (0,0))) (hn:off+n≤cur.length):
  ∃w',(Builtin.copy_ #[27,27] ty #[.slice dp n c,.slice A m k]).run Try.prog w=.ok (.int .i64 (d:Int)) w'∧w'.heap[p]?=some (.cells (splice cur off ((L.take n).map (Value.int .u8))).toArray t (0,0))∧∀g,mQ p g w w':=by
 have hl:((L.take n).map (Value.int .u8)).length=d:=by rw[qJ,z3,hL,hd];exact Nat.min_comm _ _
 have hu:Try.prog.underlying 27=some (.slice 5):=Try.underlying27;have hz:(Try.prog.info? 5).map (·.size)=some 1:=oS;have hmn:Nat.min m n=d:=hd.symm;by_cases h0:d=0
 ·have hrun:=run_copy_none (P:=Try.prog) w 27 27 ty 5 dp A n c m k hu hz (by rw[hmn,h0]);have e0:L.take n=[]:=jX (by rw[qJ]at hl;omega);refine⟨w,by rw[hrun,h0];rfl,by rw[e0];simpa [splice]using hp,fun g=>mQ.refl⟩
 ·obtain rfl:=hdp oD;obtain⟨ad,rfl,hb,hc⟩:=hR (by rintro rfl;simp at hL;omega);have hrun:=run_copy_row (P:=Try.prog) w 27 27 ty 5 p off n c ad m k cur.toArray t ((L.take n).map (Value.int .u8)) hu hz hp (by rw[hl,hmn])
   (fun j x hx=>by
    rw[qT]at hx;by_cases hj:j<(L.take n).length
    ·rw[z8 hj]at hx;have hj2:j<L.length:=by rw[z3]at hj;omega
     rw[hc j hj2,←hx,qC];rfl
    ·rw[qY oD]at hx;cases hx)
   (by rw[hl];simp;omega) (fun x hx=>by obtain⟨y,_,rfl⟩:=jV.1 hx;rfl)
  have e1:cur.toArray.toList.take off++(L.take n).map (Value.int .u8)++cur.toArray.toList.drop (off+((L.take n).map (Value.int .u8)).length)=splice cur off ((L.take n).map (Value.int .u8)):=by
   unfold splice;rw[zB]
  rw[e1,hl]at hrun;exact⟨_,hrun,setRow_heap w p _ _ _ _ hp,fun g=>mQ.setRow _⟩
theorem rG(L:List Int):∀u∈L.map (Value.int .u8),u.oneCell'=true:=fun u hu=>by
 obtain⟨y,_,rfl⟩:=jV.1 hu;rfl
theorem uC{w:World}{ad:Addr}{L:List Int}(hc:∀j (h:j<L.length),w.cell? (ad.add j)=some (.int .u8 L[j])):∀j u,(L.map (Value.int .u8))[j]?=some u→w.cell? (ad.add j)=some u:=fun j u hu=>by
 rw[qT]at hu;by_cases hj:j<L.length
 ·rw[z8 hj]at hu;rw[hc j hj];exact hu
 ·rw[qY oD]at hu;cases hu
end
section
open Go.RowKit
def eqP(P Q:Nat→Int):Bool:=(List.range' 0 16).all fun j=>decide (P j=Q j)
theorem eD(P Q:Nat→Int):eqP P Q=true↔∀j,j<16→P j=Q j:=by
 unfold eqP;rw[z6];constructor
 ·intro h j hj;exact qQ (h j (by rw[qW];omega))
 ·intro h j hj;rw[qW]at hj;exact zP (h j oD)
def xY(P:Nat→Int):List Int:=(List.range 16).map P
theorem vA(P:Nat→Int):(xY P).length=16:=by simp[xY]
theorem gB(P:Nat→Int)(j:Nat)(h:j<16)(h':j<(xY P).length):(xY P)[j]=P j:=by simp[xY]
end
section
open Go.RowKit Num
def pc(P:Nat→Int):Array Value:=((List.range 16).map fun j=>Value.int .u8 (P j)).toArray
theorem iC(P:Nat→Int):(pc P).size=16:=by simp[pc]
theorem fB(P:Nat→Int)(j:Nat)(hj:j<16):(pc P)[j]?=some (.int .u8 (P j)):=by simp[pc,hj]
theorem a9:mV Try.prog 37 16:=⟨⟨_,Try.underlying37,rfl⟩,by kernel_rfl⟩
theorem j2(w:World)(o:Obj):Below w.heap.size w (w.alloc o):=(zU _ _).alloc (zT _) _
theorem tB(x y:Int)(d:Nat)(w:World):(Op.equalIn (d+1) 5 (.int .u8 x) (.int .u8 y)).run Try.prog w=.ok (decide (x=y)) w:=by
 have e:(x==y)=decide (x=y):=by by_cases h:x=y<;>simp[h]
 rw[←e];simp[Op.equalIn,z9 Try.underlying5,go_sem]
theorem rN(P:Nat→Int)(j:Nat)(hj:j<16)(w:World):(part 5 (pc P) j).run Try.prog w=.ok (.int .u8 (P j)) w:=by
 simp[part,isAgg,zH,z9 Try.underlying5,fB P j hj]
theorem bF(P Q:Nat→Int)(D:Nat)(hD:∀(x y:Int) (w:World),(Op.equalIn D 5 (.int .u8 x) (.int .u8 y)).run Try.prog w=.ok (decide (x=y)) w)(w:World):
  (Op.equalIn (D+1) 37 (.agg (pc P)) (.agg (pc Q))).run Try.prog w=.ok (eqP P Q) w:=by
 have hi:(Try.prog.info? 5).map (·.size)=some 1:=oS;cases hq:Try.prog.info? 5 with
 |none=>simp[hq]at hi
 |some i=>
  have hs:i.size=1:=ZJ
  simp only[Op.equalIn,zH,z9 Try.underlying37,Result.andThen_ok,sizeOf,typeInfo,hq,hs,Sem.run_pure]
  have go:∀l:List Nat,(∀i∈l,i<16)→(forIn (m:=Sem) l ((none:Option Bool),()) (fun i _=>do
      let a←part 5 (pc P) i
      let b←part 5 (pc Q) i
      let r←Op.equalIn D 5 a b
      if r=false then pure (ForInStep.done (some false,()))else pure (ForInStep.yield (none,())))).run Try.prog w=.ok ((if l.all (fun j=>decide (P j=Q j))then none else some false),()) w:=by
   intro l;induction l with
   |nil=>intro _;simp
   |cons k l ih=>
    intro hl
    simp only[List.forIn_cons,zH,rN P k (hl k oC),rN Q k (hl k oC),Result.andThen_ok,hD]
    by_cases hk:P k=Q k
    ·simp[hk]
     have:=ih fun i hi=>hl i (by simp[hi])
     simpa using this
    ·simp[hk]
  have hgo:=go (List.range' 0 16) fun i hi=>by have:=qW.1 hi;omega
  simp[zH,hq,hs,Std.Legacy.Range.forIn_eq_forIn_range']at hgo⊢
  rw[hgo]
  unfold eqP
  have ha:(List.range' 0 16).all (fun j=>decide (P j=Q j))=true↔∀x,x<16→P x=Q x:=by simp[z6,qW]
  by_cases hall:∀x,x<16→P x=Q x
  ·rw[ha.2 hall];simp only[Result.andThen_ok,zL hall];simp
  ·cases hb:(List.range' 0 16).all fun j=>decide (P j=Q j)
   ·simp only[Result.andThen_ok,zY hall];simp
   ·exact absurd (ha.1 hb) hall
theorem rX(P Q:Nat→Int)(d:Nat)(w:World):(Op.equalIn (d+2) 37 (.agg (pc P)) (.agg (pc Q))).run Try.prog w=.ok (eqP P Q) w:=bF P Q (d+1) (fun x y w=>tB x y d w) w
end
section
namespace Dec
inductive Pk|pNone|pX|pN|pXY|pXYN|pXNN|pAddr|pXAddr|pPlanes|pNext
def pkN:Pk→Nat
 |.pNone=>0
 |.pX=>1
 |.pN=>2
 |.pXY=>3
 |.pXYN=>4
 |.pXNN=>5
 |.pAddr=>6
 |.pXAddr=>7
 |.pPlanes=>8
 |.pNext=>9
theorem iE(a b:Pk)(h:pkN a=pkN b):a=b:=by cases a<;>cases b<;>first|rfl|cases h
instance:DecidableEq Pk:=fun a b=>decidable_of_iff (pkN a=pkN b) ⟨iE a b,fun h=>by rw[h]⟩
structure Rl where
 mask:Nat
 code:Nat
 op:Nat
 level:Nat
 pk:Pk
instance:DecidableEq Rl:=fun a b=>decidable_of_iff (a.mask=b.mask∧a.code=b.code∧a.op=b.op∧a.level=b.level∧a.pk=b.pk) ⟨fun⟨h1,h2,h3,h4,h5⟩=>by cases a;cases b;simp only at h1 h2 h3 h4 h5;subst h1 h2 h3 h4 h5;rfl,fun h=>by rw[h];exact⟨rfl,rfl,rfl,rfl,rfl⟩⟩
def noRl:Rl:=⟨0,0,0,0,.pNone⟩
def rls:List Rl:=[
 ⟨65535,224,1,1,.pNone⟩,
 ⟨65535,238,2,1,.pNone⟩,
 ⟨61440,4096,3,1,.pAddr⟩,
 ⟨61440,8192,4,1,.pAddr⟩,
 ⟨61440,12288,5,1,.pXNN⟩,
 ⟨61440,16384,6,1,.pXNN⟩,
 ⟨61455,20480,7,1,.pXY⟩,
 ⟨61440,24576,8,1,.pXNN⟩,
 ⟨61440,28672,9,1,.pXNN⟩,
 ⟨61455,32768,10,1,.pXY⟩,
 ⟨61455,32769,11,1,.pXY⟩,
 ⟨61455,32770,12,1,.pXY⟩,
 ⟨61455,32771,13,1,.pXY⟩,
 ⟨61455,32772,14,1,.pXY⟩,
 ⟨61455,32773,15,1,.pXY⟩,
 ⟨61455,32774,16,1,.pXY⟩,
 ⟨61455,32775,17,1,.pXY⟩,
 ⟨61455,32782,18,1,.pXY⟩,
 ⟨61455,36864,19,1,.pXY⟩,
 ⟨61440,40960,20,1,.pAddr⟩,
 ⟨61440,45056,21,1,.pXAddr⟩,
 ⟨61440,49152,22,1,.pXNN⟩,
 ⟨61455,53248,41,2,.pXY⟩,
 ⟨61440,53248,23,1,.pXYN⟩,
 ⟨61695,57502,24,1,.pX⟩,
 ⟨61695,57505,25,1,.pX⟩,
 ⟨61695,61447,26,1,.pX⟩,
 ⟨61695,61450,27,1,.pX⟩,
 ⟨61695,61461,28,1,.pX⟩,
 ⟨61695,61464,29,1,.pX⟩,
 ⟨61695,61470,30,1,.pX⟩,
 ⟨61695,61481,31,1,.pX⟩,
 ⟨61695,61491,32,1,.pX⟩,
 ⟨61695,61525,33,1,.pX⟩,
 ⟨61695,61541,34,1,.pX⟩,
 ⟨65520,192,35,2,.pN⟩,
 ⟨65535,251,36,2,.pNone⟩,
 ⟨65535,252,37,2,.pNone⟩,
 ⟨65535,253,38,2,.pNone⟩,
 ⟨65535,254,39,2,.pNone⟩,
 ⟨65535,255,40,2,.pNone⟩,
 ⟨61695,61488,42,2,.pX⟩,
 ⟨61695,61557,43,2,.pX⟩,
 ⟨61695,61573,44,2,.pX⟩,
 ⟨65520,208,45,3,.pN⟩,
 ⟨61455,20482,46,3,.pXY⟩,
 ⟨61455,20483,47,3,.pXY⟩,
 ⟨65535,61440,48,3,.pNext⟩,
 ⟨61695,61441,49,3,.pPlanes⟩,
 ⟨65535,61442,50,3,.pNone⟩,
 ⟨61695,61498,51,3,.pX⟩]
def fit(n:Nat)(r:Rl):Bool:=Nat.beq (Nat.land n r.mask) r.code
def oG(n:Nat):List Rl→Rl
 |[]=>noRl
 |r::rs=>bif fit n r then r else oG n rs
def top(n:Nat):Rl:=oG n rls
structure Ins where
 op:Int
 x:Int
 y:Int
 n:Int
 nn:Int
 addr:Int
 len:Int
instance:DecidableEq Ins:=fun a b=>decidable_of_iff (a.op=b.op∧a.x=b.x∧a.y=b.y∧a.n=b.n∧a.nn=b.nn∧a.addr=b.addr∧a.len=b.len) ⟨fun⟨h1,h2,h3,h4,h5,h6,h7⟩=>by cases a;cases b;simp only at h1 h2 h3 h4 h5 h6 h7;subst h1 h2 h3 h4 h5 h6 h7;rfl,fun h=>by rw[h];exact⟨rfl,rfl,rfl,rfl,rfl,rfl,rfl⟩⟩
def pX(p:Pk)(x:Int):Int:=match p with| .pX| .pXY| .pXYN| .pXNN| .pXAddr=>x|_=>0
def pN(p:Pk)(x n:Int):Int:=match p with| .pN| .pXYN=>n| .pPlanes=>x|_=>0
def alwF(l x:Int):Bool:=decide ((l=2∧0≤x∧x≤7)∨(l=3∧0≤x∧x≤15))
def alw(r:Rl)(l x:Int):Bool:=bif (r.op==43||r.op==44)then alwF l x else(decide ((r.level:Int)≤l)&&decide (l≤3))
def dx(h:Nat):Nat:=h%16
def ok(b0 b1:Nat)(l:Int):Bool:=(top (b0*256+b1)).op !=0&&alw (top (b0*256+b1)) l (dx b0:Nat)
end Dec
end
section
open Go.RowKit Dec

section
variable {ops:Array Oper} {C:World→Prop} {i j:Ins}
end
end
section
open Go.RowKit
section
variable {P:Program} {ops:Array Oper} {rest:List Oper} {o:Oper} {a:Act} {w:World} {Q:Exit→Act→World→Prop}
theorem kD(hgd:o.guard=none)(ty:TypeId)(x:Operand)(ho:o.op=.box ty x)(cs:Array Value)(hx:a.eval x=.agg cs)
  (h:wpList P ops Q rest (a.put o.dst (.pointer (some ⟨w.heap.size,0,none⟩))) (w.alloc (.cells cs ty))):wpList P ops Q (o::rest) a w:=by
 refine zO hgd fun K hK=>?_;unfold Oper.wp execOp;simp only[ho,hx,Instr.box,newVar,newRow,newObj,zH,Result.andThen_ok,Sem.run_pure];exact hK _ _ h
end
end
section
open Go.RowKit Num
theorem cP(w:World)(ty:TypeId)(base:Nat)(v:Value)(n:Nat)(L0:List Int)(hown:w.ownsRow base 5 1 v n (L0.map (Value.int .u8)))(A:Option Addr)(m c:Nat)(L:List Int)(hR:Rd w A L)(hL:L.length=m)
  (h63:n+m≤1000000) (hbase:base≤w.heap.size):
  ∃v' w',(Builtin.append_ #[27,27] ty #[v,.slice A m c]).run Try.prog w=.ok v' w'∧w'.ownsRow base 5 1 v' (n+m) ((L0++L).map (Value.int .u8))∧w.grownBy w' v.ownBlock:=by
 obtain⟨i0,hi,hz0,hz1,hz2⟩:=info_parts gT;rcases A with _|ad
 ·have hm:m=0:=by
   rcases Nat.eq_zero_or_pos m with h|h
   ·exact h
   ·obtain⟨ad,e,_⟩:=hR (by rintro rfl;simp at hL;omega);cases e
  subst hm;obtain rfl:L=[]:=jX hL;refine⟨v,w,?_,by simpa using hown,World.grownBy.refl w _⟩;rcases hown.2 with⟨rfl,rfl⟩|⟨g,cap,cur,rfl,_,_,hnc,_⟩
  ·simp[Builtin.append_,z9 Try.underlying27,sizeOf,typeInfo,hi,Builtin.lenOf,Builtin.firstCells]
  ·simp[Builtin.append_,z9 Try.underlying27,sizeOf,typeInfo,hi,Builtin.lenOf,Builtin.firstCells,hnc,storeCells]
 ·have hc:∀j u,(L.map (Value.int .u8))[j]?=some u→w.cell? (ad.add j)=some u:=by
   by_cases hne:L=[]
   ·subst hne;intro j u hu;simp at hu
   ·obtain⟨ad',e,_,hc⟩:=hR hne;injection e with e
    subst e;exact uC hc
  obtain⟨v',w',hrun,h2,h3,_,_⟩:=run_append_own_at (P:=Try.prog) w base 27 ty 5 i0 (.int .u8 0) 1 1 Try.underlying27 hi hz0 hz1 hz2 rfl oD v n _ hown ad m c (L.map (Value.int .u8)) (by rw[qJ];omega) hc (rG L) oU oD hbase;exact⟨v',w',hrun,by rw[jY];exact h2,h3⟩
theorem r4{w:World}{o:Oper}{a:Act}{K:Act→World→Prop}{Q:Exit→Act→World→Prop}(s x:Operand)
  (ho:o.op=.call {callee:=.builtin .append,args:=#[s,x],argTypes:=#[27,27]}) (base:Nat) (v:Value) (n:Nat) (L0:List Int) (hs:a.eval s=v) (hown:w.ownsRow base 5 1 v n (L0.map (Value.int .u8)))
  (A:Option Addr) (m c:Nat) (L:List Int) (hx:a.eval x=.slice A m c) (hR:Rd w A L) (hL:L.length=m) (h63:n+m≤1000000) (hbase:base≤w.heap.size) (t:Nat) (hdst:o.dst=some t)
  (h:∀v' w',w'.ownsRow base 5 1 v' (n+m) ((L0++L).map (Value.int .u8))→w.grownBy w' v.ownBlock→K ⟨a.tmps.setIfInBounds t v',a.defers⟩ w'):o.wp Try.prog a w K Q:=by
 obtain⟨v',w',hrun,h2,h3⟩:=cP w o.type base v n L0 hown A m c L hR hL h63 hbase;have hk:=h v' w' h2 h3;replace hk:K (a.put o.dst v') w':=by rw[hdst];exact hk
 exact ZG
theorem lP{w:World}{ops:Array Oper}{rest:List Oper}{o:Oper}{a:Act}{Q:Exit→Act→World→Prop}(hgd:o.guard=none)(s x:Operand)
  (ho:o.op=.call {callee:=.builtin .append,args:=#[s,x],argTypes:=#[27,27]}) (base:Nat) (v:Value) (n:Nat) (L0:List Int) (hs:a.eval s=v) (hown:w.ownsRow base 5 1 v n (L0.map (Value.int .u8)))
  (A:Option Addr) (m c:Nat) (L:List Int) (hx:a.eval x=.slice A m c) (hR:Rd w A L) (hL:L.length=m) (h63:n+m≤1000000) (hbase:base≤w.heap.size)
  (h:∀v' w',w'.ownsRow base 5 1 v' (n+m) ((L0++L).map (Value.int .u8))→w.grownBy w' v.ownBlock→wpList Try.prog ops Q rest (a.put o.dst v') w'):wpList Try.prog ops Q (o::rest) a w:=by
 refine zO hgd fun K hK=>?_;obtain⟨v',w',hrun,h2,h3⟩:=cP w o.type base v n L0 hown A m c L hR hL h63 hbase;unfold Oper.wp execOp;simp only[ho,resolve,invoke,builtin,zH,Sem.run_pure,Result.andThen_ok,List.map_toArray,List.map_cons,List.map_nil,hs,hx,hrun];exact hK _ _ (h v' w' h2 h3)
structure j9(O:Nat→Prop)(w w':World):Prop where
 os:w'.os=w.os
 tape:w'.tape=w.tape
 output:w'.output=w.output
 size:w.heap.size≤w'.heap.size
 block:∀k,k<w.heap.size→¬O k→w'.heap[k]?=w.heap[k]?
def wD(O O':Nat→Prop)(n:Nat):Prop:=∀k,O' k→O k∨n≤k
section
variable {O O' O2:Nat→Prop} {u w w':World} {n m:Nat}
theorem wD.refl:wD O O n:=fun _ h=> .inl h
theorem wD.trans(h:wD O O' n)(h2:wD O' O2 m)(hm:n≤m):wD O O2 n:=fun k hk=>by
 rcases h2 k hk with h3|h3
 ·exact h k h3
 ·exact .inr (zE hm h3)
theorem wD.away(h:wD O O' n){k:Nat}(hk:k<n)(ho:¬O k):¬O' k:=fun c=>by
 rcases h k c with h1|h1
 ·exact ho h1
 ·omega
theorem j9.refl:j9 O w w:=⟨rfl,rfl,rfl,zT _,fun _ _ _=>rfl⟩
theorem j9.mono(h:j9 O w w')(ho:∀k,k<w.heap.size→O k→O' k):j9 O' w w':=⟨h.os,h.tape,h.output,h.size,fun k hk hn=>h.block k hk fun c=>hn (ho k hk c)⟩
theorem j9.trans(h:j9 O u w)(k:j9 O' w w')(hg:wD O O' u.heap.size):j9 O u w':=
 ⟨k.os.trans h.os,k.tape.trans h.tape,k.output.trans h.output,zE h.size k.size,fun i hi hn=>(k.block i (zG hi h.size) (hg.away hi hn)).trans (h.block i hi hn)⟩
theorem j9.of_below(h:Below w.heap.size w w'):j9 O w w':=⟨h.os,h.tape,h.output,h.size,fun k hk _=>h.block k hk⟩
theorem j9.of_apart{p:Nat}{g:Option Nat}(h:mQ p g w w'):j9 (fun k=>k=p∨some k=g) w w':=⟨h.os,h.tape,h.output,h.size,fun k hk hn=>h.block k hk (fun e=>hn (.inl e)) (fun e=>hn (.inr e))⟩
theorem j9.below(h:j9 O w w'){B:Nat}(hB:B≤w.heap.size)(ho:∀k,O k→B≤k):Below B w w':=
 ⟨h.os,h.tape,h.output,h.size,fun k hk=>h.block k oD fun c=>by have:=ho k c;omega⟩
theorem j9.cell(h:j9 O w w'){a:Addr}(ha:a.block<w.heap.size)(hn:¬O a.block):w'.cell? a=w.cell? a:=jT (h.block _ ha hn)
theorem Rd.kept{A:Option Addr}{L:List Int}(h:Rd w A L)(k:j9 O w w')(hn:∀ad,A=some ad→¬O ad.block):Rd w' A L:=h.keep k.size fun ad e hlt=>k.block _ hlt (hn ad e)
theorem j6{base size len:Nat}{e:TypeId}{v:Value}{xs:List Value}(h:w.ownsRow base e size v len xs)(k:j9 O w w')(hn:∀b,v.ownBlock=some b→¬O b):w'.ownsRow base e size v len xs:=by
 refine⟨h.1,h.2.imp id ?_⟩;rintro⟨b,cap,cur,rfl,hb,hh,r⟩;exact⟨b,cap,cur,rfl,hb,(k.block b (qH.1 hh).1 (hn b rfl)).trans hh,r⟩
end
end
end Go.Proofs.Ytilideoeaecoaaa
