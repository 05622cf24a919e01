/- Round, ScrFill, ScrWith, FlaBox, AppRd, FlaRef, KeyNum, KeyBox, KeyRef, RanNum, Ran, RanMake, KeyApply, KeyAll, StkBox, AudBox, CalmBlk, Stk, Right, Addr, AddrRef, StkList, Same, KeyApp. -/
import Derived.Test.YthknmadinmigfaaGreatDoorRows
import Derived.Test.YthknmadinmigfaaGreatDoorMk0b
set_option maxRecDepth 400000
set_option maxHeartbeats 64000000
set_option linter.unusedVariables false
set_option linter.unusedSimpArgs false
namespace Go.Proofs.YthknmadinmigfaaGreatDoor
section
open Go.RowKit
def GC(ops:Array Oper):Bool:=ops.toList.all fun o=>match o.op with| .defer _=>false|_=>true
section
variable {P:Program} {ops:Array Oper} {C:World→Prop} {Q:Exit→Act→World→Prop} {l:Nat} {n:Nat}
theorem zQL{o:Oper}{a:Act}{w:World}{K K':Act→World→Prop}(hd:∀c,o.op≠ .defer c)(hK:∀a w,K a w→K' a w)(hQ:¬LetsOut Q)(h:o.wp P a w K Q):o.wpIn (Fence.wide.inRound l) n P a w K' Q:=by
 unfold Oper.wp at h;unfold Oper.wpIn;refine⟨fun _ _=>trivial,?_⟩;rw[Oper.semAt_eq _ _ _ hd];generalize (execOp a.eval o).run P w=r at*;cases r with
 |ok x w'=>
  cases x<;>simp only[Oper.upon,Oper.uponIn]at h⊢
  case value v=>exact hK _ _ h
  case skip=>exact hK _ _ h
  case defer d=>exact hK _ _ h
  case enter f args=>
   refine⟨fun hs=>by simp[Fence.wide]at hs,?_⟩
   refine CallsIn.inRound l (callsIn_wide.2 (h.mono ?_))
   intro e w'' he
   cases e with
   |returned v=>exact hK _ _ he
   |panicked c=>exact he
   |outgrown=>exact he
  case row row args=>
   refine⟨fun hs=>by simp[Fence.wide]at hs,fun c cs _=>?_⟩
   obtain⟨v,w'',hr,hs⟩:=h c cs
   exact⟨v,w'',hK _ _ hr,stepsIn_wide.2 hs⟩
 |halt x w'=>cases x<;>simp only[Oper.upon,Oper.uponIn]at h⊢;exact h
theorem gU(hd:GC ops=true)(hQ:¬LetsOut Q):∀(is:List Nat) (a:Act) (w:World),wpOps P ops Q is a w→wpOpsIn (Fence.wide.inRound l) n P ops Q is a w
 |[],a,w,h=>h
 |i::is,a,w,h=>by
  simp only[wpOps]at h;simp only[wpOpsIn];cases ho:ops[i]? with
  |none=>rw[ho]at h;exact gU hd hQ is a w h
  |some o=>
   rw[ho]at h
   have hnd:∀c,o.op≠ .defer c:=by
    intro c hc;have hm:o∈ops.toList:=by
     rw[Array.mem_toList_iff];exact kP ho
    have:=(jN.1 hd) o hm;rw[hc]at this;cases this
   simp only at h⊢
   by_cases hw:Region.wanted o (yielded ops a.tmps)=true
   ·rw[zN hw]at h⊢
    rcases h with h|⟨_,h⟩
    ·exact zQL hnd (fun a w h=>gU hd hQ is a w h) hQ h
    ·exact absurd h hQ
   ·rw[zL hw]at h⊢
    exact⟨fun _ _=>trivial,gU hd hQ is _ w h⟩
theorem sJ{id:Nat}{a:Act}{w:World}{ls:List Oper}(c0:Nat)(bs:List (List Nat×Nat×Bool))(is0 last:List Nat)(hm:P.follows .mixedOrders=true)
  (hB:(Region.noSelect ls.toArray&&pU .any ls.toArray c0 bs is0 last (Array.replicate ls.toArray.size false)&&decide (uE bs is0 last≤ls.toArray.size)&&GC ls.toArray)=true)
  (hQ:∀(c:_) (a:Act) (d:Option Tmp) (v:Value) (w:World),Q (.panic c) (a.put d v) w→Q (.panic c) a w) (hO:∀a w,¬Q .outgrown a w) (hC:∀w w',C w→Gr w w'→C w') (hw:C w.drew)
  (h:∀wd,wd=w.drew→vA P ls.toArray C Q c0 bs is0 last a wd):(Code.region id ls.toArray true).wpIn (Fence.wide.inRound l) n P Q a w:=by
 simp only[zC,qB]at hB;obtain⟨⟨⟨hs,hb⟩,hle⟩,hd⟩:=hB;refine wpIn_region_draw fun t=>?_;refine gU hd (fun⟨a,w,h⟩=>hO a w h) _ _ _ ?_;simp only[Region.schedule,hm,Bool.true_or,if_true];refine wpAny_sound ls.toArray.size t _ a _ ?_;refine rK (C:=C) (c0:=c0) _ _ _ _ ?_;have:=bT (md:=.any) hs hQ hC (ls.toArray.size-uE bs is0 last) is0 last bs (Array.replicate ls.toArray.size false) a w.drew hw hb (h _ rfl);rwa [Nat.sub_add_cancel hle]at this
end
end
section
open Go.RowKit Num
def Rd8(w:World)(A:Option Addr)(L:List Nat):Prop:=L≠[]→∃ad,A=some ad∧ad.block<w.heap.size∧∀j (h:j<L.length),w.cell? (ad.add j)=some (.int .u8 (L[j]:Int))
theorem T6(a:Addr)(n:Nat):(a.add n).block=a.block:=by unfold Addr.add;split<;>rfl
section
variable {w w':World} {A:Option Addr} {L:List Nat}
theorem Rd8.nil:Rd8 w A []:=fun h=>absurd rfl h
theorem Rd8.at_(h:Rd8 w A L){k:Nat}(hk:k<L.length):∃ad,A=some ad∧ad.block<w.heap.size∧w.cell? (ad.add k)=some (.int .u8 (L.getD k 0:Int)):=by
 obtain⟨ad,hA,hb,hc⟩:=h zMW;exact⟨ad,hA,hb,by rw[hc k hk];simp[hk]⟩
theorem Rd8.step(h:Rd8 w A L)(hb:Below w.heap.size w w'):Rd8 w' A L:=fun hne=>by
 obtain⟨ad,hA,hlt,hc⟩:=h hne;exact⟨ad,hA,zF hlt hb.size,fun j hj=>(hb.cell (p:=ad.add j) (by rw[T6];exact hlt)).trans (hc j hj)⟩
end
structure Bys(g n:Nat)(F:Nat→Nat)(w:World):Prop where
 lt:g<w.heap.size
 at_:∀j,j<n→w.cell? ⟨g,j,none⟩=some (.int .u8 (F j:Int))
 fz:∀j,j<n→w.frozen? ⟨g,j,none⟩=false
section
variable {g n:Nat} {F F':Nat→Nat} {w w':World}
theorem Bys.below(H:Bys g n F w){m:Nat}(hb:Below m w w')(hn:g<m):Bys g n F w':=
 ⟨zF H.lt hb.size,fun j hj=>(hb.cell (p:=⟨g,j,none⟩) hn).trans (H.at_ j hj),fun j hj=>(hb.frozen (p:=⟨g,j,none⟩) hn).trans (H.fz j hj)⟩
theorem Bys.step(H:Bys g n F w)(hb:Below w.heap.size w w'):Bys g n F w':=H.below hb H.lt
theorem Bys.congr(H:Bys g n F w)(h:∀j,j<n→F j=F' j):Bys g n F' w:=⟨H.lt,fun j hj=>by rw[←h j hj];exact H.at_ j hj,H.fz⟩
theorem Bys.set(H:Bys g n F w){k:Nat}(hk:k<n)(v:Nat):Bys g n (fun j=>if j=k then v else F j) (w.setCell ⟨g,k,none⟩ (.int .u8 (v:Int))):=by
 exact zM5
theorem Bys.rd{n0:Nat}(H:Bys g n F w)(h:n0=n):Rd8 w (some ⟨g,0,none⟩) ((List.range n0).map F):=fun _=>by
 subst h;refine⟨_,rfl,H.lt,fun j hj=>?_⟩;have hj:j<n0:=by simpa using hj
 have e:(⟨g,0,none⟩:Addr).add j=⟨g,j,none⟩:=by unfold Addr.add;split<;>simp_all
 rw[e,H.at_ j hj];simp
end
theorem Bys.new(w:World)(n:Nat):Bys w.heap.size n (fun _=>0) (w.alloc (.cells (arr (List.replicate n 0)) 5)):=
 ⟨by simp,fun j hj=>by rw[World.cell?_alloc_at _ _ _ _ rfl,aJ _ _ (by simpa using hj)];simp,fun j hj=>World.frozen?_alloc_at _ _ _ _ rfl⟩
def encP(N g:Nat):Value:=.slice (some ⟨g,0,none⟩) N N
section
variable {q:Nat} {v:Value} {hi:Bool} {M:Int} {w w':World}
end
def ov(P:Nat→Int)(L:List Int)(j:Nat):Int:=L.getD j (P j)
theorem zY9(P:Nat→Int)(L:List Int)(j:Nat)(h:j<L.length):ov P L j=L[j]:=by simp[ov,h]
theorem zQW(P:Nat→Int)(L:List Int)(j:Nat)(h:¬j<L.length):ov P L j=P j:=by simp[ov,qV,qW (Nat.le_of_not_lt h)]
def cl(n:Int):Nat:=(min (max n 0) 16).toNat
theorem cl_le(n:Int):cl n≤16:=by unfold cl;omega
theorem cl_eq(n:Int):min (max n 0) 16=(cl n:Int):=by unfold cl;omega
theorem cl_nat(k:Nat)(h:k≤16):cl (k:Int)=k:=by unfold cl;omega
theorem gO(P:Nat→Int)(j:Nat):(yL P)[j]?=if j<16 then some (P j)else none:=by
 by_cases h:j<16
 ·rw[zN h,zP (by rw[mG];exact h),uH _ _ h]
 ·rw[zL h,qW zL8]
theorem UY(P:Nat→Int)(k:Nat)(h:k≤16):((yL P).take k).length=k:=by rw[qT,mG];omega
theorem GH(P:Nat→Int):pc P=((yL P).map (Value.int .u8)).toArray:=by
 apply qZ
 intro j
 have e:((yL P).map (Value.int .u8)).toArray[j]?=((yL P)[j]?).map (Value.int .u8):=by rw[←jQ];exact zX
 rw[e,gO];by_cases h:j<16
 ·rw[yT _ _ h,zN h];rfl
 ·rw[zD zMT,zL h];rfl
theorem zQO(P:Nat→Int)(L:List Int):splice (yL P) 0 (L.take 16)=yL (ov P L):=by
 apply kQ
 intro j
 have ll:(L.take 16).length≤16:=by rw[qT];omega
 rw[xA _ _ _ zL8,zL zLS,qY,gO,gO];by_cases h1:j<(L.take 16).length
 ·have h2:j<L.length:=by rw[qT]at h1;omega
  rw[zN h1,zN zLS,Nat.sub_zero,zP h1,j8,zY9 _ _ _ h2]
 ·rw[zL h1];by_cases h2:j<16
  ·rw[zN h2,zN h2,zQW _ _ _ (by rw[qT]at h1;omega)]
  ·rw[zL h2,zL h2]
theorem zKG(P:Nat→Int)(L:List Int):(splice ((yL P).map (Value.int .u8)) 0 ((L.take 16).map (Value.int .u8))).toArray=pc (ov P L):=by
 rw[dY,zQO,←GH]
theorem T4:nI Tryz.prog 67 16:=⟨⟨_,Tryz.underlying67,rfl⟩,by kernel_rfl⟩
theorem zXZ:nG Tryz.prog 67 (pc lO):=by
 unfold nG;rw[nX];kernel_rfl
theorem zeroF(w:World):(zeroValue 67).run Tryz.prog w=.ok (.agg (pc lO)) w:=uU zXZ
def FB(b:Nat)(P:Nat→Int)(w:World):Prop:=Blk b 67 (pc P) w
section
variable {b:Nat} {P Q:Nat→Int} {w w':World}
theorem FB.lt(H:FB b P w):b<w.heap.size:=Blk.lt H
theorem FB.below(H:FB b P w){n:Nat}(hb:Below n w w')(hn:b<n):FB b P w':=Blk.below H hb hn
theorem FB.step(H:FB b P w)(hb:Below w.heap.size w w'):FB b P w':=Blk.step H hb
theorem FB.new(w:World)(P:Nat→Int):FB w.heap.size P (w.alloc (.cells (pc P) 67)):=Blk.new _ _ _
theorem FB.alloc(H:FB b P w)(o:Obj):FB b P (w.alloc o):=Blk.alloc H o
theorem FB.drew(H:FB b P w):FB b P w.drew:=H
theorem FB.otherRow(H:FB b P w){g:Nat}(hg:b≠g)(ds:Array Value):FB b P (w.setRow g ds):=Blk.otherRow H hg ds
theorem FB.other(H:FB b P w){g:Nat}(hg:b≠g)(o:Nat)(v:Value):FB b P (w.setCell ⟨g,o,none⟩ v):=Blk.other H hg o v
theorem FB.cell(H:FB b P w){j:Nat}(hj:j<16):w.cell? ⟨b,j,none⟩=some (.int .u8 (P j)):=by rw[Blk.cell H,yT _ _ hj]
theorem FB.fz(H:FB b P w)(j:Nat):w.frozen? ⟨b,j,none⟩=false:=Blk.frozen H j
theorem FB.store(H:FB b P w)(Q:Nat→Int):FB b Q (w.setRow b (pc Q)):=Blk.store H _
theorem FB.rd(H:FB b P w):Rd w (some ⟨b,0,none⟩) (yL P):=fun _=>by
 exact zN8
theorem zKV{A:Option Addr}{L:List Int}(H:Rd w A L)(k:Nat):Rd w A (L.take k):=fun hne=>by
 obtain⟨ad,e,hb,hc⟩:=H (by rintro rfl;simp at hne);refine⟨ad,e,hb,fun j hj=>?_⟩;rw[qT]at hj;rw[hc j zLS,j8]
end
theorem IK{B:Nat}{a w:World}(h:Below B a w){g:Nat}(hg:B≤g)(cs:Array Value):Below B a (w.setRow g cs):=lC h hg cs
section
variable {ops:Array Oper} {C:World→Prop} {Q':Act→Prop} {o:Oper} {rest:List Oper} {a:Act} {P Q:Nat→Int} {b:Nat}
end
theorem oH(w:World)(ty:TypeId)(base:Nat)(v:Value)(n:Nat)(L0:List Int)(hown:w.ownsRow base 5 1 v n (L0.map (Value.int .u8)))(A:Option Addr)(m c:Nat)(L:List Int)(hR:Rd w A L)(hL:L.length=m)
  (h63:n+m≤1000000) (hbase:base≤w.heap.size):
  ∃v' w',(Builtin.append_ #[22,22] ty #[v,.slice A m c]).run Tryz.prog w=.ok v' w'∧w'.ownsRow base 5 1 v' (n+m) ((L0++L).map (Value.int .u8))∧w.grownBy w' v.ownBlock:=by
 obtain⟨i0,hi,hz0,hz1,hz2⟩:=kM rI;rcases A with _|ad
 ·have hm:m=0:=by
   rcases Nat.eq_zero_or_pos m with h|h
   ·exact h
   ·obtain⟨ad,e,_⟩:=hR (by rintro rfl;simp at hL;omega);cases e
  subst hm;obtain rfl:L=[]:=jG hL;refine⟨v,w,?_,by simpa using hown,World.grownBy.refl w _⟩;rcases hown.2 with⟨rfl,rfl⟩|⟨g,cap,cur,rfl,_,_,hnc,_⟩
  ·simp[Builtin.append_,q9 Tryz.underlying22,sizeOf,typeInfo,hi,Builtin.lenOf,Builtin.firstCells]
  ·simp[Builtin.append_,q9 Tryz.underlying22,sizeOf,typeInfo,hi,Builtin.lenOf,Builtin.firstCells,hnc,storeCells]
 ·have hc:∀j u,(L.map (Value.int .u8))[j]?=some u→w.cell? (ad.add j)=some u:=by
   by_cases hne:L=[]
   ·subst hne;intro j u hu;simp at hu
   ·obtain⟨ad',e,_,hc⟩:=hR hne;injection e with e
    subst e;exact OD hc
  obtain⟨v',w',hrun,h2,h3,_,_⟩:=run_append_own_at (P:=Tryz.prog) w base 22 ty 5 i0 (.int .u8 0) 1 1 Tryz.underlying22 hi hz0 hz1 hz2 rfl zLS v n _ hown ad m c (L.map (Value.int .u8)) (by rw[jE];omega) hc (F5 L) zL6 zLS hbase;exact⟨v',w',hrun,by rw[kY];exact h2,h3⟩
theorem rN{w:World}{ops:Array Oper}{rest:List Oper}{o:Oper}{a:Act}{Q:Exit→Act→World→Prop}(hgd:o.guard=none)(s x:Operand)
  (ho:o.op=.call {callee:=.builtin .append,args:=#[s,x],argTypes:=#[22,22]}) (base:Nat) (v:Value) (n:Nat) (L0:List Int) (hs:a.eval s=v) (hown:w.ownsRow base 5 1 v n (L0.map (Value.int .u8)))
  (A:Option Addr) (m c:Nat) (L:List Int) (hx:a.eval x=.slice A m c) (hR:Rd w A L) (hL:L.length=m) (h63:n+m≤1000000) (hbase:base≤w.heap.size)
  (h:∀v' w',w'.ownsRow base 5 1 v' (n+m) ((L0++L).map (Value.int .u8))→w.grownBy w' v.ownBlock→wpList Tryz.prog ops Q rest (a.put o.dst v') w'):wpList Tryz.prog ops Q (o::rest) a w:=by
 refine qH hgd fun K hK=>?_;obtain⟨v',w',hrun,h2,h3⟩:=oH w o.type base v n L0 hown A m c L hR hL h63 hbase;unfold Oper.wp execOp;simp only[ho,resolve,invoke,builtin,zA,Sem.run_pure,Result.andThen_ok,List.map_toArray,List.map_cons,List.map_nil,hs,hx,hrun];exact hK _ _ (h v' w' h2 h3)

end
section
structure Ev where
 k:Int
 d:Bool
instance:Inhabited Ev:=⟨⟨0,false⟩⟩
def ap(K:Nat→Bool)(e:Ev):Nat→Bool:=fun j=>if(0≤e.k∧e.k≤15)∧j=e.k.toNat then e.d else K j
def rel(K:Nat→Bool)(e:Ev):Bool:=decide (0≤e.k∧e.k≤15)&&(K e.k.toNat&& !e.d)
def aft(K:Nat→Bool)(l:List Ev):Nat→Bool:=l.foldl ap K
def one(K:Nat→Bool)(e:Ev):List Int:=if rel K e=true then[e.k]else[]
def up:Nat→Bool:=fun _=>false
theorem ap_in{K:Nat→Bool}{e:Ev}{n:Nat}(h:e.k=(n:Int))(hn:n<16):ap K e=fun j=>if j=n then e.d else K j:=by
 funext j
 unfold ap;rw[h];by_cases hj:j=n
 ·rw[zN ⟨⟨by omega,by omega⟩,by omega⟩,zN hj]
 ·rw[zL (fun q=>hj zLS),zL hj]
theorem ap_out{K:Nat→Bool}{e:Ev}(h:¬(0≤e.k∧e.k≤15)):ap K e=K:=by
 funext j
 unfold ap;rw[zL (fun q=>h q.1)]
theorem rel_in{K:Nat→Bool}{e:Ev}{n:Nat}(h:e.k=(n:Int))(hn:n<16):rel K e=(K n&& !e.d):=by
 unfold rel;rw[h,qJ zLS,Bool.true_and,Int.toNat_natCast]
theorem zX9{K:Nat→Bool}{e:Ev}(h:¬(0≤e.k∧e.k≤15)):rel K e=false:=by
 unfold rel;rw[zU h,Bool.false_and]
theorem key_or(k:Int):(∃n:Nat,k=(n:Int)∧n<16)∨¬(0≤k∧k≤15):=by
 by_cases h:0≤k∧k≤15
 ·exact .inl ⟨k.toNat,by omega,by omega⟩
 ·exact .inr h
theorem DT(K:Nat→Bool):aft K []=K:=rfl
theorem zJC(K:Nat→Bool)(e:Ev)(l:List Ev):aft K (e::l)=aft (ap K e) l:=rfl
theorem zYF(K:Nat→Bool)(l m:List Ev):aft K (l++m)=aft (aft K l) m:=List.foldl_append
def dn(l:List Ev)(key:Int):Bool:=decide (0≤key∧key≤15)&&aft up l key.toNat
theorem dn_nil(key:Int):dn [] key=false:=by
 unfold dn;rw[DT];simp[up]
def zLK(K:Nat→Bool)(a:Nat):Nat→Int
 |0=> -1
 |n+1=>if K a then(a:Int)else zLK K (a+1) n
def low(K:Nat→Bool):Int:=zLK K 0 16
end
section
open Go.RowKit Num
def kc(K:Nat→Bool):Array Value:=((List.range 16).map fun j=>Value.bool (K j)).toArray
theorem vQ(K:Nat→Bool):(kc K).size=16:=by simp[kc]
theorem dR(K:Nat→Bool)(j:Nat)(hj:j<16):(kc K)[j]?=some (.bool (K j)):=by simp[kc,hj]
theorem JI(K:Nat→Bool):nU (kc K):=by
 unfold nU;rw[qC];intro v hv;simp only[kc,kK,jV,jM]at hv;obtain⟨j,_,rfl⟩:=hv;rfl
theorem kc_put(K:Nat→Bool)(n:Nat)(hn:n<16)(v:Bool):(kc K).setIfInBounds n (.bool v)=kc fun j=>if j=n then v else K j:=by
 apply qZ
 intro j
 rw[qX,vQ];by_cases h1:n=j
 ·subst h1;rw[zN rfl,zN hn,dR _ _ hn,zN rfl]
 ·rw[zL h1];by_cases h3:j<16
  ·rw[dR _ _ h3,dR _ _ h3,zL (fun e=>h1 e.symm)]
  ·rw[zD (by rw[vQ];omega),zD (by rw[vQ];omega)]
theorem rL:nI Tryz.prog 61 16:=⟨⟨_,Tryz.underlying61,rfl⟩,by kernel_rfl⟩
theorem H6:nG Tryz.prog 61 (kc up):=by
 unfold nG;rw[vQ];kernel_rfl
theorem LP(w:World):(zeroValue 61).run Tryz.prog w=.ok (.agg (kc up)) w:=uU H6
def KB(b:Nat)(K:Nat→Bool)(w:World):Prop:=Blk b 61 (kc K) w
section
variable {b:Nat} {K L:Nat→Bool} {w w':World}
theorem KB.lt(H:KB b K w):b<w.heap.size:=Blk.lt H
theorem KB.below(H:KB b K w){n:Nat}(hb:Below n w w')(hn:b<n):KB b K w':=Blk.below H hb hn
theorem KB.step(H:KB b K w)(hb:Below w.heap.size w w'):KB b K w':=Blk.step H hb
theorem KB.new(w:World)(K:Nat→Bool):KB w.heap.size K (w.alloc (.cells (kc K) 61)):=Blk.new _ _ _
theorem KB.alloc(H:KB b K w)(o:Obj):KB b K (w.alloc o):=Blk.alloc H o
theorem KB.drew(H:KB b K w):KB b K w.drew:=H
theorem KB.other(H:KB b K w){g:Nat}(hg:b≠g)(o:Nat)(v:Value):KB b K (w.setCell ⟨g,o,none⟩ v):=Blk.other H hg o v
theorem KB.otherRow(H:KB b K w){g:Nat}(hg:b≠g)(ds:Array Value):KB b K (w.setRow g ds):=Blk.otherRow H hg ds
theorem KB.cell(H:KB b K w){j:Nat}(hj:j<16):w.cell? ⟨b,j,none⟩=some (.bool (K j)):=by rw[Blk.cell H,dR _ _ hj]
theorem KB.fz(H:KB b K w)(j:Nat):w.frozen? ⟨b,j,none⟩=false:=Blk.frozen H j
theorem KB.store(H:KB b K w)(L:Nat→Bool):KB b L (w.setRow b (kc L)):=Blk.store H _
theorem KB.put(H:KB b K w){n:Nat}(hn:n<16)(v:Bool):KB b (fun j=>if j=n then v else K j) (w.setCell ⟨b,n,none⟩ (.bool v)):=(Blk.put H n _).eq (kc_put K n hn v)
end
section
variable {ops:Array Oper} {C:World→Prop}
end
theorem wU{P:Program}{fn:Func}{p q:Tmp}{ty:TypeId}(h:fn.results=#[.cell p ty,.tmp q])(tmps:Array Value)(w:World)(g:Nat)(t:TypeId)(cs:Array Value)(fr:Nat×Nat)(d:TypeDesc)(v:Value)
  (hp:tmps.getD p undef=.pointer (some ⟨g,0,none⟩)) (hq:tmps.getD q undef=v) (hg:w.heap[g]?=some (.cells cs t fr))
  (hu:P.underlying ty=some d) (hd:(match d with| .struct _| .array _ _=>true|_=>false)=true) (hi:(P.info? ty).map (·.size)=some cs.size):
  (results fn tmps).run P w=.ok (.tuple #[.agg cs,v]) w:=by
 exact zNG
theorem QK{B:Nat}{a w:World}(h:Below B a w){g:Nat}(hg:B≤g)(cs:Array Value):Below B a (w.setRow g cs):=lC h hg cs
theorem tT(w:World)(o:Obj):Below w.heap.size w (w.alloc o):=(zB _ _).alloc (zH _) _
def ec(e:Ev):Array Value:=#[.int .i64 e.k,.bool e.d]
theorem zW1(e:Ev):(ec e).size=2:=rfl
theorem aggEv:nI Tryz.prog 44 2:=⟨⟨_,Tryz.underlying44,rfl⟩,by kernel_rfl⟩
def Ev.ok(e:Ev):Prop:= -9223372036854775808≤e.k∧e.k≤9223372036854775807
structure Evs(w:World)(A:Option Addr)(n:Nat)(l:List Ev):Prop where
 len:l.length=n
 max:n≤maxLen
 at_:∀i (h:i<l.length),∃b o,A=some ⟨b,o,none⟩∧b<w.heap.size∧w.cell? ⟨b,o+i*2,none⟩=some (.int .i64 (l[i]).k)∧w.cell? ⟨b,o+i*2+1,none⟩=some (.bool (l[i]).d)∧(l[i]).ok
theorem Evs.step{w w':World}{A:Option Addr}{n:Nat}{l:List Ev}(h:Evs w A n l)(hb:Below w.heap.size w w'):Evs w' A n l:=
 ⟨h.len,h.max,fun i hi=>by
  obtain⟨b,o,e,lt,c1,c2,k⟩:=h.at_ i hi;exact⟨b,o,e,zF lt hb.size,(hb.cell (p:=⟨b,o+i*2,none⟩) lt).trans c1,(hb.cell (p:=⟨b,o+i*2+1,none⟩) lt).trans c2,k⟩⟩
theorem Evs.take{w:World}{A:Option Addr}{n:Nat}{l:List Ev}(h:Evs w A n l)(k:Nat)(hk:k≤n):Evs w A k (l.take k):=
 ⟨by rw[qT,h.len];omega,zR hk h.max,fun i hi=>by
  rw[qT]at hi;rw[j8];exact h.at_ i zLS⟩
theorem Evs.drop{w:World}{A A':Option Addr}{n:Nat}{l:List Ev}(h:Evs w A n l)(k:Nat)(hk:k≤n)(hA:∀b o,A=some ⟨b,o,none⟩→k<n→A'=some ⟨b,o+k*2,none⟩):Evs w A' (n-k) (l.drop k):=
 ⟨by rw[jH,h.len],zR (Nat.sub_le _ _) h.max,fun i hi=>by
  rw[jH]at hi;obtain⟨b,o,e,lt,c1,c2,ok⟩:=h.at_ (k+i) zLS;rw[List.getElem_drop];refine⟨b,o+k*2,hA b o e (by have:=h.len;omega),lt,?_,?_,ok⟩
  ·rw[show o+k*2+i*2=o+(k+i)*2 by omega];exact c1
  ·rw[show o+k*2+i*2+1=o+(k+i)*2+1 by omega];exact c2⟩

end
section
def nxt(L:List Int)(k:Nat):Int:=L.getD (k%L.length) 0
theorem zK2(k:Nat):nxt [] k=0:=by simp[nxt]
theorem zQT(L:List Int)(h:L.length=0)(k:Nat):nxt L k=0:=by
 rw[jG h];exact zK2 k
theorem nxt_lt(L:List Int)(k:Nat)(h:0<L.length):k%L.length<L.length:=kB _ h
theorem zK3(L:List Int)(k:Nat)(h:k%L.length<L.length):L[k%L.length]=nxt L k:=by
 unfold nxt;rw[qV,zP h,Option.getD_some]
end
section
open Go.RowKit Num
theorem iO(w:World)(o:Obj):Below w.heap.size w (w.alloc o):=(zB _ _).alloc (zH _) o
theorem TE(A:Option Addr)(n c:Nat)(w:World):
  Calls Tryz.prog 177 #[.slice A n c] w fun e w'=>e=.returned (.func (.func 202) #[] #[.pointer (some ⟨w.heap.size,0,none⟩)])∧w'=w.alloc (.cells #[.slice A n c] 22):=by
 go_enter Tryz.func177,Tryz.ntmps177;go_wp2;go_returns;exact⟨rfl,rfl⟩
theorem zQ0(A:Option Addr)(n c:Nat)(L:List Int)(k g:Nat)(w:World)(hc:w.cell? ⟨g,0,none⟩=some (.slice A n c))(H:Rd w A L)(hn:L.length=n)(n1:n≤1000000):
  Calls Tryz.prog 202 #[.int .u64 (k:Int),.pointer (some ⟨g,0,none⟩)] w fun e w'=>e=.returned (.int .u8 (nxt L k))∧Below w.heap.size w w':=by
 by_cases h0:n=0
 ·have E:=zW (zQT L (hn.trans h0) k);subst h0;clear H hn n1;go_enter Tryz.func202,Tryz.ntmps202;go_wp2;go_ret;exact⟨uW E.out.symm,by go_grown⟩
 ·obtain⟨j,hj⟩:∃j,k%L.length=j:=⟨_,rfl⟩;have hl:k%L.length<L.length:=nxt_lt L k zLS;obtain⟨ad,rfl,hb,c1⟩:=H.at_ hl;rw[zK3 L k hl,hj]at c1;rw[hj,hn]at hl;have u0:IntKind.u64.wrap (n:Int)=(n:Int):=by rw[IntKind.wrap_u64];omega
  have u1:((k:Int)%(n:Int))=(j:Int):=by rw[←hj,hn];rfl
  have u2:Int.tmod (k:Int) (n:Int)=(j:Int):=by rw[kL zLS];exact u1
  have u3:IntKind.u64.wrap (j:Int)=(j:Int):=by rw[IntKind.wrap_u64];omega
  have h0I:¬(n:Int)=0:=zLS;generalize nxt L k=x at*;clear hj hb H hn;go_enter Tryz.func202,Tryz.ntmps202;go_wp2;go_quiet (fail)
  go_wp2;go_ret;exact⟨rfl,⟨rfl,rfl,rfl,zH _,fun _ _=>rfl⟩⟩
theorem Blk.apart{b p:Nat}{T:TypeId}{cs:Array Value}{w w':World}(H:Blk b T cs w)(ha:mC p none w w')(hp:b≠p):Blk b T cs w':=(ha.block b H.lt hp (fun e=>by cases e)).trans H
structure St(base g:Nat)(L:List Int)(k:Nat)(w:World):Prop where
 low:base≤g
 held:∃A c,Blk g 186 #[.slice A L.length c,.int .u64 (k:Int)] w∧w.ownsRow base 5 1 (.slice A L.length c) L.length (L.map (Value.int .u8))
section
variable {base g p k:Nat} {L:List Int} {w w':World}
theorem St.lt(H:St base g L k w):g<w.heap.size:=by obtain⟨A,c,h,_⟩:=H.held;exact h.lt
theorem St.kept(H:St base g L k w)(ha:mC p none w w')(hp:g≠p)(hr:∀A c,w.ownsRow base 5 1 (.slice A L.length c) L.length (L.map (Value.int .u8))→(Value.slice A L.length c).ownBlock≠some p):St base g L k w':=by
 obtain⟨A,c,h,ho⟩:=H.held;exact⟨H.low,A,c,h.apart ha hp,rE ho ha (hr A c ho) (fun _ e=>by cases e)⟩
theorem St.step(H:St base g L k w)(hb:Below w.heap.size w w'):St base g L k w':=
 H.kept (p:=w.heap.size) (mC.of_below hb) (by have:=H.lt;omega) (fun A c ho e=>by have:=(ho.lt _ e).2;omega)
theorem St.alloc(H:St base g L k w)(o:Obj):St base g L k (w.alloc o):=H.step (iO w o)
theorem St.mono(H:St base g L k w){b':Nat}(hb:b'≤base):St b' g L k w:=by
 obtain⟨A,c,h,ho⟩:=H.held;exact⟨zR hb H.low,A,c,h,gX ho hb⟩
theorem St.under(H:St base g L k w)(ha:mC p none w w')(hp:p<base):St base g L k w':=
 H.kept ha (by have:=H.low;omega) (fun A c ho e=>by have:=(PM ho e).1;omega)
theorem St.other{b' k':Nat}{L':List Int}(H:St base g L k w)(ha:mC p none w w')(hp:g≠p)(X:St b' p L' k' w):St base g L k w':=
 H.kept ha hp (fun A c ho e=>by
  obtain⟨A',c',h',_⟩:=X.held;exact rQ ho h' zLA e)
theorem St.new{A:Option Addr}{n c:Nat}(ho:w.ownsRow base 5 1 (.slice A n c) n (L.map (Value.int .u8)))(hn:L.length=n)(hb:base≤w.heap.size)(k:Nat):St base w.heap.size L k (w.alloc (.cells #[.slice A n c,.int .u64 (k:Int)] 186)):=by
 subst hn;exact⟨hb,A,c,Blk.new _ _ _,ho.alloc _⟩
end
theorem zQD{base g k:Nat}{L:List Int}{w:World}(H:St base g L k w)(hk:k≤9223372036854775807)(n1:L.length≤1000000):
  Calls Tryz.prog 142 #[.pointer (some ⟨g,0,none⟩)] w fun e w'=>e=.returned (.int .u8 (nxt L k))∧St base g L (k+1) w'∧mC g none w w':=by
 obtain⟨A,c,h,ho⟩:=H.held;have HH:=zW (zM h (zM ho n1));have LT:=zW H.lt;have LO:=zW H.low;have c0:=h.cell 0;have c1:=h.cell 1;simp only[zX,zK,zV]at c0 c1;have k0:=lH.cell c0 H.lt;have k1:=lH.cell c1 H.lt;have kI:(k:Int)+1≤9223372036854775808:=zLS;have wr:IntKind.u64.wrap ((k:Int)+1)=(k:Int)+1:=by rw[IntKind.wrap_u64];omega
 clear h ho n1 hk c0 c1 H;go_enter Tryz.func142,Tryz.ntmps142;go_upto_region 3 with fail;refine mJ (C:=fun w'=>∃x:lH w,w'=x.w) [([0,1,2,3,5,6,7,8],4),([],9)] [10] zLE zLE (fun _ _ d _ _ h=>by cases d<;>exact h) ⟨⟨w.drew,(zB _ _).drew⟩,rfl⟩ ?_;intro wd hwd;have BD:=zW (show Below w.heap.size w wd by rw[hwd];exact(zB _ _).drew);clear hwd;refine mV zLC zLI ?_;repeat(go_big_quiet_step (fail))
 refine zY ?_;refine lA zLI ?_;intro K hK;go_wp2_with fail;refine(TE A L.length c wd).mono ?_;rintro e w1 ⟨rfl,hw1⟩;have B1:=zW (show Below w.heap.size w w1 by rw[hw1];exact BD.out.alloc BD.out.size _);have X1:=zW (show w1.cell? ⟨wd.heap.size,0,none⟩=some (.slice A L.length c) by rw[hw1];simp);clear hw1;simp only[];refine hK _ _ ⟨⟨w1,B1.out⟩,rfl⟩ ?_;clear hK K;refine mV zLC zLI ?_;refine zY ?_;refine lA zLI ?_;intro K hK;go_wp2_with fail;refine(zQ0 A L.length c L k wd.heap.size w1 X1.out ((JF HH.out.2.1).below B1.out) rfl HH.out.2.2).mono ?_;rintro e w2 ⟨rfl,b2⟩;have B2:=zW (B1.out.trans (b2.mono B1.out.size));clear b2 X1 B1 BD;simp only[];refine hK _ _ ⟨⟨w2,B2.out⟩,rfl⟩ ?_;clear hK K;refine nF zLC ?_;repeat(go_big_quiet_step (fail))
 refine zY ?_;clear k0 k1;have Y:=zW (HH.out.1.step B2.out);have c1:=Y.out.cell 1;have f1:=Y.out.frozen 1;simp only[zX,zK,zV]at c1;go_wp2;go_ret;have ap:mC g none w2 (w2.setCell ⟨g,1,none⟩ (.int .u64 ((k:Int)+1))):=mC.setCell _ _;have ow:w2.ownsRow base 5 1 (.slice A L.length c) L.length (L.map (Value.int .u8)):=rE (p:=w.heap.size) (g:=none) HH.out.2.1 (mC.of_below B2.out) (fun h=>by have:=(HH.out.2.1.lt _ h).2;omega) (fun k hk=>by cases hk);exact⟨rfl,⟨LO.out,A,c,(Y.out.put 1 (.int .u64 ((k:Int)+1))).eq zLO,rE ow ap (rQ ow Y.out zLA) (fun _ e=>by cases e)⟩,(mC.of_below B2.out).trans ap⟩
theorem iR(A:Option Addr)(n c:Nat)(L:List Int)(w:World)(H:Rd w A L)(hn:L.length=n)(n1:n≤1000000):
  Calls Tryz.prog 75 #[.slice A n c] w (gS 5 L w):=by
 have qN:∀(w:World) (a:Option Addr) (n c n' c':Nat),(binOp .eql 22 (.slice a n c) (.slice none n' c')).run Tryz.prog w=.ok (.bool a.isNone) w:=fun w a n c n' c'=>Lib.run_eql_slice_nil w _ _ a n c n' c' Tryz.underlying22;rcases A with _|ad
 ·have e:L=[]:=by
   by_cases h:L=[]
   ·exact h
   ·obtain⟨ad,e,_⟩:=H h;cases e
  subst e;clear H;go_enter Tryz.func75,Tryz.ntmps75;go_wp2;go_ret;exact⟨_,rfl,kZ _ _ _ _,zB _ _⟩
 ·have HL:=zW (zM H (zM hn n1));clear H hn n1;go_enter Tryz.func75,Tryz.ntmps75;have hown0:(w.alloc (.cells #[] 5)).ownsRow w.heap.size 5 1 (.slice (some ⟨w.heap.size,0,none⟩) 0 0) 0 (([]:List Int).map (Value.int .u8)):=World.ownsRow_made w #[] 0 (zH _) zL6 rfl;have Q:=zW (zM hown0 (iO w (.cells #[] 5)));exact zNQ
def LH(L:List Int)(k:Nat)(w:World)(e:Ending)(w':World):Prop:=∃g,e=.returned (.pointer (some ⟨g,0,none⟩))∧St w.heap.size g L k w'∧Below w.heap.size w w'
theorem WZ(A:Option Addr)(n c:Nat)(L:List Int)(m:Int)(k:Nat)(w:World)(H:Rd w A L)(hn:L.length=n)(n1:n≤1000000)(hk:max m 0=(k:Int))(m1:m≤9223372036854775807):
  Calls Tryz.prog 67 #[.slice A n c,.int .i64 m] w (LH L k w):=by
 have HC:=zW (iR A n c L w H hn n1);have kI:(k:Int)≤9223372036854775807:=zLS;have wr:IntKind.u64.wrap (k:Int)=(k:Int):=by rw[IntKind.wrap_u64];omega
 have HN:=zW hn;clear H hn n1 m1;go_enter Tryz.func67,Tryz.ntmps67;go_wp2_with fail;refine HC.out.mono ?_;rintro e w1 ⟨v,rfl,ho,hb⟩;obtain⟨A',c',rfl⟩:=yF ho;have S:=zW (St.new ho rfl hb.size k);have B:=zW (hb.alloc hb.size (.cells #[.slice A' L.length c',.int .u64 (k:Int)] 186));clear ho hb HC;go_wp2_with fail;go_ret;exact⟨_,rfl,S.out,B.out⟩
theorem zK6(A:Option Addr)(n c:Nat)(L:List Int)(w:World)(H:Rd w A L)(hn:L.length=n)(n1:n≤1000000):
  Calls Tryz.prog 49 #[.slice A n c] w (LH L 0 w):=by
 have HC:=zW (WZ A n c L 0 0 w H hn n1 zLA zLA);clear H hn n1;go_enter Tryz.func49,Tryz.ntmps49;go_wp2_with fail;refine HC.out.mono ?_;rintro e w1 ⟨g,rfl,hs,hb⟩;have S:=zW (zM hs hb);clear hs hb HC;go_wp2_with fail;go_ret;exact⟨_,rfl,S.out.1,S.out.2⟩
theorem VI{base g k:Nat}{L:List Int}{w:World}(H:St base g L k w)(n1:L.length≤1000000):
  Calls Tryz.prog 60 #[.pointer (some ⟨g,0,none⟩)] w (LH L k w):=by
 obtain⟨A,c,h,ho⟩:=H.held;have HH:=zW (zM (JF ho) n1);have c0:=h.cell 0;have c1:=h.cell 1;simp only[zX,zK,zV]at c0 c1;have k0:=lH.cell c0 H.lt;have k1:=lH.cell c1 H.lt;clear h ho n1 c0 c1 H;go_enter Tryz.func60,Tryz.ntmps60;go_upto_region 3 with fail;refine mJ (C:=fun w'=>∃x:lH w,w'=x.w) [([0,1,2,3,5,6,7,8],4),([9],10)] [11] zLE zLE (fun _ _ d _ _ h=>by cases d<;>exact h) ⟨⟨w.drew,(zB _ _).drew⟩,rfl⟩ ?_;intro wd hwd;have BD:=zW (show Below w.heap.size w wd by rw[hwd];exact(zB _ _).drew);clear hwd;refine mV zLC zLI ?_;repeat(go_big_quiet_step (fail))
 refine zY ?_;refine lA zLI ?_;intro K hK;go_wp2_with fail;refine(iR A L.length c L wd (HH.out.1.below BD.out) rfl HH.out.2).mono ?_;rintro e w1 ⟨v,rfl,ho,hb⟩;obtain⟨A',c',rfl⟩:=yF ho;have B1:=zW (BD.out.trans (hb.mono BD.out.size));have S:=zW ((St.new ho rfl hb.size k).mono BD.out.size);have B:=zW (B1.out.alloc B1.out.size (.cells #[.slice A' L.length c',.int .u64 (k:Int)] 186));clear ho hb;simp only[];refine hK _ _ ⟨⟨w1,B1.out⟩,rfl⟩ ?_;clear hK K;refine mV zLC zLI ?_;repeat(go_big_quiet_step (fail))
 refine zY ?_;refine lA zLI ?_;intro K hK;go_wp2_with fail;refine hK _ _ ⟨⟨_,B.out⟩,rfl⟩ ?_;clear hK K;refine nF zLC ?_;repeat(go_big_quiet_step (fail))
 refine zY ?_;go_wp2_with fail;go_ret;exact⟨_,rfl,S.out,B.out⟩
theorem IW(K L:Nat→Bool)(n:Nat)(d r:Bool)(hn:n<16)(hL:L=fun j=>if j=n then d else K j)(hr:r=(K n&& !d))(w:World):
  Calls Tryz.prog 39 #[.agg (kc K),.agg #[.int .i64 (n:Int),.bool d]] w fun x w'=>x=.returned (.tuple #[.agg (kc L),.bool r])∧Below w.heap.size w w':=by
 have HA:=zW hL;have HR:=zW hr;clear hL hr;have hz:=LP;have n0:0≤(n:Int):=zLS;have n1:¬(n:Int)<0:=zLS;have n2:(n:Int)<16:=zLS;go_enter Tryz.func39,Tryz.ntmps39;go_upto_region 1 with fail;have P:=zW (((KB.new w K).alloc (.cells #[.int .i64 (n:Int),.bool d] 44)).alloc (.cells (kc up) 61));have E:=zW ((Blk.new (w.alloc (.cells (kc K) 61)) 44 #[.int .i64 (n:Int),.bool d]).alloc (.cells (kc up) 61));have R:=zW (KB.new ((w.alloc (.cells (kc K) 61)).alloc (.cells #[.int .i64 (n:Int),.bool d] 44)) up);have B:=zW (((tT w (.cells (kc K) 61)).alloc zLO (.cells #[.int .i64 (n:Int),.bool d] 44)).alloc zL2 (.cells (kc up) 61));simp only[zT]at P E R B;generalize ((w.alloc (.cells (kc K) 61)).alloc (.cells #[.int .i64 (n:Int),.bool d] 44)).alloc (.cells (kc up) 61)=w1 at*;clear hz;have c1:=E.out.cell 0;have c2:=E.out.cell 1;simp at c1 c2;obtain⟨p,hp⟩:∃p,w.heap.size=p:=⟨_,rfl⟩;rw[hp]at P E R B c1 c2⊢;have HP:=zW hp;clear hp;have f3:=P.out.fz n;cases hv:K n
 all_goals
  rw[hv]at HR
  have c3:=P.out.cell hn
  rw[hv]at c3
  clear hv
  go_upto_region 5 with fail
  refine zG ?_
  have P1:=zW (P.out.put hn d)
  have R1:=zW (R.out.other (g:=p) zLS n (.bool d))
  have B1:=zW (B.out.setCell (p:=⟨p,n,none⟩) (zH _) (.bool d))
  generalize w1.setCell ⟨p,n,none⟩ (.bool d)=w2 at*
  clear c1 c2 c3 f3
  rw[←HA.out]at P1
  clear HA P R B E
  refine kO rL P1.out (vQ _) rfl (.tmp 2) rfl zL0 ?_
  simp only[Act.put,zQ,zZ,zJ]
  iterate 3 go_step
  refine kU (ds:=kc L) rL R1.out (vQ _) (vQ _) (JI _) rfl (.tmp 4) (.tmp 32) rfl zLP zLP ?_
  have R2:=zW (R1.out.store L)
  have B2:=zW (QK B1.out (by omega:p≤p+1+1) (kc L))
  generalize w2.setRow (p+1+1) (kc L)=w3 at*
  iterate 8 go_step
  exact zS (wU rfl _ _ (p+1+1) _ _ _ _ _ rfl rfl R2.out Tryz.underlying61 rfl (by rw[rL.i,vQ])) rfl ⟨by rw[HR.out];simp,by rw[HP.out];exact B2.out⟩
theorem IV(K:Nat→Bool)(e:Ev)(hk:¬(0≤e.k∧e.k≤15))(w:World):
  Calls Tryz.prog 39 #[.agg (kc K),.agg (ec e)] w fun x w'=>x=.returned (.tuple #[.agg (kc (ap K e)),.bool (rel K e)])∧Below w.heap.size w w':=by
 rw[ap_out hk,zX9 hk];obtain⟨n,d⟩:=e;simp only at hk;have hz:=LP;unfold ec;simp only;rcases(show n<0∨16≤n by omega)with n1|n1
 all_goals
  clear hk
  go_enter Tryz.func39,Tryz.ntmps39
  go_upto_region 1 with fail
  have P:=zW (((KB.new w K).alloc (.cells #[.int .i64 n,.bool d] 44)).alloc (.cells (kc up) 61))
  have E:=zW ((Blk.new (w.alloc (.cells (kc K) 61)) 44 #[.int .i64 n,.bool d]).alloc (.cells (kc up) 61))
  have R:=zW (KB.new ((w.alloc (.cells (kc K) 61)).alloc (.cells #[.int .i64 n,.bool d] 44)) up)
  have B:=zW (((tT w (.cells (kc K) 61)).alloc zLO (.cells #[.int .i64 n,.bool d] 44)).alloc zL2 (.cells (kc up) 61))
  simp only[zT]at P E R B
  generalize ((w.alloc (.cells (kc K) 61)).alloc (.cells #[.int .i64 n,.bool d] 44)).alloc (.cells (kc up) 61)=w1 at*
  clear hz
  have c1:=E.out.cell 0
  simp at c1
  obtain⟨p,hp⟩:∃p,w.heap.size=p:=⟨_,rfl⟩
  rw[hp]at P E R B c1⊢
  have HP:=zW hp
  clear hp
  go_upto_region 2 with fail
  refine zG ?_
  clear c1
  refine kO rL P.out (vQ _) rfl (.tmp 2) rfl zL0 ?_
  simp only[Act.put,zQ,zZ,zJ]
  refine kU (ds:=kc K) rL R.out (vQ _) (vQ _) (JI _) rfl (.tmp 4) (.tmp 15) rfl zLP zLP ?_
  have R2:=zW (R.out.store K)
  have B2:=zW (QK B.out (by omega:p≤p+1+1) (kc K))
  generalize w1.setRow (p+1+1) (kc K)=w3 at*
  iterate 8 go_step
  exact zS (wU rfl _ _ (p+1+1) _ _ _ _ _ rfl rfl R2.out Tryz.underlying61 rfl (by rw[rL.i,vQ])) rfl ⟨by simp,by rw[HP.out];exact B2.out⟩
theorem IY(K:Nat→Bool)(e:Ev)(w:World):
  Calls Tryz.prog 39 #[.agg (kc K),.agg (ec e)] w fun x w'=>x=.returned (.tuple #[.agg (kc (ap K e)),.bool (rel K e)])∧Below w.heap.size w w':=by
 rcases key_or e.k with⟨n,h,hn⟩|h
 ·obtain⟨k,d⟩:=e;simp only at h;subst h;exact IW K _ n d _ hn (ap_in rfl hn) (rel_in rfl hn) w
 ·exact IV K e h w
theorem Blk.not_row{b base size k:Nat}{T e:TypeId}{cs:Array Value}{w:World}{v:Value}{xs:List Value}(h:Blk b T cs w)(hne:T≠e)(hr:w.ownsRow base e size v k xs):some b≠v.ownBlock:=by
 rcases hr.2 with⟨rfl,_⟩|⟨g,cap,cur,rfl,_,hgb,_⟩
 ·simp[Value.ownBlock]
 ·intro e';obtain rfl:b=g:=by simpa [Value.ownBlock]using e'
  have:some (Obj.cells cs T (0,0))=some (.cells cur e (0,0)):=(show w.heap[b]?=_ from h).symm.trans hgb;injection this with this
  injection this with _ h1
  exact hne h1
theorem iB{w w':World}(hb:Below w.heap.size w w'):w.grownBy w' none:=⟨hb.os,hb.tape,hb.output,hb.size,fun k hk _=>hb.block k hk⟩
theorem zQV{w w':World}{base size k:Nat}{e:TypeId}{v:Value}{xs:List Value}(h:w.ownsRow base e size v k xs)(hb:Below w.heap.size w w'):w'.ownsRow base e size v k xs:=
 h.kept (iB hb) (by
  rcases h.2 with⟨rfl,_⟩|⟨g,cap,cur,rfl,_⟩
  ·exact .inl rfl
  ·exact .inr (by simp[Value.ownBlock]))
structure Rec(n p r:Nat)(K:Nat→Bool)(L:List Int)(w:World):Prop where
 pad:KB p K w
 list:∃v,Boxed w r 33 v∧w.ownsRow n 3 1 v L.length (L.map (Value.int .i64))
theorem Rec.step{n p r:Nat}{K:Nat→Bool}{L:List Int}{w w':World}(h:Rec n p r K L w)(hb:Below w.heap.size w w'):Rec n p r K L w':=by
 obtain⟨h1,v,h2,h3⟩:=h;exact⟨h1.step hb,v,(hb.block r h2.lt).trans h2,zQV h3 hb⟩
theorem J2(w:World)(b:Nat)(cs:Array Value):w.grownBy (w.setRow b cs) (some b):=
 ⟨rfl,rfl,rfl,by simp[World.setRow],fun k _ hk=>zO w b k cs (fun e=>hk (by rw[e]))⟩
theorem KB.ne_box{p r:Nat}{K:Nat→Bool}{w:World}{v:Value}(h:KB p K w)(hv:Boxed w r 33 v):r≠p:=by
 rintro rfl;have:some (Obj.cells (kc K) 61 (0,0))=some (.cells #[v] 33 (0,0)):=(show w.heap[r]?=_ from h).symm.trans hv;injection this with this
 injection this with _ h1
 exact absurd h1 zLA
theorem Blk.appended{b r base size k:Nat}{T e:TypeId}{cs:Array Value}{w w1:World}{v u:Value}{xs:List Value}{tmp:Obj}(h:Blk b T cs w)(hne:T≠e)(hr:w.ownsRow base e size v k xs)(hg:(w.alloc tmp).grownBy w1 v.ownBlock)(hb:b≠r):Blk b T cs (w1.setCell ⟨r,0,none⟩ u):=
 Blk.other (show Blk b T cs w1 from(hg.block b (by have:=h.lt;simp;omega) (h.not_row hne hr)).trans (h.alloc tmp)) hb 0 u
theorem Rec.store{n p r:Nat}{K K':Nat→Bool}{L:List Int}{w:World}(h:Rec n p r K L w):Rec n p r K' L (w.setRow p (kc K')):=by
 obtain⟨h1,v,h2,h3⟩:=h;exact⟨h1.store K',v,(zO w p r _ (h1.ne_box h2)).trans h2,h3.kept (J2 w p _) (.inr fun e=>Blk.not_row h1 zLA h3 e.symm)⟩
def QN(p r:Nat)(K:Nat→Bool)(v:Value):Type:={w:World//KB p K w∧w.cell? ⟨r,0,none⟩=some v}
def QN.w{p r:Nat}{K:Nat→Bool}{v:Value}(x:QN p r K v):World:=x.1
theorem QN.pad{p r:Nat}{K:Nat→Bool}{v:Value}(x:QN p r K v):KB p K x.w:=x.2.1
theorem QN.cell{p r:Nat}{K:Nat→Bool}{v:Value}(x:QN p r K v):x.w.cell? ⟨r,0,none⟩=some v:=x.2.2
def bP(F:Nat→Int)(d:Int):Array Value:=((List.range 17).map fun j=>Value.int .i64 (if j<16 then F j else d)).toArray
theorem xZ(F:Nat→Int)(d:Int):(bP F d).size=17:=by simp[bP]
theorem vX(F:Nat→Int)(d:Int)(j:Nat)(hj:j<17):(bP F d)[j]?=some (.int .i64 (if j<16 then F j else d)):=by simp[bP,hj]
theorem MZ(F:Nat→Int)(d:Int)(j:Nat)(hj:j<16):(bP F d)[j]?=some (.int .i64 (F j)):=by rw[vX _ _ _ zLS,zN hj]
theorem oO(F:Nat→Int)(d:Int):(bP F d)[16]?=some (.int .i64 d):=by simp[bP]
theorem UN(F:Nat→Int)(d:Int):nU (bP F d):=by
 unfold nU;rw[qC];intro v hv;simp only[bP,kK,jV,jM]at hv;obtain⟨j,_,rfl⟩:=hv;rfl
theorem aM{F G:Nat→Int}{d e:Int}(h:∀j,j<16→F j=G j)(he:d=e):bP F d=bP G e:=by
 subst he;apply qZ
 intro j
 by_cases hj:j<17
 ·rw[vX _ _ _ hj,vX _ _ _ hj];by_cases h2:j<16
  ·rw[zN h2,zN h2,h j h2]
  ·rw[zL h2,zL h2]
 ·rw[zD zMF,zD zMF]
theorem MJ(F:Nat→Int)(d e:Int):(bP F d).setIfInBounds 16 (.int .i64 e)=bP F e:=by
 apply qZ
 intro j
 rw[qX,xZ];by_cases h1:16=j
 ·subst h1;rw[zN rfl,zN zLS,oO]
 ·rw[zL h1];by_cases h2:j<17
  ·rw[vX _ _ _ h2,vX _ _ _ h2,zN zLS,zN zLS]
  ·rw[zD zMF,zD zMF]
theorem MQ(F:Nat→Int)(d:Int)(k:Nat)(hk:k<16)(v:Int):(bP F d).setIfInBounds k (.int .i64 v)=bP (fun j=>if j=k then v else F j) d:=by
 apply qZ
 intro j
 rw[qX,xZ];by_cases h1:k=j
 ·subst h1;rw[zN rfl,zN zLS,MZ _ _ _ hk,zN rfl]
 ·rw[zL h1];by_cases h2:j<17
  ·rw[vX _ _ _ h2,vX _ _ _ h2];by_cases h3:j<16
   ·rw[zN h3,zN h3,zL (fun e:j=k=>h1 e.symm)]
   ·rw[zL h3,zL h3]
  ·rw[zD zMF,zD zMF]
def stF(L:List Int)(j:Nat):Int:=L.getD j 0
def mL(L:List Int):Array Value:=bP (stF L) L.length
theorem aH(L:List Int)(j:Nat)(h:j<L.length):stF L j=L[j]:=by simp[stF,h]
theorem dO(L:List Int)(j:Nat)(h:L.length≤j):stF L j=0:=by simp[stF,h]
theorem lD(L:List Int):(mL L).size=17:=xZ _ _
theorem xY(L:List Int):nU (mL L):=UN _ _
theorem UM(L:List Int)(a:Int)(h:L.length<16):((mL L).setIfInBounds L.length (.int .i64 a)).setIfInBounds 16 (.int .i64 ((L.length:Int)+1))=mL (L++[a]):=by
 unfold mL;rw[MQ _ _ _ h,MJ];refine aM (fun j hj=>?_) zLO;by_cases h1:j=L.length
 ·subst h1;simp[stF]
 ·rw[zL h1];by_cases h2:j<L.length
  ·rw[aH _ _ h2,aH _ _ zL2,List.getElem_append_left h2]
  ·rw[dO L _ zLS,dO _ _ zL2]
theorem zXD(L:List Int)(a:Int)(h:L.length<16):((mL (L++[a])).setIfInBounds L.length (.int .i64 0)).setIfInBounds 16 (.int .i64 (L.length:Int))=mL L:=by
 unfold mL;rw[MQ _ _ _ h,MJ];refine aM (fun j hj=>?_) rfl;have hl:(L++[a]).length=L.length+1:=zLO;by_cases h1:j=L.length
 ·subst h1;rw[zN rfl,dO _ _ (zH _)]
 ·rw[zL h1];by_cases h2:j<L.length
  ·rw[aH _ _ h2,aH _ _ zLS,List.getElem_append_left h2]
  ·rw[dO L _ zLS,dO _ _ zLS]
theorem xV:nI Tryz.prog 48 17:=⟨⟨_,Tryz.underlying48,rfl⟩,by kernel_rfl⟩
theorem zJ6:nG Tryz.prog 48 (mL []):=by
 unfold nG;rw[lD];kernel_rfl
theorem dA(w:World):(zeroValue 48).run Tryz.prog w=.ok (.agg (mL [])) w:=uU zJ6
theorem cJ(w:World)(o:Obj):Below w.heap.size w (w.alloc o):=(zB _ _).alloc (zH _) _
def TB8(b:Nat)(L:List Int)(w:World):Prop:=Blk b 48 (mL L) w
section
variable {b:Nat} {L:List Int} {w w':World}
theorem TB8.lt(H:TB8 b L w):b<w.heap.size:=Blk.lt H
theorem TB8.step(H:TB8 b L w)(hb:Below w.heap.size w w'):TB8 b L w':=Blk.step H hb
theorem TB8.new(w:World)(L:List Int):TB8 w.heap.size L (w.alloc (.cells (mL L) 48)):=Blk.new _ _ _
theorem TB8.alloc(H:TB8 b L w)(o:Obj):TB8 b L (w.alloc o):=Blk.alloc H o
theorem TB8.other(H:TB8 b L w){g:Nat}(hg:b≠g)(o:Nat)(v:Value):TB8 b L (w.setCell ⟨g,o,none⟩ v):=Blk.other H hg o v
theorem TB8.otherRow(H:TB8 b L w){g:Nat}(hg:b≠g)(ds:Array Value):TB8 b L (w.setRow g ds):=Blk.otherRow H hg ds
theorem TB8.cell(H:TB8 b L w){j:Nat}(hj:j<16):w.cell? ⟨b,j,none⟩=some (.int .i64 (stF L j)):=(Blk.cell H j).trans (MZ _ _ _ hj)
theorem TB8.depth(H:TB8 b L w):w.cell? ⟨b,16,none⟩=some (.int .i64 (L.length:Int)):=(Blk.cell H 16).trans (oO _ _)
theorem TB8.fz(H:TB8 b L w)(j:Nat):w.frozen? ⟨b,j,none⟩=false:=Blk.frozen H j
theorem TB8.store(H:TB8 b L w)(M:List Int):TB8 b M (w.setRow b (mL M)):=Blk.store H _
theorem TB8.push(H:TB8 b L w)(h:L.length<16)(a:Int):TB8 b (L++[a]) ((w.setCell ⟨b,L.length,none⟩ (.int .i64 a)).setCell ⟨b,16,none⟩ (.int .i64 ((L.length:Int)+1))):=
 ((Blk.put H L.length (.int .i64 a)).put 16 _).eq (UM L a h)
theorem TB8.pop{a:Int}(H:TB8 b (L++[a]) w)(h:L.length<16):TB8 b L ((w.setCell ⟨b,L.length,none⟩ (.int .i64 0)).setCell ⟨b,16,none⟩ (.int .i64 (L.length:Int))):=
 ((Blk.put H L.length (.int .i64 0)).put 16 _).eq (zXD L a h)
theorem TB8.row(H:TB8 b L w)(h:L.length≤16):Row (Value.int .i64) w (some ⟨b,0,none⟩) L:=fun _=>⟨b,0,rfl,H.lt,fun j hj=>by
 rw[qY,H.cell zLS,aH _ _ hj]⟩
end
theorem bB{B:Nat}{a w:World}(h:Below B a w){g:Nat}(hg:B≤g)(cs:Array Value):Below B a (w.setRow g cs):=lC h hg cs
section
variable {ops:Array Oper} {C:World→Prop} {L:List Int}
end
def ac(P:Nat→Int)(p:Int):Array Value:=((List.range 17).map fun j=>Value.int .u8 (if j<16 then P j else p)).toArray
theorem nV(P:Nat→Int)(p:Int):(ac P p).size=17:=by simp[ac]
theorem dP(P:Nat→Int)(p:Int)(j:Nat)(hj:j<16):(ac P p)[j]?=some (.int .u8 (P j)):=by
 have h:j<17:=zLS;simp[ac,h,hj]
theorem LM(P:Nat→Int)(p:Int):(ac P p)[16]?=some (.int .u8 p):=by simp[ac]
theorem wD(P:Nat→Int)(p:Int)(j:Nat)(hj:j<17):(ac P p)[j]?=some (.int .u8 (if j<16 then P j else p)):=by simp[ac,hj]
theorem oJ(P:Nat→Int)(p:Int):nU (ac P p):=by
 unfold nU;rw[qC];intro v hv;simp only[ac,kK,jV,jM]at hv;obtain⟨j,_,rfl⟩:=hv;rfl
theorem zJA(P:Nat→Int)(p q:Int):(ac P p).setIfInBounds 16 (.int .u8 q)=ac P q:=by
 apply qZ
 intro j
 rw[qX,nV];by_cases h1:16=j
 ·subst h1;rw[zN rfl,zN zLS,LM]
 ·rw[zL h1];by_cases h2:j<17
  ·rw[wD _ _ _ h2,wD _ _ _ h2,zN zLS,zN zLS]
  ·rw[zD zMN,zD zMN]
theorem IR(P Q:Nat→Int)(p:Int):lM (ac P p) 0 (pc Q)=ac Q p:=by
 apply qZ
 intro j
 unfold lM;rw[List.take_zero,List.nil_append,qY,nX,zX];by_cases h2:j<16
 ·rw[qS (by simp[nX];omega),dP _ _ _ h2,jJ,yT _ _ h2]
 ·rw[qP (by simp[nX];omega),jF];simp only[Array.length_toList,nX];rw[show 16+(j-16)=j by omega,jJ];by_cases h3:j<17
  ·rw[wD _ _ _ h3,wD _ _ _ h3,zL h2,zL h2]
  ·rw[zD zMN,zD zMN]
theorem DF(P:Nat→Int)(p:Int):ac P p=((yL P++[p]).map (Value.int .u8)).toArray:=by
 apply qZ
 intro j
 have e:((yL P++[p]).map (Value.int .u8)).toArray[j]?=((yL P++[p])[j]?).map (Value.int .u8):=by rw[←jQ];exact zX
 rw[e];by_cases h2:j<16
 ·rw[dP _ _ _ h2,qS zL8,zP zL8,uH _ _ h2];rfl
 ·by_cases h3:j<17
  ·obtain rfl:j=16:=by omega
   rw[LM,qP zL8,mG];rfl
  ·rw[zD zMN,qW (by simp[mG];omega)];rfl
theorem zYA(L:List Int)(p:Int):(splice ((yL lO++[p]).map (Value.int .u8)) 0 ((L.take 16).map (Value.int .u8))).toArray=ac (pad L) p:=by
 rw[dY,DF];congr 2
 apply kQ
 intro j
 have ll:(L.take 16).length≤16:=by rw[qT];omega
 rw[xA _ _ _ (by simp[mG];omega),zL zLS,qY];by_cases h1:j<(L.take 16).length
 ·have h2:j<L.length:=by rw[qT]at h1;omega
  rw[zN h1,Nat.sub_zero,qS zL8,zP h1,j8,zP zL8,uH _ _ zLS,zQK _ _ h2]
 ·rw[zL h1];by_cases h2:j<16
  ·rw[qS zL8,qS zL8,zP zL8,zP zL8,uH _ _ h2,uH _ _ h2,
    zKR _ _ (by rw[qT]at h1;omega)]
   rfl
  ·rw[qP zL8,qP zL8,mG,mG]
theorem gF:nI Tryz.prog 65 17:=⟨⟨_,Tryz.underlying65,rfl⟩,by kernel_rfl⟩
theorem zXX:nG Tryz.prog 65 (ac lO 0):=by
 unfold nG;rw[nV];kernel_rfl
theorem IP(w:World):(zeroValue 65).run Tryz.prog w=.ok (.agg (ac lO 0)) w:=uU zXX
theorem CR:Tryz.prog.built 65 [(1,.int .u8 64)]=some (ac lO 64):=by kernel_rfl
def AB(b:Nat)(P:Nat→Int)(p:Int)(w:World):Prop:=Blk b 65 (ac P p) w
section
variable {b:Nat} {P Q:Nat→Int} {p q:Int} {w w':World}
theorem AB.lt(H:AB b P p w):b<w.heap.size:=Blk.lt H
theorem AB.below(H:AB b P p w){n:Nat}(hb:Below n w w')(hn:b<n):AB b P p w':=Blk.below H hb hn
theorem AB.step(H:AB b P p w)(hb:Below w.heap.size w w'):AB b P p w':=Blk.step H hb
theorem AB.new(w:World)(P:Nat→Int)(p:Int):AB w.heap.size P p (w.alloc (.cells (ac P p) 65)):=Blk.new _ _ _
theorem AB.alloc(H:AB b P p w)(o:Obj):AB b P p (w.alloc o):=Blk.alloc H o
theorem AB.drew(H:AB b P p w):AB b P p w.drew:=H
theorem AB.otherRow(H:AB b P p w){g:Nat}(hg:b≠g)(ds:Array Value):AB b P p (w.setRow g ds):=Blk.otherRow H hg ds
theorem AB.other(H:AB b P p w){g:Nat}(hg:b≠g)(o:Nat)(v:Value):AB b P p (w.setCell ⟨g,o,none⟩ v):=Blk.other H hg o v
theorem AB.cell(H:AB b P p w){j:Nat}(hj:j<16):w.cell? ⟨b,j,none⟩=some (.int .u8 (P j)):=by rw[Blk.cell H,dP _ _ _ hj]
theorem AB.pitch(H:AB b P p w):w.cell? ⟨b,16,none⟩=some (.int .u8 p):=by rw[Blk.cell H,LM]
theorem AB.fz(H:AB b P p w)(j:Nat):w.frozen? ⟨b,j,none⟩=false:=Blk.frozen H j
theorem AB.store(H:AB b P p w)(Q:Nat→Int)(q:Int):AB b Q q (w.setRow b (ac Q q)):=Blk.store H _
theorem AB.tune(H:AB b P p w)(q:Int):AB b P q (w.setCell ⟨b,16,none⟩ (.int .u8 q)):=(Blk.put H 16 _).eq (zJA P p q)
theorem AB.rd(H:AB b P p w):Rd w (some ⟨b,0,none⟩) (yL P):=fun _=>by
 exact zN8
end
theorem bR{B:Nat}{a w:World}(h:Below B a w){g:Nat}(hg:B≤g)(cs:Array Value):Below B a (w.setRow g cs):=lC h hg cs
end
section
open Go.RowKit
theorem lY{b:Nat}{T:TypeId}{cs:Array Value}{W:World}(H:Blk b T cs W):∀w',(∃u:lH W,w'=u.w)→Blk b T cs w':=fun w' hw=>by obtain⟨u,rfl⟩:=hw;exact H.step u.below
end
section
open Go.RowKit Num
theorem uS{P:Program}{fn:Func}{p q r:Tmp}{ty:TypeId}(h:fn.results=#[.cell p ty,.tmp q,.tmp r])(tmps:Array Value)(w:World)(g:Nat)(t:TypeId)(cs:Array Value)(fr:Nat×Nat)(v u:Value)
  (hp:tmps.getD p undef=.pointer (some ⟨g,0,none⟩)) (hq:tmps.getD q undef=v) (hr:tmps.getD r undef=u) (hg:w.heap[g]?=some (.cells cs t fr)) {n:Nat} (A:nI P ty n) (hn:cs.size=n):
  (results fn tmps).run P w=.ok (.tuple #[.agg cs,v,u]) w:=by
 obtain⟨⟨d,hu,hd⟩,hi⟩:=A;have hp':tmps[p]?.getD undef=.pointer (some ⟨g,0,none⟩):=by simpa using hp
 have hq':tmps[q]?.getD undef=v:=by simpa using hq
 have hr':tmps[r]?.getD undef=u:=by simpa using hr
 have hl:=run_loadVar_row w g t ty cs fr d hg hu (by cases d<;>simp_all [TypeDesc.isRow]) (by rw[hi,hn]);simp[results,h,hp',hq',hr',asAddr,hl]
theorem bW(L:List Int)(hl:L.length≤16)(w:World):
  Calls Tryz.prog 163 #[.agg (mL L)] w fun e w'=>e=.returned (.int .i64 (L.length:Int))∧Below w.heap.size w w':=by
 have hI:(L.length:Int)≤16:=zLS;have h0:(0:Int)≤(L.length:Int):=zLS;have m1:max (L.length:Int) 0=(L.length:Int):=zLS;have m2:min (L.length:Int) 16=(L.length:Int):=zLS;clear hl;go_enter Tryz.func163,Tryz.ntmps163;go_upto_region 1 with fail;have T:=zW (TB8.new w L);have B:=zW (cJ w (.cells (mL L) 48));generalize w.alloc (.cells (mL L) 48)=w1 at*;obtain⟨r,hr⟩:∃r,w.heap.size=r:=⟨_,rfl⟩;have HR:=zW hr;rw[hr]at T B⊢;clear hr;have c0:=T.out.depth;go_wp2;go_ret;exact⟨rfl,by rw[HR.out];exact B.out⟩
theorem rZ(l e:Int)(w:World):
  Calls Tryz.prog 164 #[.int .i64 l,.int .i64 e] w fun x w'=>x=.returned (.func (.func 193) #[] #[.pointer (some ⟨w.heap.size,0,none⟩),.pointer (some ⟨w.heap.size+1,0,none⟩)])∧w'=(w.alloc (.cells #[.int .i64 l] 3)).alloc (.cells #[.int .i64 e] 30):=by
 go_enter Tryz.func164,Tryz.ntmps164;go_wp2;go_returns;exact⟨rfl,rfl⟩
def uJ(d l e:Int):Int:=if d=l then e else 0
theorem tG(d l e:Int)(g h:Nat)(w:World)(c0:w.cell? ⟨g,0,none⟩=some (.int .i64 l))(c1:w.cell? ⟨h,0,none⟩=some (.int .i64 e)):
  Calls Tryz.prog 193 #[.int .i64 d,.pointer (some ⟨g,0,none⟩),.pointer (some ⟨h,0,none⟩)] w fun x w'=>x=.returned (.int .i64 (uJ d l e))∧w=w':=by
 by_cases hd:d=l
 ·have E:=zW (show e=uJ d l e by unfold uJ;rw[zN hd]);go_enter Tryz.func193,Tryz.ntmps193;go_wp2;go_ret;exact⟨uW E.out,rfl⟩
 ·have E:=zW (show 0=uJ d l e by unfold uJ;rw[zL hd]);go_enter Tryz.func193,Tryz.ntmps193;go_wp2;go_ret;exact⟨uW E.out,rfl⟩
structure zJO(r n:Nat)(l e:Int)(w:World):Prop where
 c0:w.cell? ⟨n,0,none⟩=some (.int .i64 l)
 c1:w.cell? ⟨n+1,0,none⟩=some (.int .i64 e)
theorem G9(l e:Int)(w:World):zJO 0 w.heap.size l e ((w.alloc (.cells #[.int .i64 l] 3)).alloc (.cells #[.int .i64 e] 30)):=⟨by simp,by simp⟩
theorem OI(L:List Int)(a:Int)(hl:L.length<16)(w:World):
  Calls Tryz.prog 124 #[.agg (mL L),.int .i64 a] w fun e w'=>e=.returned (.tuple #[.agg (mL (L++[a])),.int .i64 0])∧Below w.heap.size w w':=by
 have DP:=zW fun w=>bW L zLS w;have E:=zW (show uJ (L.length:Int) 16 2=0 by unfold uJ;rw[zL zLS]);have HL:=zW hl;have wr0:IntKind.i64.wrap ((L.length:Int)+1)=(L.length:Int)+1:=by rw[qQ];omega
 have hI:(L.length:Int)<16:=zLS;have h0:(0:Int)≤(L.length:Int):=zLS;have hz:=dA;have wr:=zW wr0;clear wr0;go_enter Tryz.func124,Tryz.ntmps124;go_upto_region 1 with fail;have S:=zW ((TB8.new w L).alloc (.cells (mL []) 48));have R:=zW (TB8.new (w.alloc (.cells (mL L) 48)) []);have B:=zW ((cJ w (.cells (mL L) 48)).alloc zLO (.cells (mL []) 48));rw[zT]at R;generalize (w.alloc (.cells (mL L) 48)).alloc (.cells (mL []) 48)=w1 at*;clear hz;obtain⟨r,hr⟩:∃r,w.heap.size=r:=⟨_,rfl⟩;have HR:=zW hr;rw[hr]at S R B⊢;clear hr;refine zG ?_;refine kO xV S.out (lD _) rfl (.tmp 2) rfl zL0 ?_;simp only[Act.put,zQ,zZ,zJ];have Z:=zW (jA (Nat.lt_of_succ_lt R.out.lt));go_wp2_with fail;refine(DP.out w1).mono ?_;rintro e w2 ⟨rfl,b2⟩;have S:=zW (S.out.step b2);have R:=zW (R.out.step b2);have B:=zW (B.out.trans (b2.mono Z.out));have Z:=zW (zR Z.out b2.size);clear b2;go_wp2_with fail;refine(rZ 16 2 w2).mono ?_;rintro e w3 ⟨rfl,hw3⟩;have B3:=zW (show Below w2.heap.size w2 w3 by rw[hw3];exact(cJ _ _).alloc zLO _);have T:=zW (show zJO 0 w2.heap.size 16 2 w3 by rw[hw3];exact G9 _ _ _);clear hw3;have S:=zW (S.out.step B3.out);have R:=zW (R.out.step B3.out);have B:=zW (B.out.trans (B3.out.mono Z.out));have CH:=zW (tG (L.length:Int) 16 2 w2.heap.size (w2.heap.size+1) w3 T.out.c0 T.out.c1);rw[E.out]at CH;clear T B3 Z;go_wp2_with fail;refine CH.out.mono ?_;rintro e w4 ⟨rfl,rfl⟩;clear CH;go_upto_region 5 with fail;have c0:=S.out.cell HL.out;have f0:=S.out.fz L.length;have c1:=S.out.depth;have f1:=S.out.fz 16;have S2:=zW (S.out.push HL.out a);have R2:=zW ((R.out.other (g:=r) zLS L.length (.int .i64 a)).other (g:=r) zLS 16 (.int .i64 ((L.length:Int)+1)));have B2:=zW ((B.out.setCell (p:=⟨r,L.length,none⟩) (zH _) (.int .i64 a)).setCell (p:=⟨r,16,none⟩) (zH _) (.int .i64 ((L.length:Int)+1)));clear S R B;go_upto_region 7 with fail;clear c0 c1 f0 f1;generalize (w3.setCell ⟨r,L.length,none⟩ (.int .i64 a)).setCell ⟨r,16,none⟩ (.int .i64 ((L.length:Int)+1))=w4 at*;refine zG ?_;refine kO xV S2.out (lD _) rfl (.tmp 2) rfl zL0 ?_;simp only[Act.put,zQ,zZ,zJ];refine kU (ds:=mL (L++[a])) xV R2.out (lD _) (lD _) (xY _) rfl (.tmp 4) (.tmp 24) rfl zLP zLP ?_;have R3:=zW (R2.out.store (L++[a]));have B3:=zW (bB B2.out (jW r) (mL (L++[a])));generalize w4.setRow (r+1) (mL (L++[a]))=w5 at*;iterate 7 go_step
 exact zHJ
theorem zKL(L:List Int)(a:Int)(hl:L.length=16)(w:World):
  Calls Tryz.prog 124 #[.agg (mL L),.int .i64 a] w fun e w'=>e=.returned (.tuple #[.agg (mL L),.int .i64 2])∧Below w.heap.size w w':=by
 have DP:=zW fun w=>bW L zLS w;have E:=zW (show uJ (L.length:Int) 16 2=2 by unfold uJ;rw[zN zLS]);have wr0:=hl;have hz:=dA;have wr:=zW wr0;clear wr0 hl;go_enter Tryz.func124,Tryz.ntmps124;go_upto_region 1 with fail;have S:=zW ((TB8.new w L).alloc (.cells (mL []) 48));have R:=zW (TB8.new (w.alloc (.cells (mL L) 48)) []);have B:=zW ((cJ w (.cells (mL L) 48)).alloc zLO (.cells (mL []) 48));rw[zT]at R;generalize (w.alloc (.cells (mL L) 48)).alloc (.cells (mL []) 48)=w1 at*;clear hz;obtain⟨r,hr⟩:∃r,w.heap.size=r:=⟨_,rfl⟩;have HR:=zW hr;rw[hr]at S R B⊢;clear hr;refine zG ?_;refine kO xV S.out (lD _) rfl (.tmp 2) rfl zL0 ?_;simp only[Act.put,zQ,zZ,zJ];have Z:=zW (jA (Nat.lt_of_succ_lt R.out.lt));go_wp2_with fail;refine(DP.out w1).mono ?_;rintro e w2 ⟨rfl,b2⟩;have S:=zW (S.out.step b2);have R:=zW (R.out.step b2);have B:=zW (B.out.trans (b2.mono Z.out));have Z:=zW (zR Z.out b2.size);clear b2;go_wp2_with fail;refine(rZ 16 2 w2).mono ?_;rintro e w3 ⟨rfl,hw3⟩;have B3:=zW (show Below w2.heap.size w2 w3 by rw[hw3];exact(cJ _ _).alloc zLO _);have T:=zW (show zJO 0 w2.heap.size 16 2 w3 by rw[hw3];exact G9 _ _ _);clear hw3;have S:=zW (S.out.step B3.out);have R:=zW (R.out.step B3.out);have B:=zW (B.out.trans (B3.out.mono Z.out));have CH:=zW (tG (L.length:Int) 16 2 w2.heap.size (w2.heap.size+1) w3 T.out.c0 T.out.c1);rw[E.out]at CH;clear T B3 Z;go_wp2_with fail;refine CH.out.mono ?_;rintro e w4 ⟨rfl,rfl⟩;clear CH;go_upto_region 4 with fail;refine zG ?_;refine kO xV S.out (lD _) rfl (.tmp 2) rfl zL0 ?_;simp only[Act.put,zQ,zZ,zJ];iterate 3 go_step
 refine kU (ds:=mL L) xV R.out (lD _) (lD _) (xY _) rfl (.tmp 4) (.tmp 15) rfl zLP zLP ?_;have R3:=zW (R.out.store L);have B3:=zW (bB B.out (jW r) (mL L));generalize w3.setRow (r+1) (mL L)=w5 at*;go_wp2_with fail;exact zHJ
theorem pop_no(w:World):
  Calls Tryz.prog 125 #[.agg (mL [])] w fun e w'=>e=.returned (.tuple #[.agg (mL []),.int .i64 0,.int .i64 3])∧Below w.heap.size w w':=by
 have DP:=zW fun w=>bW [] zLO w;have E:=zW (show uJ 0 0 3=3 by unfold uJ;rw[zN rfl]);have wr0:=E;have hz:=dA;have wr:=zW wr0;go_enter Tryz.func125,Tryz.ntmps125;go_upto_region 1 with fail;have S:=zW ((TB8.new w []).alloc (.cells (mL []) 48));have R:=zW (TB8.new (w.alloc (.cells (mL []) 48)) []);have B:=zW ((cJ w (.cells (mL []) 48)).alloc zLO (.cells (mL []) 48));rw[zT]at R;generalize (w.alloc (.cells (mL []) 48)).alloc (.cells (mL []) 48)=w1 at*;clear hz;obtain⟨r,hr⟩:∃r,w.heap.size=r:=⟨_,rfl⟩;have HR:=zW hr;rw[hr]at S R B⊢;clear hr;refine zG ?_;refine kO xV S.out (lD _) rfl (.tmp 1) rfl zL0 ?_;simp only[Act.put,zQ,zZ,zJ];have Z:=zW (jA (Nat.lt_of_succ_lt R.out.lt));go_wp2_with fail;refine(DP.out w1).mono ?_;rintro e w2 ⟨rfl,b2⟩;have S:=zW (S.out.step b2);have R:=zW (R.out.step b2);have B:=zW (B.out.trans (b2.mono Z.out));have Z:=zW (zR Z.out b2.size);clear b2;go_wp2_with fail;refine(rZ 0 3 w2).mono ?_;rintro e w3 ⟨rfl,hw3⟩;have B3:=zW (show Below w2.heap.size w2 w3 by rw[hw3];exact(cJ _ _).alloc zLO _);have T:=zW (show zJO 0 w2.heap.size 0 3 w3 by rw[hw3];exact G9 _ _ _);clear hw3;have S:=zW (S.out.step B3.out);have R:=zW (R.out.step B3.out);have B:=zW (B.out.trans (B3.out.mono Z.out));have CH:=zW (tG 0 0 3 w2.heap.size (w2.heap.size+1) w3 T.out.c0 T.out.c1);rw[E.out]at CH;clear T B3 Z;go_wp2_with fail;refine CH.out.mono ?_;rintro e w4 ⟨rfl,rfl⟩;clear CH;go_upto_region 4 with fail;refine zG ?_;refine kO xV S.out (lD _) rfl (.tmp 1) rfl zL0 ?_;simp only[Act.put,zQ,zZ,zJ];iterate 3 go_step
 refine kU (ds:=mL []) xV R.out (lD _) (lD _) (xY _) rfl (.tmp 2) (.tmp 15) rfl zLP zLP ?_;have R3:=zW (R.out.store []);have B3:=zW (bB B.out (jW r) (mL []));generalize w3.setRow (r+1) (mL [])=w5 at*;go_wp2_with fail;exact zN7
theorem zKM(L:List Int)(a:Int)(hl:L.length<16)(w:World):
  Calls Tryz.prog 125 #[.agg (mL (L++[a]))] w fun e w'=>e=.returned (.tuple #[.agg (mL L),.int .i64 a,.int .i64 0])∧Below w.heap.size w w':=by
 have HM:=zW (show(L++[a]).length=L.length+1 by simp);obtain⟨M,hM⟩:∃M,M=L++[a]:=⟨_,rfl⟩;have MM:=zW hM;rw[←hM]at HM⊢;have DP:=zW fun w=>bW M (by rw[HM.out];omega) w;have E:=zW (show uJ ((L.length:Int)+1) 0 3=0 by unfold uJ;rw[zL zLS]);rw[show(M.length:Int)=(L.length:Int)+1 by rw[HM.out];simp]at DP;have HL:=zW hl;have wr0:IntKind.i64.wrap ((L.length:Int)+1-1)=(L.length:Int):=by rw[qQ];omega
 have hI:(L.length:Int)<16:=zLS;have h0:(0:Int)≤(L.length:Int):=zLS;clear hM;have hz:=dA;have wr:=zW wr0;clear wr0;go_enter Tryz.func125,Tryz.ntmps125;go_upto_region 1 with fail;have S:=zW ((TB8.new w M).alloc (.cells (mL []) 48));have R:=zW (TB8.new (w.alloc (.cells (mL M) 48)) []);have B:=zW ((cJ w (.cells (mL M) 48)).alloc zLO (.cells (mL []) 48));rw[zT]at R;generalize (w.alloc (.cells (mL M) 48)).alloc (.cells (mL []) 48)=w1 at*;clear hz;obtain⟨r,hr⟩:∃r,w.heap.size=r:=⟨_,rfl⟩;have HR:=zW hr;rw[hr]at S R B⊢;clear hr;refine zG ?_;refine kO xV S.out (lD _) rfl (.tmp 1) rfl zL0 ?_;simp only[Act.put,zQ,zZ,zJ];have Z:=zW (jA (Nat.lt_of_succ_lt R.out.lt));go_wp2_with fail;refine(DP.out w1).mono ?_;rintro e w2 ⟨rfl,b2⟩;have S:=zW (S.out.step b2);have R:=zW (R.out.step b2);have B:=zW (B.out.trans (b2.mono Z.out));have Z:=zW (zR Z.out b2.size);clear b2;go_wp2_with fail;refine(rZ 0 3 w2).mono ?_;rintro e w3 ⟨rfl,hw3⟩;have B3:=zW (show Below w2.heap.size w2 w3 by rw[hw3];exact(cJ _ _).alloc zLO _);have T:=zW (show zJO 0 w2.heap.size 0 3 w3 by rw[hw3];exact G9 _ _ _);clear hw3;have S:=zW (S.out.step B3.out);have R:=zW (R.out.step B3.out);have B:=zW (B.out.trans (B3.out.mono Z.out));have CH:=zW (tG ((L.length:Int)+1) 0 3 w2.heap.size (w2.heap.size+1) w3 T.out.c0 T.out.c1);rw[E.out]at CH;clear T B3 Z;go_wp2_with fail;refine CH.out.mono ?_;rintro e w4 ⟨rfl,rfl⟩;clear CH;go_upto_region 5 with fail;have V:=zW (show stF M L.length=a by rw[MM.out];simp[stF]);have c0:=S.out.cell HL.out;rw[V.out]at c0;have f0:=S.out.fz L.length;have c1:=S.out.depth;rw[HM.out]at c1;have f1:=S.out.fz 16;rw[MM.out]at S;have S2:=zW (S.out.pop HL.out);have R2:=zW ((R.out.other (g:=r) zLS L.length (.int .i64 0)).other (g:=r) zLS 16 (.int .i64 (L.length:Int)));have B2:=zW ((B.out.setCell (p:=⟨r,L.length,none⟩) (zH _) (.int .i64 0)).setCell (p:=⟨r,16,none⟩) (zH _) (.int .i64 (L.length:Int)));clear S R B;have wr1:=wr.out;go_upto_region 8 with fail;clear c0 c1 f0 f1 wr1;generalize (w3.setCell ⟨r,L.length,none⟩ (.int .i64 0)).setCell ⟨r,16,none⟩ (.int .i64 (L.length:Int))=w4 at*;refine zG ?_;refine kO xV S2.out (lD _) rfl (.tmp 1) rfl zL0 ?_;simp only[Act.put,zQ,zZ,zJ];iterate 3 go_step
 refine kU (ds:=mL L) xV R2.out (lD _) (lD _) (xY _) rfl (.tmp 2) (.tmp 29) rfl zLP zLP ?_;have R3:=zW (R2.out.store L);have B3:=zW (bB B2.out (jW r) (mL L));generalize w4.setRow (r+1) (mL L)=w5 at*;iterate 10 go_step
 exact zN7
end
section
open Go.RowKit

end
section
open Go.RowKit Num
theorem t6(n:Int)(w:World):Calls Tryz.prog 71 #[.int .i64 n] w fun e w'=>e=.returned (.int .i64 (n%65536))∧w=w':=by
 have hb:=YF n;go_enter Tryz.func71,Tryz.ntmps71;go_wp2;exact zNT
def chk(a n:Int)(f:Bool):Int:=if f=true∧65536<a+n then 4 else 0
theorem uI(a n:Int)(f:Bool)(w:World)(a0:0≤a)(a1:a≤65535)(n0:0≤n)(n1:n≤65536):Calls Tryz.prog 55 #[.int .i64 a,.int .i64 n,.bool f] w fun e w'=>e=.returned (.int .i64 (chk a n f))∧w=w':=by
 cases f
 ·go_enter Tryz.func55,Tryz.ntmps55;go_wp2;go_ret;exact⟨by simp[chk],rfl⟩
 ·by_cases h:65536<a+n
  all_goals
   go_enter Tryz.func55,Tryz.ntmps55
   go_wp2
   go_ret
   exact⟨by simp[chk,h],rfl⟩




end
end Go.Proofs.YthknmadinmigfaaGreatDoor
