/- PixSp, PixW, Plane, PlaneScr, PlaneComb, PlaneRows, PlaneEq, PlaneDraw, PlaneSpr, PlaneStep, ScrBox, RecD, RecNum, RecL1, RecPx, RecL2, RecEq, RecEqG, RecRcs, RecRow, RecY. -/
import Derived.Test.YtilideoeaecoaaaMPix4
import Derived.Test.YtilideoeaecoaaaMk0b
set_option maxRecDepth 400000
set_option maxHeartbeats 64000000
set_option linter.unusedVariables false
set_option linter.unusedSimpArgs false
namespace Go.Proofs.Ytilideoeaecoaaa
section
open Go.RowKit Num


theorem pJ{b:Bool}{m h:Nat}(hr:Res b m h)(w:World):Calls Try.prog 36 #[.bool b] w fun e w'=>e=.returned (.tuple #[.int .i64 (m:Int),.int .i64 (h:Int)])∧w=w':=by
 rcases hr with⟨rfl,rfl,rfl⟩|⟨rfl,rfl,rfl⟩
 all_goals
  go_enter Try.func36,Try.ntmps36
  go_wp2
  go_ret2
  exact⟨rfl,rfl⟩


theorem yC:(Try.prog.info? 43).map (·.size)=some 128:=by kernel_rfl
theorem rM:(Try.prog.info? 42).map (·.size)=some 2:=by kernel_rfl
theorem nH(P:Pl)(k:Nat)(hk:k<64):(j0 P).extract (k*2) (k*2+2)=#[.int .u64 ((hi (P k)).toNat:Int),.int .u64 ((lo (P k)).toNat:Int)]:=by
 apply qM
 intro j
 rw[jQ];by_cases hj:j<2
 ·rw[zL o3,kE _ _ oB];rcases(show j=0∨j=1 by omega)with rfl|rfl
  ·rw[show k*2+0=2*k by omega,v4];rfl
  ·rw[show k*2+1=2*k+1 by omega,cS];rfl
 ·rw[zY o3,zO oA]
theorem wP(P:Pl)(k:Nat)(hk:k<64)(w:World):(Instr.index 43 (.agg (j0 P)) (.int .i64 (k:Int))).run Try.prog w=.ok (.agg #[.int .u64 ((hi (P k)).toNat:Int),.int .u64 ((lo (P k)).toNat:Int)]) w:=by
 have hn:(0:Int)≤(k:Int)∧(k:Int)<((64:Nat):Int):=oB;have hp:=kR (P:=Try.prog) 42 _ (j0 P) (k*2) 2 w rfl Try.underlying42 rM;rw[nH P k hk]at hp;have hs:=rM;cases hq:Try.prog.info? 42 with
 |none=>rw[hq]at hs;cases hs
 |some i=>
  have hs:i.size=2:=by simpa [hq]using hs
  simp[Instr.index,z7 Try.underlying43,asIntOf,hn,go_sem,sizeOf,typeInfo,hq,hs,hp]
  rw[zL hk,nH P k hk]
section
variable {P:Program}
theorem lE(d:Nat)(ta tr:TypeId)(dr:TypeDesc)(n sz:Nat)(xs ys:Array Value)(r:Nat→Bool)(hd:(match dr with| .struct _| .array _ _=>true|_=>false)=true)(ht:P.underlying ta=some (.array n tr))(hu:P.underlying tr=some dr)(hi:(P.info? tr).map (·.size)=some sz)
  (h:∀i,i<n→∀w,(Op.equalIn d tr (.agg (xs.extract (i*sz) (i*sz+sz))) (.agg (ys.extract (i*sz) (i*sz+sz)))).run P w=.ok (r i) w) (w:World):
  (Op.equalIn (d+1) ta (.agg xs) (.agg ys)).run P w=.ok ((List.range' 0 n).all r) w:=by
 cases hq:P.info? tr with
 |none=>simp[hq]at hi
 |some i=>
  have hs:i.size=sz:=oI
  simp only[Op.equalIn,zH,z7 ht,Result.andThen_ok,sizeOf,typeInfo,hq,hs,Sem.run_pure]
  have go:∀l:List Nat,(∀i∈l,i<n)→(forIn (m:=Sem) l ((none:Option Bool),()) (fun i _=>do
      let a←part tr xs (i*sz)
      let b←part tr ys (i*sz)
      let r←Op.equalIn d tr a b
      if r=false then pure (ForInStep.done (some false,()))else pure (ForInStep.yield (none,())))).run P w=.ok ((if l.all r then none else some false),()) w:=by
   intro l;induction l with
   |nil=>intro _;simp
   |cons k l ih=>
    intro hl
    simp only[List.forIn_cons,zH,kR tr dr xs (k*sz) sz w hd hu hi,kR tr dr ys (k*sz) sz w hd hu hi,Result.andThen_ok,h k (hl k oP) w]
    cases hk:r k
    ·simp[hk]
    ·simp[hk]
     have:=ih fun i hi=>hl i (by simp[hi])
     simpa using this
  have hgo:=go (List.range' 0 n) fun i hi=>by have:=qY.1 hi;omega
  simp[zH,hq,hs,Std.Legacy.Range.forIn_eq_forIn_range']at hgo⊢
  rw[hgo]
  have ha:(List.range' 0 n).all r=true↔∀x,x<n→r x=true:=by simp[z4,qY]
  by_cases hall:∀x,x<n→r x=true
  ·rw[ha.2 hall];simp only[Result.andThen_ok,zL hall];simp
  ·cases hb:(List.range' 0 n).all r
   ·simp only[Result.andThen_ok,zY hall];simp
   ·exact absurd (ha.1 hb) hall
end
def mY(A B:Pl):Bool:=(List.range' 0 64).all fun y=>decide (A y=B y)
theorem nO(A B:Pl):mY A B=true↔∀y,y<64→A y=B y:=by
 unfold mY;rw[z4];constructor
 ·intro h y hy;have:=h y (by rw[qY];omega);exact qS this
 ·intro h y hy;rw[qY]at hy;exact zU (h y oB)
theorem pW(h l h' l':BitVec 64)(d:Nat)(w:World):(Op.equalIn (d+2) 42 (.agg #[.int .u64 (h.toNat:Int),.int .u64 (l.toNat:Int)]) (.agg #[.int .u64 (h'.toNat:Int),.int .u64 (l'.toNat:Int)])).run Try.prog w=.ok (decide (h++l=h'++l')) w:=by
 have ht:Try.prog.underlying 42=some (.struct (Try.prog.fieldsOf 42)):=oT;have hp:Try.prog.stoodInHeld 42=false:=oT;rw[run_equalIn_struct (P:=Try.prog) w (d+1) 42 _ _ ht hp];simp[Program.fieldsOf,Try.underlying42,Op.eqFields,go_sem];have e:h++l=h'++l'↔((h.toNat:Int)=h'.toNat∧(l.toNat:Int)=l'.toNat):=by
  rw[oX,←BitVec.toNat_inj,←BitVec.toNat_inj];omega
 by_cases e1:(h.toNat:Int)=h'.toNat
 ·by_cases e2:(l.toNat:Int)=l'.toNat
  ·rw[zL e1,zL e2,zU (e.2 ⟨e1,e2⟩)]
  ·rw[zL e1,zY e2,z0 fun q=>e2 (e.1 q).2]
 ·rw[zY e1,z0 fun q=>e1 (e.1 q).1]
theorem t7(C:Pl):(j0 C).extract 0 (0+128)=j0 C:=by
 apply qM
 intro j
 rw[jQ,j1];by_cases hj:j<128
 ·rw[zL oB,qL]
 ·rw[zY oB,zO o3]
theorem vG(A B:Pl)(d:Nat)(w:World):(Op.equalIn (d+4) 45 (.agg (j0 A)) (.agg (j0 B))).run Try.prog w=.ok (mY A B) w:=by
 have ht:Try.prog.underlying 45=some (.struct (Try.prog.fieldsOf 45)):=oT;have hp:Try.prog.stoodInHeld 45=false:=oT;rw[run_equalIn_struct (P:=Try.prog) w (d+3) 45 _ _ ht hp];have hx:∀C:Pl,(part 43 (j0 C) 0).run Try.prog w=.ok (.agg (j0 C)) w:=by
  intro C;rw[kR (P:=Try.prog) 43 _ (j0 C) 0 128 w rfl Try.underlying43 yC,t7]
 have he:(Op.equalIn (d+3) 43 (.agg (j0 A)) (.agg (j0 B))).run Try.prog w=.ok (mY A B) w:=lE (P:=Try.prog) (d+2) 43 42 _ 64 2 (j0 A) (j0 B) (fun y=>decide (A y=B y)) rfl Try.underlying43 Try.underlying42 rM (fun y hy w=>by
  rw[nH A y hy,nH B y hy,pW,t5,t5]) w
 have hxA:=hx A;have hxB:=hx B;clear hx ht hp;generalize mY A B=v at*;generalize j0 A=CA at*;generalize j0 B=CB at*;simp only[Program.fieldsOf,Try.underlying45,Op.eqFields];rw[zL oR,zH,hxA,Result.andThen_ok,zH,hxB,Result.andThen_ok,zH,he,Result.andThen_ok];cases v
 ·rw[zL oR,Sem.run_pure]
 ·rw[zY oR,Sem.run_pure]
theorem e9(A B:Pl)(w:World):(binOp .neq 45 (.agg (j0 A)) (.agg (j0 B))).run Try.prog w=.ok (.bool (!mY A B)) w:=by
 have h:=vG A B 9996 w;have e:(10000:Nat)=9996+4:=oR;rw[run_neq_struct,e,h];simp only[Result.andThen_ok]
theorem r4:Try.prog.eqGuardType Try.prog.depth 45=false:=by kernel_rfl
section
variable {P:Program} {ops:Array Oper} {C:World→Prop} {Q:Act→Prop}
theorem bF{o:Oper}{ρ:Operand→Value}{w:World}(ty:TypeId)(ho:o.op=.build ty #[])(r:Value)(hr:(Instr.build ty #[]).run P w=.ok r w):(execOp ρ o).run P w=.ok (.value r) w:=by
 unfold execOp;simp only[ho];rw[show(#[]:Array (Nat×Operand)).map (fun(x:Nat×Operand)=>(x.1,ρ x.2))=#[] by simp,zH,hr];simp[Result.andThen_ok]
end
theorem bU(w:World):(Instr.build 45 #[]).run Try.prog w=.ok (.agg (j0 fun _=>0#128)) w:=by
 refine run_build w 45 _ _ ?_;obtain⟨it,hit,hz⟩:=jC.1 xC;simp only[jW]at hz;have hp:(match Try.prog.underlying 45 with|some (.struct fields)=>fields.toList.mapM (fun f=>(Try.prog.info? f.type).map fun i=>(f.offset,i.size))|_=>none)=some [(0,128)]:=by kernel_rfl
 rw[Try.underlying45]at hp;unfold Program.built;rw[hit,Try.underlying45];simp only at hp⊢;rw[hz.1,hp];rfl

section
variable {P:Program} {ops:Array Oper} {C:World→Prop}
end
section
variable {ops:Array Oper} {W:World}
theorem bL{Q:Exit→Act→World→Prop}{o:Oper}{rest:List Oper}{a:Act}(hgd:o.guard=none)(ho:o.op=.build 45 #[])(h:wpList Try.prog ops Q rest (a.put o.dst (.agg (j0 fun _=>0#128))) W):wpList Try.prog ops Q (o::rest) a W:=by
 refine zI hgd fun K hK=>?_;unfold Oper.wp;rw[bF 45 ho _ (bU W)];exact hK _ _ h
end
theorem u5.step{w w':World}{A:Option Addr}{L:List Nat}(h:u5 w A L)(hb:Below w.heap.size w w'):u5 w' A L:=h.below hb
theorem resOf(b:Bool):∃m h,Res b m h:=by
 cases b
 ·exact⟨64,32,.inr ⟨rfl,rfl,rfl⟩⟩
 ·exact⟨128,64,.inl ⟨rfl,rfl,rfl⟩⟩
theorem aA{A B:Pl}(h:∀y,y<64→A y=B y):mY A B=true:=(nO A B).2 h
structure Sc where
 P:Nat→Pl
 hi:Bool
 M:Int
def kP(P:Nat→Pl):Array Value:=((List.range 512).map fun j=>Value.int .u64 (lQ (P (j/128)) (j%128))).toArray
theorem vS(P:Nat→Pl):(kP P).size=512:=by simp[kP]
theorem bZ(P:Nat→Pl)(j:Nat)(hj:j<512):(kP P)[j]?=some (.int .u64 (lQ (P (j/128)) (j%128))):=by simp[kP,hj]
theorem rL{A B:Pl}(h:∀y,y<64→A y=B y){j:Nat}(hj:j<128):lQ A j=lQ B j:=by
 unfold lQ;rw[h (j/2) oB]
theorem yH(P:Nat→Pl)(i:Nat)(hi:i<4):(kP P).extract (i*128) (i*128+128)=j0 (P i):=by
 apply qM
 intro j
 rw[jQ,vS];by_cases hj:j<128
 ·rw[zL oB,bZ _ _ oB,kE _ _ hj,show(i*128+j)/128=i by omega,show(i*128+j)%128=j by omega]
 ·rw[zY oB,zO o3]
def Sc.put(S:Sc)(i:Nat)(Q:Pl):Sc:=⟨fun k=>if k=i then Q else S.P k,S.hi,S.M⟩
def Sc.mask(S:Sc)(m:Int):Sc:=⟨S.P,S.hi,m⟩
theorem xM:lI Try.prog 45 128:=⟨⟨_,Try.underlying45,rfl⟩,by kernel_rfl⟩
theorem r7:lI Try.prog 46 512:=⟨⟨_,Try.underlying46,rfl⟩,by kernel_rfl⟩
theorem sI:mW Try.prog 45 (j0 fun _=>0#128):=by
 unfold mW;rw[j1];exact xC
section
variable {b:Nat} {S T:Sc} {w w':World}
end
theorem dD(x y:Bool)(d:Nat)(w:World):(Op.equalIn (d+1) 4 (.bool x) (.bool y)).run Try.prog w=.ok (x==y) w:=by
 simp[Op.equalIn,z7 Try.underlying4,go_sem]
section
variable {ops:Array Oper} {C:World→Prop}
end
structure jO where
 P:Nat→Pl
 hi:Bool
 so:Bool
 pat:Nat→Int
 pt:Int
 k:Int
 c:Int
 p:Int
 y:Int
def kI(r:jO)(j:Nat):Value:=if j<512 then .int .u64 (lQ (r.P (j/128)) (j%128))else if j=512 then .bool r.hi else if j=513 then .bool r.so else if j<530 then .int .u8 (r.pat (j-514))else if j=530 then .int .u8 r.pt else if j=531 then .int .i64 r.k else if j=532 then .int .i64 r.c else if j=533 then .int .i64 r.p else .int .i64 r.y
def jA(r:jO):Array Value:=mZ 535 (kI r)
theorem jU(r:jO):(jA r).size=535:=lA
theorem j6(r:jO){j:Nat}(hj:j<535):(jA r)[j]?=some (kI r j):=mQ hj
theorem lR(r:jO):vI (jA r):=by
 unfold vI jA mZ;rw[qN];intro v hv;simp only[List.mem_toArray,jX,z9]at hv;obtain⟨j,hj,rfl⟩:=hv;unfold kI;repeat' split
 all_goals rfl
theorem j8:lI Try.prog 48 535:=⟨⟨_,Try.underlying48,rfl⟩,by kernel_rfl⟩
def kK:jO:=⟨fun _ _=>0#128,false,false,fun _=>0,0,0,0,0,0⟩
theorem yF:jA kK=(((Array.replicate 512 (Value.int .u64 0))++ #[.bool false,.bool false])++(Array.replicate 17 (Value.int .u8 0)))++ #[.int .i64 0,.int .i64 0,.int .i64 0,.int .i64 0]:=by kernel_rfl
theorem lH:mW Try.prog 48 (jA kK):=by
 unfold mW;rw[jU,yF];kernel_rfl
theorem vZ(r:jO):(jA r).extract 0 (0+512)=kP r.P:=mO (vS _) oB fun j hj=>by
 unfold kP kI;rw[zL oB,qL];simp[hj]
theorem dN(r:jO):(jA r).extract 514 (514+16)=pc r.pat:=mO (iM _) oB fun j hj=>by
 rw[pO _ _ hj];unfold kI;rw[zY oB,zY oB,zY oB,zL oB,show 514+j-514=j by omega]
theorem rD(r:jO):(jA r).extract 531 (531+4)=lY r.k r.c r.p r.y:=mO rfl oB fun j hj=>by
 exact ZQ
theorem lF(d:Nat)(xs:Array Value)(f:Field)(fs:List Field)(v:Value)(w:World)(hf:f.name≠ "_")(hx:(part f.type xs f.offset).run Try.prog w=.ok v w)(he:(Op.equalIn (d+1) f.type v v).run Try.prog w=.ok true w)
  (hr:(Op.eqFields (d+1) xs xs fs).run Try.prog w=.ok true w):(Op.eqFields (d+1) xs xs (f::fs)).run Try.prog w=.ok true w:=by
 unfold Op.eqFields;rw[zL hf,zH,hx,Result.andThen_ok,zH,hx,Result.andThen_ok,zH,he,Result.andThen_ok];simp only[Bool.not_true,Bool.false_eq_true,if_false];exact hr
theorem kN(t:TypeId)(td:TypeDesc)(hu:Try.prog.underlying t=some td)(hd:(match td with| .struct _| .array _ _=>true|_=>false)=false)(cs:Array Value)(k:Nat)(v:Value)(h:cs[k]?=some v)(w:World):(part t cs k).run Try.prog w=.ok v w:=by
 have hagg:(isAgg t).run Try.prog w=.ok false w:=by
  unfold isAgg;rw[zH,z7 hu w];cases td<;>simp_all
 simp[part,zH,hagg,h]
def nb:Nat→Nat→List Nat
 |0,_=>[]
 |s+1,n=>nb s (n/256)++[n%256]
theorem kL:∀s n,(nb s n).length=s
 |0,_=>rfl
 |s+1,n=>by show(nb s (n/256)++[n%256]).length=_;rw[zM,kL s];rfl
theorem xZ:∀s n b,b∈nb s n→b<256
 |0,_,_,h=>by cases h
 |s+1,n,b,h=>by
  rcases List.mem_append.1 h with h|h
  ·exact xZ s _ _ h
  ·rw[List.mem_singleton.1 h];exact qI _ oR
theorem dV{M:List Nat→Prop}(h0:M [])(h1:∀l b,M l→M (l++[b]))(l:List Nat):M l:=by
 have h:∀r:List Nat,M r.reverse:=by
  intro r;induction r with
  |nil=>exact h0
  |cons b r ih=>rw[List.reverse_cons];exact h1 _ b ih
 have:=h l.reverse;rwa [List.reverse_reverse]at this
def un(l:List Nat):Nat:=l.foldl (fun a b=>a*256+b) 0
theorem yN(l:List Nat)(b:Nat):un (l++[b])=un l*256+b:=by unfold un;rw[List.foldl_append];rfl
theorem oY:∀s n,n<256^s→un (nb s n)=n
 |0,n,hn=>by
  rw[Nat.pow_zero]at hn;show 0=n;omega
 |s+1,n,hn=>by
  rw[Nat.pow_succ]at hn;show un (nb s (n/256)++[n%256])=n;rw[yN,oY s (n/256) oB];omega
theorem nb_un(l:List Nat):(∀b∈l,b<256)→nb l.length (un l)=l:=by
 refine dV (M:=fun l=>(∀b∈l,b<256)→nb l.length (un l)=l) (fun _=>rfl) ?_ l
 ·intro l b ih h;have hb:=h b oP;have h1:=ih fun x hx=>h x (by simp[hx]);rw[zM,yN];show nb l.length ((un l*256+b)/256)++[(un l*256+b)%256]=_;rw[show(un l*256+b)/256=un l by omega,show(un l*256+b)%256=b by omega,h1]
theorem dJ(l:List Nat):(∀b∈l,b<256)→un l<256^l.length:=by
 refine dV (M:=fun l=>(∀b∈l,b<256)→un l<256^l.length) (fun _=>(by show 0<1;decide)) ?_ l
 ·intro l b ih h;have hb:=h b oP;have h1:=ih fun x hx=>h x (by simp[hx]);rw[zM,yN,List.length_singleton,Nat.pow_succ];omega
theorem uM{α:Type _}(f:Nat→List α)(L:Nat):∀n,(∀i,i<n→(f i).length=L)→((List.range n).flatMap f).length=n*L
 |0,_=>by simp
 |n+1,h=>by
  rw[List.range_succ,List.flatMap_append,zM,uM f L n fun i hi=>h i oB];simp only[List.flatMap_cons,List.flatMap_nil,z5];rw[h n oB,Nat.add_mul,Nat.one_mul]
def plB(A:Pl):List Nat:=(List.range 64).flatMap fun y=>nb 16 (A y).toNat
theorem cO(A:Pl):(plB A).length=1024:=uM _ 16 64 fun i _=>kL 16 _
def kJ(A:Pl):Bool:=(List.range 64).all fun y=>decide (A y=0#128)
theorem nX(A:Pl):kJ A=true↔∀y,y<64→A y=0#128:=by
 unfold kJ;rw[z4];exact⟨fun h y hy=>qS (h y (z9.2 hy)),fun h y hy=>zU (h y (z9.1 hy))⟩
def b2n(b:Bool):Nat:=if b=true then 1 else 0
def lK(r:jO):Nat:=(if kJ (r.P 0)=true then 0 else 1)+(if kJ (r.P 1)=true then 0 else 2)+(if kJ (r.P 2)=true then 0 else 4)+(if kJ (r.P 3)=true then 0 else 8)
def plK(r:jO)(k:Nat):List Nat:=if kJ (r.P k)=true then[]else plB (r.P k)
def pU(r:jO):List Nat:=plK r 0++(plK r 1++(plK r 2++plK r 3))
def yJ(r:jO):List Nat:=[b2n r.hi+2*b2n r.so,r.pt.toNat]++(((List.range 16).map fun j=>(r.pat j).toNat)++([r.k.toNat,r.c.toNat]++(nb 2 r.p.toNat++(nb 8 r.y.toNat++[lK r]))))
def kS(r:jO):List Nat:=yJ r++pU r
def mN(l:List jO):List Nat:=[67,56,82,49]++(nb 4 l.length++l.flatMap kS)
theorem sW(r:jO):(yJ r).length=31:=by
 unfold yJ;simp only[zM,z6,List.length_range,List.length_cons,List.length_nil,kL]
structure OkR(r:jO):Prop where
 pat:∀j,j<16→0≤r.pat j∧r.pat j≤255
 pt:0≤r.pt∧r.pt≤255
def stR(r:jO):Bool:=decide (0≤r.k∧r.k≤3∧0≤r.p∧r.p≤65535∧0≤r.y∧r.y≤4611686018427387904)&&(decide (2≤r.k)||decide (r.p=0∧r.y=0))&&(if r.k=3 then decide (1≤r.c∧r.c≤4)else decide (r.c=0))
def rsR(r:jO):Bool:=r.hi||((List.range 4).all fun i=>(List.range 64).all fun y=>decide ((r.P i y).toNat%2^64=0∧(32≤y→r.P i y=0#128)))
def j9(r:jO):Bool:=rsR r&&stR r
structure vU(r q:jO):Prop where
 P:∀i,i<4→∀y,y<64→r.P i y=q.P i y
 hi:r.hi=q.hi
 so:r.so=q.so
 pat:∀j,j<16→r.pat j=q.pat j
 pt:r.pt=q.pt
 k:r.k=q.k
 c:r.c=q.c
 p:r.p=q.p
 y:r.y=q.y
theorem vU.cells{r q:jO}(h:vU r q):jA r=jA q:=cW fun j hj=>by
 unfold kI;by_cases h1:j<512
 ·rw[zL h1,zL h1,rL (h.P (j/128) oB) (qI _ oR)]
 ·rw[zY h1,zY h1,h.hi,h.so,h.pt,h.k,h.c,h.p,h.y];by_cases h2:514≤j∧j<530
  ·rw[h.pat (j-514) oB]
  ·by_cases h3:j<530
   ·rcases(show j=512∨j=513 by omega)with rfl|rfl<;>rfl
   ·simp only[zY h3]
theorem vK(r:jO)(k:Nat):(plK r k).length=if kJ (r.P k)=true then 0 else 1024:=by
 unfold plK;split
 ·rfl
 ·exact cO _
structure OkE(r:jO):Prop where
 n:OkR r
 k:0≤r.k∧r.k≤255
 c:0≤r.c∧r.c≤255
 p:0≤r.p∧r.p≤65535
 y:0≤r.y∧r.y≤4611686018427387904
theorem okE_of{r:jO}(h:OkR r)(hs:stR r=true):OkE r:=by
 unfold stR at hs;simp only[zR,zE]at hs;obtain⟨⟨⟨h1,h2,h3,h4,h5,h6⟩,_⟩,h7⟩:=hs;refine⟨h,⟨h1,by omega⟩,?_,⟨h3,h4⟩,⟨h5,h6⟩⟩;split at h7<;>simp only[zE]at h7<;>omega
def xH:List jO→List jO→Prop
 |[],[]=>True
 |r::l,q::m=>vU r q∧xH l m
 |_,_=>False
def cmb(f:Nat→Bool):Nat→Nat
 |0=>0
 |k+1=>cmb f k+(if f k=true then 2^k else 0)
theorem fO(f:Nat→Bool):∀k,cmb f k<2^k
 |0=>by show 0<1;decide
 |k+1=>by
  have h:=fO f k;rw[cmb,Nat.pow_succ];split<;>omega
theorem tQ(n:Int)(h0:0≤n)(h1:n<2^8):IntKind.u8.wrap n=n:=by rw[qQ];omega
theorem or_pow(s k:Nat)(hk:k<8)(hs:s<2^k):bits .or .u8 (s:Int) ((2^k:Nat):Int)=((s+2^k:Nat):Int):=by
 have hp:2^k<256:=zG (Nat.pow_lt_pow_right oR hk) oR;rw[(bits_nat .u8 8 oR tQ s (2^k) oB hp).2];have h:=Nat.shiftLeft_add_eq_or_of_lt hs 1;rw[Nat.one_shiftLeft]at h;rw[Nat.or_comm,←h,Nat.add_comm]
theorem nG(f:Nat→Bool)(n g c:Nat)(n4:n≤4)(w:World)(H:∀j,j<n→w.cell? ⟨g,j,none⟩=some (.bool (f j))):
  Calls Try.prog 37 #[.slice (some ⟨g,0,none⟩) n c] w fun e w'=>e=.returned (.int .u8 (cmb f n:Int))∧w=w':=by
 have HH:=zW H;clear H;go_enter Try.func37,Try.ntmps37;go_wp2_with fail;go_loopw [3,8] (fun s i wr=>∃k:Nat,k≤n∧i=.int .i64 (k:Int)∧s=.int .u8 (cmb f k:Int)∧wr=w) (fun _ i _=>n-(intOf i).toNat)
 case atStart=>exact⟨0,zD _,rfl,rfl,rfl⟩
 case round=>
  obtain⟨k,hk,rfl,rfl,rfl⟩:=hrel
  by_cases hlt:k<n
  ·have ki:(k:Int)<(n:Int):=oB
   have JX:=zW hlt
   have cq:=HH.out k hlt
   have CS:=zW (show cmb f (k+1)=cmb f k+(if f k=true then 2^k else 0)from rfl)
   have hs:=fO f k
   have OP:=zW (or_pow (cmb f k) k oB hs)
   generalize hq:cmb f k=s at*
   generalize hp:cmb f (k+1)=t at*
   generalize hb:f k=b at*
   have s1:(0:Int)≤(s:Int):=oB
   rcases(show k=0∨k=1∨k=2∨k=3 by omega)with rfl|rfl|rfl|rfl
   all_goals
    have op:=OP.out
    clear OP
    simp only[Nat.reducePow]at op hs
    cases b
    ·go_wp2
     refine⟨⟨_,JX.out,by go_num,by rw[hp,CS.out];rfl,by trivial⟩,by have:=JX.out;simp[intOf];omega⟩
    ·go_wp2
     refine⟨⟨_,JX.out,by go_num,by rw[hp,CS.out];exact congrArg (Value.int .u8) op,by trivial⟩,by have:=JX.out;simp[intOf];omega⟩
  ·obtain rfl:k=n:=by omega
   go_wp2
   go_ret
   exact⟨rfl,rfl⟩
theorem rK{g h:Nat→Bool}:∀k,(∀i,i<k→g i=h i)→acc g k=acc h k
 |0,_=>rfl
 |k+1,e=>by rw[acc,acc,rK k (fun i hi=>e i oB),e k oB]
theorem yD(g:Nat→Bool)(a:Nat):∀b,acc g (a+b)=acc g a*2^b+acc (fun k=>g (a+k)) b
 |0=>by show acc g a=acc g a*2^0+0;omega
 |b+1=>by
  show 2*acc g (a+b)+(g (a+b)).toNat=acc g a*2^(b+1)+(2*acc (fun k=>g (a+k)) b+(g (a+b)).toNat);rw[yD g a b,Nat.pow_succ,Nat.mul_add,←Nat.mul_assoc,Nat.mul_comm 2 (acc g a),Nat.mul_assoc (acc g a) 2,Nat.mul_comm 2 (2^b)];omega
theorem xN(g:Nat→Bool):∀k,acc g k=0↔∀i,i<k→g i=false
 |0=>⟨fun _ i hi=>absurd hi (Nat.not_lt_zero i),fun _=>rfl⟩
 |k+1=>by
  rw[acc];constructor
  ·intro h i hi;have h1:acc g k=0:=oB;have h2:(g k).toNat=0:=oB;by_cases e:i=k
   ·subst e;cases hg:g i
    ·rfl
    ·rw[hg]at h2;cases h2
   ·exact(xN g k).1 h1 i oB
  ·intro h;rw[(xN g k).2 fun i hi=>h i oB,h k oB];rfl
theorem fV(g:Nat→Bool):∀s,nb s (acc g (8*s))=(List.range s).map fun j=>acc (fun k=>g (8*j+k)) 8
 |0=>rfl
 |s+1=>by
  have h:=yD g (8*s) 8;have hl:=x7 (fun k=>g (8*s+k)) 8;have e8:(2:Nat)^8=256:=oR;rw[e8]at h hl;show nb s (acc g (8*(s+1))/256)++[acc g (8*(s+1))%256]=_;rw[show 8*(s+1)=8*s+8 by omega,h,show(acc g (8*s)*256+acc (fun k=>g (8*s+k)) 8)/256=acc g (8*s) by omega,show(acc g (8*s)*256+acc (fun k=>g (8*s+k)) 8)%256=acc (fun k=>g (8*s+k)) 8 by omega,fV g s,List.range_succ,qD];rfl
theorem dR(f:Nat→Bool)(y:Nat):(fwd f y).toNat=acc (fun i=>f (128*y+i)) 128:=by
 unfold fwd;rw[BitVec.toNat_append,yP,yP,←Nat.shiftLeft_add_eq_or_of_lt (x7 _ 64),Nat.shiftLeft_eq,show(128:Nat)=64+64 from rfl,yD]
theorem t6{α:Type _}(F:Nat→α)(m:Nat):∀n,(List.range n).flatMap (fun y=>(List.range m).map fun j=>F (m*y+j))=(List.range (m*n)).map F
 |0=>by simp
 |n+1=>by
  rw[List.range_succ,List.flatMap_append,t6 F m n,Nat.mul_add,Nat.mul_one,List.range_add,qD,List.map_map];simp only[List.flatMap_cons,List.flatMap_nil,z5];rfl
theorem iW(f:Nat→Bool):plB (fwd f)=(List.range 1024).map fun j=>acc (fun k=>f (8*j+k)) 8:=by
 have h:=t6 (fun j=>acc (fun k=>f (8*j+k)) 8) 16 64;rw[show 16*64=1024 from rfl]at h;rw[←h];unfold plB;congr 1
 funext y
 rw[dR,show(128:Nat)=8*16 from rfl,fV];refine List.map_congr_left fun j _=>rK 8 fun k _=>?_;congr 1
 omega
theorem tC(f:Nat→Bool):kJ (fwd f)=true↔∀i,i<8192→f i=false:=by
 rw[nX];constructor
 ·intro h i hi;have h1:=h (i/128) oB;have h2:=rE f (i/128) (i%128) (qI _ oR);rw[h1,yG,Nat.div_add_mod]at h2;exact h2.symm
 ·intro h y hy;refine pS fun x hx=>?_;rw[rE _ _ _ hx,yG,h _ oB]
def eH(f:Nat→Bool)(m h:Nat):Prop:=∀i,i<8192→f i=true→i%128<m∧i/128<h
theorem eN(f:Nat→Bool):eH f 128 64:=fun i hi _=>⟨qI _ oR,by omega⟩
def nL(A:Pl):Bool:=(List.range 64).all fun y=>decide ((A y).toNat%2^64=0∧(32≤y→A y=0#128))
theorem tL(f:Nat→Bool):nL (fwd f)=true↔eH f 64 32:=by
 unfold nL;rw[z4];have low:∀y,(fwd f y).toNat%2^64=acc (fun i=>f (128*y+(64+i))) 64:=fun y=>by
  rw[dR,show(128:Nat)=64+64 from rfl,yD,Nat.mul_add_mod_self_right,qR (x7 _ 64)]
 constructor
 ·intro h i hi hf;have h1:=qS (h (i/128) (z9.2 oB));rw[low]at h1;constructor
  ·refine Nat.lt_of_not_le fun c=>?_;have h2:=(xN _ 64).1 h1.1 (i%128-64) oB;rw[show 128*(i/128)+(64+(i%128-64))=i by omega,hf]at h2;cases h2
  ·refine Nat.lt_of_not_le fun c=>?_;have h2:=rE f (i/128) (i%128) (qI _ oR);rw[h1.2 c,yG,Nat.div_add_mod,hf]at h2;cases h2
 ·intro h y hy;have hy:=z9.1 hy;refine zU ⟨?_,fun h32=>?_⟩
  ·rw[low];refine(xN _ 64).2 fun i hi=>?_;cases hf:f (128*y+(64+i))
   ·rfl
   ·have:=(h _ oB hf).1;omega
  ·refine pS fun x hx=>?_;rw[rE _ _ _ hx,yG];cases hf:f (128*y+x)
   ·rfl
   ·have:=(h _ oB hf).2;omega
theorem xE(n i:Nat)(hn:n<256)(hi:i<4)(w:World):Calls Try.prog 43 #[.int .u8 (n:Int),.int .i64 (i:Int)] w fun e w'=>e=.returned (.bool (n.testBit i))∧w=w':=by
 have ht:n.testBit i=decide (n/2^i%2=1):=by
  rw[Nat.testBit_eq_decide_div_mod_eq]
 rw[ht];obtain⟨m,hm⟩:∃m,n/2^i=m:=⟨_,rfl⟩;have m1:m<256:=by rw[←hm];exact Nat.lt_of_le_of_lt (Nat.div_le_self _ _) hn
 have hb:=bits_mask .u8 8 oR tQ 1 oR (m:Int) oB oB;simp only[Int.pow_succ,Int.pow_zero,Int.one_mul]at hb;have e1:((2:Int)-1)=1:=oR;rw[e1]at hb;obtain⟨d,hd⟩:∃d,m%2=d:=⟨_,rfl⟩;have hb2:bits .and .u8 (m:Int) 1=(d:Int):=by rw[hb];omega
 rw[hm,hd];have hv:(n:Int)/2^i=(m:Int):=by rw[←hm];simp
 have w0:IntKind.u8.wrap (d:Int)=(d:Int):=by rw[qQ];omega
 clear hb;rcases(show i=0∨i=1∨i=2∨i=3 by omega)with rfl|rfl|rfl|rfl
 all_goals
  simp only[Nat.reducePow,Int.reducePow]at hv
  go_enter Try.func43,Try.ntmps43
  go_wp2
  go_ret
  have e2:((d:Int)==1)=decide (d=1):=by
   rw[Bool.eq_iff_iff];simp;omega
  exact⟨congrArg (fun b=>Ending.returned (.bool b)) e2,rfl⟩
theorem v5(r:BitVec 128):r.toNat%2^64=(lo r).toNat∧(r=0#128↔(hi r).toNat=0∧(lo r).toNat=0):=by
 have h:r.toNat=(hi r).toNat*2^64+(lo r).toNat:=by
  exact ZJ
 have hl:=(lo r).isLt;refine⟨by omega,?_⟩;constructor
 ·intro e;rw[e]at h;have h0:(0#128).toNat=0:=rfl;rw[h0]at h;subst e;omega
 ·intro⟨a,b⟩;apply BitVec.eq_of_toNat_eq
  rw[h,a,b]
  rfl
def xK(P:Pl)(y:Nat):Prop:=(lo (P y)).toNat=0∧(32≤y→(hi (P y)).toNat=0)
theorem mL(P:Pl):nL P=true↔∀y,y<64→xK P y:=by
 unfold nL xK;rw[z4];constructor
 ·intro h y hy;have h1:=qS (h y (z9.2 hy));rw[(v5 _).1]at h1;exact⟨h1.1,fun h32=>((v5 _).2.1 (h1.2 h32)).1⟩
 ·intro h y hy;have h1:=h y (z9.1 hy);refine zU ⟨by rw[(v5 _).1];exact h1.1,fun h32=>(v5 _).2.2 ⟨h1.2 h32,h1.1⟩⟩
theorem iB(h l:BitVec 64):(h|||l).toNat=0↔h.toNat=0∧l.toNat=0:=by
 rw[BitVec.toNat_or];exact Nat.or_eq_zero_iff
theorem fD(P:Pl)(b:Bool)(w:World):Calls Try.prog 20 #[.agg (j0 P),.bool b] w fun e w'=>e=.returned (.bool (b||nL P))∧Below w.heap.size w w':=by
 have X:=zW (kO.new w P 45);have B:=zW (nY w (.cells (j0 P) 45));obtain⟨Z,hZ⟩:∃Z,(b||nL P)=Z:=⟨_,rfl⟩;have ZZ:=zW hZ;rw[hZ];clear hZ;obtain⟨m,h,hr⟩:=resOf b;have RS:=zW (show(b=true∧m=128∧h=64)∨(b=false∧m=64∧h=32)from by rcases hr with⟨r1,r2,r3⟩|⟨r1,r2,r3⟩<;>simp_all);go_enter Try.func20,Try.ntmps20;go_wp2_with fail;refine(pJ hr _).mono ?_;rintro e w' ⟨rfl,rfl⟩;clear hr;go_upto_region 2 with fail;refine zN ?_;iterate 3 go_step
 refine wpList_load_row rfl 43 (.tmp 14) rfl w.heap.size oD _ _ _ _ X.out Try.underlying43 rfl (by rw[yC,j1]) ?_;have IX:=zW (wP P);generalize w.alloc (.cells (j0 P) 45)=w1 at*;generalize j0 P=C at*;clear X;go_wp2;go_loopw [16] (fun i wr=>∃k:Nat,k≤64∧i=.int .i64 (k:Int)∧(∀y,y<k→b=true∨xK P y)∧Below w.heap.size w wr) (fun i _=>64-(intOf i).toNat)
 case atStart=>exact⟨0,by omega,rfl,fun y hy=>absurd hy (Nat.not_lt_zero y),B.out⟩
 case round=>
  clear B
  obtain⟨k,hk,rfl,hn,hB⟩:=hrel
  have HN:=zW (zC hn hB)
  clear hn hB
  by_cases hlt:k<64
  ·have ki:(k:Int)<64:=oB
   have JX:=zW hlt
   have ix:=IX.out k hlt
   have hs:=HN.out.2.size
   have B2:=zW (fun o=>HN.out.2.alloc hs o)
   have GD:=zW (show xK P k↔(lo (P k)).toNat=0∧(32≤k→(hi (P k)).toNat=0)from Iff.rfl)
   have OR:=or64 (hi (P k)) (lo (P k))
   have OZ:=iB (hi (P k)) (lo (P k))
   have FA:=zW (fun(hb:b=false) (hg:¬xK P k)=>show Z=false from by
    rw[←ZZ.out,hb,Bool.false_or];cases hq:nL P
    ·rfl
    ·exact absurd ((mL P).1 hq k hlt) hg)
   have NX:=zW (fun(hg:b=true∨xK P k)=>show∀y,y<k+1→b=true∨xK P y from fun y hy=>by
    by_cases e:y=k
    ·rw[e];exact hg
    ·exact HN.out.1 y oB)
   generalize (hi (P k)|||lo (P k)).toNat=T at*
   generalize (hi (P k)).toNat=H at*
   generalize (lo (P k)).toNat=L at*
   have OZH:=zW OZ
   clear hs OZ
   rcases RS.out with⟨rfl,rfl,rfl⟩|⟨rfl,rfl,rfl⟩
   ·have k64:¬(64:Int)≤(k:Int):=oB
    go_wp2
    exact⟨⟨k+1,JX.out,by go_num,by simp,B2.out _⟩,by have:=JX.out;simp[intOf];omega⟩
   ·have k32:((32:Int)≤(k:Int))↔(32≤k):=oB
    by_cases hl:L=0
    ·have L0:(L:Int)=0:=oB
     rw[L0]at OR
     by_cases h32:32≤k
     ·by_cases hh:H=0
      ·have T0:(T:Int)=0:=by have:=OZH.out.2 ⟨hh,hl⟩;omega
       have k3:(32:Int)≤(k:Int):=oB
       have G:=zW (NX.out (.inr (GD.out.2 ⟨hl,fun _=>hh⟩)))
       go_wp2
       exact⟨⟨k+1,JX.out,by go_num,by simpa using G.out,B2.out _⟩,by have:=JX.out;simp[intOf];omega⟩
      ·have T0:¬(T:Int)=0:=fun c=>hh ((OZH.out.1 oB).1)
       have k3:(32:Int)≤(k:Int):=oB
       have e:=FA.out rfl (fun c=>hh ((GD.out.1 c).2 h32))
       subst e
       go_wp2
       go_ret
       exact⟨rfl,B2.out _⟩
     ·have k3:¬(32:Int)≤(k:Int):=oB
      have G:=zW (NX.out (.inr (GD.out.2 ⟨hl,fun c=>absurd c h32⟩)))
      go_wp2
      exact⟨⟨k+1,JX.out,by go_num,by simpa using G.out,B2.out _⟩,by have:=JX.out;simp[intOf];omega⟩
    ·have L0:¬(L:Int)=0:=oB
     have e:=FA.out rfl (fun c=>hl ((GD.out.1 c).1))
     subst e
     go_wp2
     go_ret
     exact⟨rfl,B2.out _⟩
  ·have K1:=zW (show k=64 by omega)
   have hi:¬(k:Int)<64:=oB
   have e:Z=true:=by
    rw[←ZZ.out];cases hb:b
    ·rw[Bool.false_or];exact(mL P).2 fun y hy=>(HN.out.1 y (by rw[K1.out];exact hy)).resolve_left (by rw[hb];simp)
    ·rfl
   subst e
   go_wp2
   go_ret
   exact⟨rfl,HN.out.2⟩
theorem rH(t:TypeId)(hu:Try.prog.underlying t=some (.int .i64))(a:Int)(d:Nat)(w:World):(Op.equalIn (d+1) t (.int .i64 a) (.int .i64 a)).run Try.prog w=.ok true w:=by
 rw[run_equalIn_int w d t .i64 .i64 a a hu];simp
theorem pV(k c p y:Int)(d:Nat)(w:World):(Op.equalIn (d+3) 30 (.agg (lY k c p y)) (.agg (lY k c p y))).run Try.prog w=.ok true w:=by
 have ht:Try.prog.underlying 30=some (.struct (Try.prog.fieldsOf 30)):=oT;have hp:Try.prog.stoodInHeld 30=false:=oT;rw[run_equalIn_struct (P:=Try.prog) w (d+2) 30 _ _ ht hp];clear ht hp;simp only[Program.fieldsOf,Try.underlying30];refine lF (d+1) _ _ _ (.int .i64 k) w oR (kN _ _ Try.underlying3 rfl _ _ _ rfl w) (rH _ Try.underlying3 k (d+1) w) ?_;refine lF (d+1) _ _ _ (.int .i64 c) w oR (kN _ _ Try.underlying28 rfl _ _ _ rfl w) (rH _ Try.underlying28 c (d+1) w) ?_;refine lF (d+1) _ _ _ (.int .i64 p) w oR (kN _ _ Try.underlying3 rfl _ _ _ rfl w) (rH _ Try.underlying3 p (d+1) w) ?_;refine lF (d+1) _ _ _ (.int .i64 y) w oR (kN _ _ Try.underlying3 rfl _ _ _ rfl w) (rH _ Try.underlying3 y (d+1) w) ?_;simp[Op.eqFields]
theorem eX(r:jO)(d:Nat)(w:World):(Op.equalIn (d+7) 48 (.agg (jA r)) (.agg (jA r))).run Try.prog w=.ok true w:=by
 have ht:Try.prog.underlying 48=some (.struct (Try.prog.fieldsOf 48)):=oT;have hp:Try.prog.stoodInHeld 48=false:=oT;rw[run_equalIn_struct (P:=Try.prog) w (d+6) 48 _ _ ht hp];clear ht hp;have h0:(part 46 (jA r) 0).run Try.prog w=.ok (.agg (kP r.P)) w:=by
  rw[kR (P:=Try.prog) 46 _ (jA r) 0 512 w rfl Try.underlying46 r7.i,vZ]
 have h1:(part 4 (jA r) 512).run Try.prog w=.ok (.bool r.hi) w:=kN _ _ Try.underlying4 rfl _ _ _ (j6 r oB) w;have h2:(part 4 (jA r) 513).run Try.prog w=.ok (.bool r.so) w:=kN _ _ Try.underlying4 rfl _ _ _ (j6 r oB) w;have h3:(part 37 (jA r) 514).run Try.prog w=.ok (.agg (pc r.pat)) w:=by
  rw[kR (P:=Try.prog) 37 _ (jA r) 514 16 w rfl Try.underlying37 aH.i,dN]
 have h4:(part 5 (jA r) 530).run Try.prog w=.ok (.int .u8 r.pt) w:=kN _ _ Try.underlying5 rfl _ _ _ (j6 r oB) w;have h5:(part 30 (jA r) 531).run Try.prog w=.ok (.agg (lY r.k r.c r.p r.y)) w:=by
  rw[kR (P:=Try.prog) 30 _ (jA r) 531 4 w rfl Try.underlying30 vA.i,rD]
 have e0:(Op.equalIn (d+6) 46 (.agg (kP r.P)) (.agg (kP r.P))).run Try.prog w=.ok true w:=by
  have h:=lE (P:=Try.prog) (d+5) 46 45 _ 4 128 (kP r.P) (kP r.P) (fun i=>mY (r.P i) (r.P i)) rfl Try.underlying46 Try.underlying45 xM.i (fun i hi w=>by
   rw[yH _ i hi];exact vG _ _ (d+1) w) w
  rw[h];congr 1
  rw[z4]
  exact fun i _=>aA fun _ _=>rfl
 have e1:∀b,(Op.equalIn (d+6) 4 (.bool b) (.bool b)).run Try.prog w=.ok true w:=fun b=>by rw[dD b b (d+5)];simp
 have e3:(Op.equalIn (d+6) 37 (.agg (pc r.pat)) (.agg (pc r.pat))).run Try.prog w=.ok true w:=by rw[wJ r.pat r.pat (d+4),(dF r.pat r.pat).2 fun _ _=>rfl]
 have e4:(Op.equalIn (d+6) 5 (.int .u8 r.pt) (.int .u8 r.pt)).run Try.prog w=.ok true w:=by rw[rO _ _ (d+5)];simp
 have e5:=pV r.k r.c r.p r.y (d+3) w;generalize jA r=C at*;generalize kP r.P=Q at*;simp only[Program.fieldsOf,Try.underlying48];refine lF (d+5) _ _ _ _ w oR h0 e0 ?_;refine lF (d+5) _ _ _ _ w oR h1 (e1 _) ?_;refine lF (d+5) _ _ _ _ w oR h2 (e1 _) ?_;refine lF (d+5) _ _ _ _ w oR h3 e3 ?_;refine lF (d+5) _ _ _ _ w oR h4 e4 ?_;refine lF (d+5) _ _ _ _ w oR h5 e5 ?_;simp[Op.eqFields]
theorem iU(r:jO)(w:World):(binOp .eql 48 (.agg (jA r)) (.agg (jA r))).run Try.prog w=.ok (.bool true) w:=by
 have h:=eX r 9993 w;have e:(10000:Nat)=9993+7:=oR;rw[run_eql_struct,e,h];simp only[Result.andThen_ok]
theorem uH:Try.prog.eqGuardType Try.prog.depth 48=false:=by kernel_rfl
theorem bD{o:Oper}{ρ:Operand→Value}{w:World}(x y:Operand)(z:TypeId)(ho:o.op=.binOp .eql 48 x y z)(r:jO)(hx:ρ x=.agg (jA r))(hy:ρ y=.agg (jA r)):(execOp ρ o).run Try.prog w=.ok (.value (.bool true)) w:=by
 unfold execOp;simp only[ho,hx,hy];rw[zH,zH,run_eqGuard_agg w .eql 48 x y (jA r) (jA r) uH,Result.andThen_ok,iU,Result.andThen_ok,Sem.run_pure]
section
variable {ops:Array Oper} {C:World→Prop}
theorem tT{Q:Act→Prop}{o:Oper}{rest:List Oper}{a:Act}(r:jO)(hw:Region.wanted o (yielded ops a.tmps)=true)(x y:Operand)(z:TypeId)(ho:o.op=.binOp .eql 48 x y z)(hx:a.eval x=.agg (jA r))(hy:a.eval y=.agg (jA r))
  (h:wpQuiet Try.prog ops C Q rest (a.put o.dst (.bool true))):wpQuiet Try.prog ops C Q (o::rest) a:=
 m5 hw (.bool true) (fun w' _=>bD x y z ho r hx hy) h
end
theorem lS(d:Nat)(xs ys:Array Value)(f:Field)(fs:List Field)(u v:Value)(b r:Bool)(w:World)(hf:f.name≠ "_")(hx:(part f.type xs f.offset).run Try.prog w=.ok u w)(hy:(part f.type ys f.offset).run Try.prog w=.ok v w)(he:(Op.equalIn (d+1) f.type u v).run Try.prog w=.ok b w)
  (hr:(Op.eqFields (d+1) xs ys fs).run Try.prog w=.ok r w):(Op.eqFields (d+1) xs ys (f::fs)).run Try.prog w=.ok (b&&r) w:=by
 unfold Op.eqFields;rw[zL hf,zH,hx,Result.andThen_ok,zH,hy,Result.andThen_ok,zH,he,Result.andThen_ok];cases b
 ·simp
 ·simp only[Bool.not_true,Bool.false_eq_true,if_false,Bool.true_and];exact hr
theorem dT(d:Nat)(xs ys:Array Value)(w:World):(Op.eqFields (d+1) xs ys []).run Try.prog w=.ok true w:=by simp[Op.eqFields]
theorem iI(t:TypeId)(hu:Try.prog.underlying t=some (.int .i64))(a b:Int)(d:Nat)(w:World):(Op.equalIn (d+1) t (.int .i64 a) (.int .i64 b)).run Try.prog w=.ok (decide (a=b)) w:=by
 rw[run_equalIn_int w d t .i64 .i64 a b hu];congr 1
def u0(k c p y k' c' p' y':Int):Bool:=decide (k=k')&&(decide (c=c')&&(decide (p=p')&&(decide (y=y')&&true)))
theorem fS(k c p y k' c' p' y':Int)(d:Nat)(w:World):(Op.equalIn (d+3) 30 (.agg (lY k c p y)) (.agg (lY k' c' p' y'))).run Try.prog w=.ok (u0 k c p y k' c' p' y') w:=by
 have ht:Try.prog.underlying 30=some (.struct (Try.prog.fieldsOf 30)):=oT;have hp:Try.prog.stoodInHeld 30=false:=oT;rw[run_equalIn_struct (P:=Try.prog) w (d+2) 30 _ _ ht hp];clear ht hp;simp only[Program.fieldsOf,Try.underlying30];unfold u0;refine lS (d+1) _ _ _ _ (.int .i64 k) (.int .i64 k') _ _ w oR (kN _ _ Try.underlying3 rfl _ _ _ rfl w) (kN _ _ Try.underlying3 rfl _ _ _ rfl w) (iI _ Try.underlying3 k k' (d+1) w) ?_;refine lS (d+1) _ _ _ _ (.int .i64 c) (.int .i64 c') _ _ w oR (kN _ _ Try.underlying28 rfl _ _ _ rfl w) (kN _ _ Try.underlying28 rfl _ _ _ rfl w) (iI _ Try.underlying28 c c' (d+1) w) ?_;refine lS (d+1) _ _ _ _ (.int .i64 p) (.int .i64 p') _ _ w oR (kN _ _ Try.underlying3 rfl _ _ _ rfl w) (kN _ _ Try.underlying3 rfl _ _ _ rfl w) (iI _ Try.underlying3 p p' (d+1) w) ?_;refine lS (d+1) _ _ _ _ (.int .i64 y) (.int .i64 y') _ _ w oR (kN _ _ Try.underlying3 rfl _ _ _ rfl w) (kN _ _ Try.underlying3 rfl _ _ _ rfl w) (iI _ Try.underlying3 y y' (d+1) w) ?_;exact dT _ _ _ _
def eqR(r q:jO):Bool:=((List.range' 0 4).all fun i=>mY (r.P i) (q.P i))&&((r.hi==q.hi)&&((r.so==q.so)&&(eqP r.pat q.pat&&(decide (r.pt=q.pt)&&(u0 r.k r.c r.p r.y q.k q.c q.p q.y&&true)))))
theorem iO(r q:jO):eqR r q=true↔vU r q:=by
 unfold eqR u0;simp only[zR,zE,beq_iff_eq,z4,dF,Bool.and_true];constructor
 ·rintro⟨h1,h2,h3,h4,h5,h6,h7,h8,h9⟩;exact⟨fun i hi=>(nO _ _).1 (h1 i (qY.2 ⟨zD _,by omega⟩)),h2,h3,h4,h5,h6,h7,h8,h9⟩
 ·rintro⟨h1,h2,h3,h4,h5,h6,h7,h8,h9⟩;exact⟨fun i hi=>(nO _ _).2 (h1 i (by have:=(qY.1 hi).2;omega)),h2,h3,h4,h5,h6,h7,h8,h9⟩
theorem fE(r:jO):eqR r r=true:=(iO r r).2 ⟨fun _ _ _ _=>rfl,rfl,rfl,fun _ _=>rfl,rfl,rfl,rfl,rfl,rfl⟩
theorem fP(r q:jO)(d:Nat)(w:World):(Op.equalIn (d+7) 48 (.agg (jA r)) (.agg (jA q))).run Try.prog w=.ok (eqR r q) w:=by
 have ht:Try.prog.underlying 48=some (.struct (Try.prog.fieldsOf 48)):=oT;have hp:Try.prog.stoodInHeld 48=false:=oT;rw[run_equalIn_struct (P:=Try.prog) w (d+6) 48 _ _ ht hp];clear ht hp;have h0:∀r,(part 46 (jA r) 0).run Try.prog w=.ok (.agg (kP r.P)) w:=fun r=>by
  rw[kR (P:=Try.prog) 46 _ (jA r) 0 512 w rfl Try.underlying46 r7.i,vZ]
 have h1:∀r,(part 4 (jA r) 512).run Try.prog w=.ok (.bool r.hi) w:=fun r=>kN _ _ Try.underlying4 rfl _ _ _ (j6 r oB) w;have h2:∀r,(part 4 (jA r) 513).run Try.prog w=.ok (.bool r.so) w:=fun r=>kN _ _ Try.underlying4 rfl _ _ _ (j6 r oB) w;have h3:∀r,(part 37 (jA r) 514).run Try.prog w=.ok (.agg (pc r.pat)) w:=fun r=>by
  rw[kR (P:=Try.prog) 37 _ (jA r) 514 16 w rfl Try.underlying37 aH.i,dN]
 have h4:∀r,(part 5 (jA r) 530).run Try.prog w=.ok (.int .u8 r.pt) w:=fun r=>kN _ _ Try.underlying5 rfl _ _ _ (j6 r oB) w;have h5:∀r,(part 30 (jA r) 531).run Try.prog w=.ok (.agg (lY r.k r.c r.p r.y)) w:=fun r=>by
  rw[kR (P:=Try.prog) 30 _ (jA r) 531 4 w rfl Try.underlying30 vA.i,rD]
 have e0:(Op.equalIn (d+6) 46 (.agg (kP r.P)) (.agg (kP q.P))).run Try.prog w=.ok ((List.range' 0 4).all fun i=>mY (r.P i) (q.P i)) w:=
  lE (P:=Try.prog) (d+5) 46 45 _ 4 128 (kP r.P) (kP q.P) (fun i=>mY (r.P i) (q.P i)) rfl Try.underlying46 Try.underlying45 xM.i (fun i hi w=>by
   rw[yH _ i hi,yH _ i hi];exact vG _ _ (d+1) w) w
 have e1:∀b c,(Op.equalIn (d+6) 4 (.bool b) (.bool c)).run Try.prog w=.ok (b==c) w:=fun b c=>dD b c (d+5) w;have e3:=wJ r.pat q.pat (d+4) w;have e4:=rO r.pt q.pt (d+5) w;have e5:=fS r.k r.c r.p r.y q.k q.c q.p q.y (d+3) w;have a0:=h0 r;have b0:=h0 q;have a1:=h1 r;have b1:=h1 q;have a2:=h2 r;have b2:=h2 q;have a3:=h3 r;have b3:=h3 q;have a4:=h4 r;have b4:=h4 q;have a5:=h5 r;have b5:=h5 q;clear h0 h1 h2 h3 h4 h5;unfold eqR;generalize jA r=C at*;generalize jA q=D at*;generalize kP r.P=Q at*;generalize kP q.P=S at*;simp only[Program.fieldsOf,Try.underlying48];refine lS (d+5) _ _ _ _ _ _ _ _ w oR a0 b0 e0 ?_;refine lS (d+5) _ _ _ _ _ _ _ _ w oR a1 b1 (e1 _ _) ?_;refine lS (d+5) _ _ _ _ _ _ _ _ w oR a2 b2 (e1 _ _) ?_;refine lS (d+5) _ _ _ _ _ _ _ _ w oR a3 b3 e3 ?_;refine lS (d+5) _ _ _ _ _ _ _ _ w oR a4 b4 e4 ?_;refine lS (d+5) _ _ _ _ _ _ _ _ w oR a5 b5 e5 ?_;exact dT _ _ _ _
theorem iA(k c p y k' c' p' y':Int)(w:World):(binOp .eql 30 (.agg (lY k c p y)) (.agg (lY k' c' p' y'))).run Try.prog w=.ok (.bool (u0 k c p y k' c' p' y')) w:=by
 have h:=fS k c p y k' c' p' y' 9997 w;have e:(10000:Nat)=9997+3:=oR;rw[run_eql_struct,e,h];simp only[Result.andThen_ok]
theorem bS:Try.prog.eqGuardType Try.prog.depth 30=false:=by kernel_rfl
theorem bT{o:Oper}{ρ:Operand→Value}{w:World}(x y:Operand)(z:TypeId)(ho:o.op=.binOp .eql 30 x y z)(k c p u k' c' p' u':Int)(hx:ρ x=.agg (lY k c p u))(hy:ρ y=.agg (lY k' c' p' u')):(execOp ρ o).run Try.prog w=.ok (.value (.bool (u0 k c p u k' c' p' u'))) w:=by
 unfold execOp;simp only[ho,hx,hy];rw[zH,zH,run_eqGuard_agg w .eql 30 x y _ _ bS,Result.andThen_ok,iA,Result.andThen_ok,Sem.run_pure]
theorem fJ(r q:jO)(w:World):(binOp .neq 48 (.agg (jA r)) (.agg (jA q))).run Try.prog w=.ok (.bool (!eqR r q)) w:=by
 have h:=fP r q 9993 w;have e:(10000:Nat)=9993+7:=oR;rw[run_neq_struct,e,h];simp only[Result.andThen_ok]
theorem bR{o:Oper}{ρ:Operand→Value}{w:World}(x y:Operand)(z:TypeId)(ho:o.op=.binOp .neq 48 x y z)(r q:jO)(hx:ρ x=.agg (jA r))(hy:ρ y=.agg (jA q)):(execOp ρ o).run Try.prog w=.ok (.value (.bool (!eqR r q))) w:=by
 unfold execOp;simp only[ho,hx,hy];rw[zH,zH,run_eqGuard_agg w .neq 48 x y _ _ uH,Result.andThen_ok,fJ,Result.andThen_ok,Sem.run_pure]
def kV:List jO→List Value
 |[]=>[]
 |r::l=>(jA r).toList++kV l
theorem cC(r:jO):(jA r).toList.length=535:=by rw[Array.length_toList,jU]
theorem wL:∀l:List jO,(kV l).length=l.length*535
 |[]=>by simp[kV]
 |r::l=>by
  show((jA r).toList++kV l).length=_;rw[zM,cC,wL l,List.length_cons];omega
theorem cY(r:jO):∀l:List jO,kV (l++[r])=kV l++(jA r).toList
 |[]=>by show(jA r).toList++[]=[]++_;rw[z5,List.nil_append]
 |q::l=>by show(jA q).toList++kV (l++[r])=((jA q).toList++kV l)++_;rw[cY r l,zB]
theorem wN:∀(l:List jO) (i:Nat) (h:i<l.length) (j:Nat) (v:Value),(jA l[i]).toList[j]?=some v→(kV l)[i*535+j]?=some v
 |r::l,0,h,j,v,hv=>by
  replace hv:(jA r).toList[j]?=some v:=hv;have hj:=(qA.1 hv).1;show((jA r).toList++kV l)[0*535+j]?=_;rw[Nat.zero_mul,qL,qX hj];exact hv
 |r::l,i+1,h,j,v,hv=>by
  show((jA r).toList++kV l)[(i+1)*535+j]?=_;rw[qZ (by rw[cC];omega),cC,show(i+1)*535+j-535=i*535+j by omega];exact wN l i (by simpa using h) j v hv
theorem tN(r:jO):∀u∈(jA r).toList,u.oneCell'=true:=by
 have h:=lR r;unfold vI at h;rw[qN]at h;exact fun u hu=>h u (Array.mem_toList_iff.1 hu)
structure Rcs(g:Nat)(l:List jO)(w:World):Prop where
 lt:g<w.heap.size
 at_:∀i (h:i<l.length),w.rangeAt g (i*535) (jA l[i]).toList
theorem Rcs.step{g:Nat}{l:List jO}{w w':World}(h:Rcs g l w)(hb:Below w.heap.size w w'):Rcs g l w':=
 ⟨zG h.lt hb.size,fun i hi j v hv=>(hb.cell (p:=⟨g,i*535+j,none⟩) h.lt).trans (h.at_ i hi j v hv)⟩
theorem Rcs.row{g b:Nat}{l:List jO}{w:World}(h:Rcs g l w)(hg:g≠b)(ds:Array Value):Rcs g l (w.setRow b ds):=
 ⟨by simpa [World.setRow]using h.lt,fun i hi j v hv=>(jG (a:=⟨g,i*535+j,none⟩) (jL w b g ds hg)).trans (h.at_ i hi j v hv)⟩
theorem Rcs.of_own{w:World}{base g c:Nat}{l:List jO}(h:w.ownsRow base 48 535 (.slice (some ⟨g,0,none⟩) l.length c) l.length (kV l)):Rcs g l w:=by
 rcases h.2 with⟨e,_⟩|⟨g',cap,cur,e,hg,hb,hc,hm,hs,ht⟩
 ·cases e
 ·injection e with e1 e2 e3
  injection e1 with e1
  injection e1 with e1
  subst e1;refine⟨(qK.1 hb).1,fun i hi j v hv=>?_⟩;have h1:=wN l i hi j v hv;rw[←ht,List.getElem?_take]at h1;rw[qO _ _ _ _ _ _ hb];split at h1
  ·simpa using h1
  ·cases h1
def mD(A:Option Addr)(l:List jO)(w:World):Prop:=l≠[]→∃g,A=some ⟨g,0,none⟩∧Rcs g l w
theorem mD.step{A:Option Addr}{l:List jO}{w w':World}(h:mD A l w)(hb:Below w.heap.size w w'):mD A l w':=fun hne=>by
 obtain⟨g,e,hr⟩:=h hne;exact⟨g,e,hr.step hb⟩
theorem mD.at_{A:Option Addr}{l:List jO}{w:World}(h:mD A l w){i:Nat}(hi:i<l.length):∃g,A=some ⟨g,0,none⟩∧g<w.heap.size∧w.rangeAt g (i*535) (jA l[i]).toList:=by
 obtain⟨g,e,hr⟩:=h (by rintro rfl;simp at hi);exact⟨g,e,hr.lt,hr.at_ i hi⟩
theorem mD.of_own{w:World}{base n c:Nat}{A:Option Addr}{l:List jO}(h:w.ownsRow base 48 535 (.slice A n c) n (kV l))(hn:l.length=n):mD A l w:=fun hne=>by
 subst hn;rcases h.2 with⟨e,_⟩|⟨g,cap,cur,e,_⟩
 ·injection e with e1 e2 _
  exact absurd (List.length_eq_zero_iff.1 e2) hne
 ·injection e with e1 _ _
  subst e1;exact⟨g,rfl,Rcs.of_own h⟩
theorem mD.nil(A:Option Addr)(w:World):mD A [] w:=fun h=>absurd rfl h
theorem iC:(Try.prog.info? 48).map (fun i=>(i.zero,i.size))=some (some (.agg (jA kK)),535):=by
 rw[yF];kernel_rfl
theorem uL:∃i,Try.prog.info? 48=some i∧i.zero=some (.agg (jA kK))∧i.size=535∧i.bytes≤10000:=by
 obtain⟨i,hi,hb⟩:∃i,Try.prog.info? 48=some i∧i.bytes≤10000:=by
  have h:(Try.prog.info? 48).any (fun i=>decide (i.bytes≤10000))=true:=oT;cases hq:Try.prog.info? 48 with
  |none=>rw[hq]at h;cases h
  |some i=>rw[hq]at h;exact⟨i,rfl,by simpa using h⟩
 have h:=iC;rw[hi]at h;simp only[Option.map_some,jN,jW]at h;exact⟨i,hi,h.1,h.2,hb⟩
theorem gQ{w w':World}(h:w.grownBy w' none):Below w.heap.size w w':=⟨h.os,h.tape,h.output,h.size,fun k hk=>h.block k hk oP⟩
theorem mH(w:World)(C:Array Value)(t:TypeId):∀j u,C.toList[j]?=some u→(w.alloc (.cells C t)).cell? ((⟨w.heap.size,0,none⟩:Addr).add j)=some u:=by
 intro j u hj;rw[Addr.add_mid,qL,qO _ _ _ _ _ _ (qP w _)];simpa using hj
theorem set_get(l:List Value):∀(k:Nat) (Z:Array Value) (i:Nat),k+l.length≤Z.size→((l.zipIdx k).foldl (fun(cs:Array Value) (p:Value×Nat)=>cs.setIfInBounds (0+p.2) p.1) Z)[i]?=if k≤i∧i<k+l.length then l[i-k]? else Z[i]?:=by
 induction l with
 |nil=>intro k Z i h;rw[zY oP];rfl
 |cons v l ih=>
  intro k Z i h
  rw[List.length_cons]at h
  rw[List.zipIdx_cons,List.foldl_cons,ih (k+1) _ i oA,List.length_cons]
  by_cases h1:k+1≤i∧i<k+1+l.length
  ·rw[zL h1,zL oB,show i-k=(i-(k+1))+1 by omega,zK]
  ·rw[zY h1]
   by_cases h2:i=k
   ·subst h2
    rw[zL oB,Nat.sub_self,qL,Array.getElem?_setIfInBounds_self_of_lt oB]
    rfl
   ·rw[zY oB,qL,Array.getElem?_setIfInBounds_ne (Ne.symm h2)]
theorem fF(C Z:Array Value)(n:Nat)(hc:C.size=n)(hz:Z.size=n):Instr.fill (fun i=>some (i*n,n)) Z [(0,.agg C)]=some C:=by
 have h1:¬(((Value.agg C).cells.size≠n||0*n+(Value.agg C).cells.size>Z.size)=true):=by
  show¬((C.size≠n||0*n+C.size>Z.size)=true);simp[hc,hz]
 unfold Instr.fill;simp only;rw[zY h1];unfold Instr.fill;congr 1
 show C.zipIdx.foldl (fun(cs:Array Value) (p:Value×Nat)=>cs.setIfInBounds (0*n+p.2) p.1) Z=C
 rw[Nat.zero_mul,←Array.foldl_toList,Array.toList_zipIdx];apply qM
 intro i
 rw[set_get _ _ _ _ (by rw[Array.length_toList];omega)];by_cases h:i<n
 ·rw[zL (by rw[Array.length_toList];omega),Nat.sub_zero];simp
 ·rw[zY (by rw[Array.length_toList];omega),zO oB,zO oB]
theorem uC{P:Program}{ts t:TypeId}{C z:Array Value}{n:Nat}(hu:P.underlying ts=some (.slice t))(A:lI P t n)(Z:mW P t z)(hz:z.size=n)(hc:C.size=n)(h0:0<n)(hn:n≤10000)(w:World):(Instr.buildSlice ts 1 #[(0,.agg C)]).run P w=.ok (.slice (some ⟨w.heap.size,0,none⟩) 1 1) (w.alloc (.cells C t)):=by
 have hu':(underlying ts).run P w=.ok (.slice t) w:=z7 hu w;have hs:(sizeOf t).run P w=.ok n w:=by
  have hi:=A.i;cases hq:P.info? t with
  |none=>simp[hq]at hi
  |some i=>
   have hs:i.size=n:=oI
   simp[sizeOf,typeInfo,hq,hs]
 have hzz:(zeroValue t).run P w=.ok (.agg z) w:=wK Z;unfold Instr.buildSlice;rw[zH,hu',Result.andThen_ok];simp only[zH,hs,Result.andThen_ok,Sem.run_pure];have g1:¬(1*n>2^24):=by
  have:(2:Nat)^24=16777216:=by decide
  omega
 have g2:¬(1*n=0):=oB;simp only[g1,g2,if_false,zH,Sem.run_pure,Result.andThen_ok,hzz,Value.cells];rw[fF C _ n hc oP];simp only[newRow,newObj,zH,Sem.run_pure,Result.andThen_ok];rfl
theorem kC{P:Program}{ops:Array Oper}{Q:Exit→Act→World→Prop}{rest:List Oper}{op:Oper}{a:Act}{w:World}{ts t:TypeId}{C z:Array Value}{n:Nat}(hu:P.underlying ts=some (.slice t))(A:lI P t n)(Z:mW P t z)(hz:z.size=n)(hc:C.size=n)(h0:0<n)(hn:n≤10000)(hgd:op.guard=none)(x:Operand)(ho:op.op=.buildSlice ts 1 #[(0,x)])(hx:a.eval x=.agg C)
  (h:wpList P ops Q rest (a.put op.dst (.slice (some ⟨w.heap.size,0,none⟩) 1 1)) (w.alloc (.cells C t))):wpList P ops Q (op::rest) a w:=
 zI hgd fun K hK=>by
  have e:(#[(0,x)]:Array (Nat×Operand)).map (fun(i,x)=>(i,a.eval x))=#[(0,.agg C)]:=by simp[hx]
  unfold Oper.wp execOp;simp only[ho,e,zH,uC hu A Z hz hc h0 hn,Result.andThen_ok,Sem.run_pure];exact hK _ _ h
theorem yY(w:World)(ty:TypeId)(base:Nat)(v:Value)(n:Nat)(l m:List jO)(hown:w.ownsRow base 48 535 v n (kV l))(ad:Addr)(k c:Nat)(hk:m.length=k)(hc:∀j u,(kV m)[j]?=some u→w.cell? (ad.add j)=some u)
  (h63:n+k≤1100000) (hbase:base≤w.heap.size):
  ∃v' w',(Builtin.append_ #[24,24] ty #[v,.slice (some ad) k c]).run Try.prog w=.ok v' w'∧w'.ownsRow base 48 535 v' (n+k) (kV (l++m))∧w.grownBy w' v.ownBlock∧(v'.ownBlock=v.ownBlock∨v'.ownBlock=some w.heap.size):=by
 obtain⟨i,hi,hz,hs,hb⟩:=uL;have h1:∀u∈kV m,u.oneCell'=true:=by
  clear hc hk;induction m with
  |nil=>intro u hu;cases hu
  |cons r m ih=>
   intro u hu
   rcases List.mem_append.1 hu with hu|hu
   ·exact tN r u hu
   ·exact ih u hu
 obtain⟨v',w',hr,h2,h3,_,h5⟩:=run_append_own_at (P:=Try.prog) w base 24 ty 48 i (.agg (jA kK)) 535 i.bytes Try.underlying24 hi hz hs rfl (jU _) oR v n _ hown ad k c (kV m) (by rw[wL,hk]) hc h1 oE (zT (Nat.mul_le_mul h63 hb) oR) hbase;have e:∀l:List jO,kV l++kV m=kV (l++m):=by
  intro l;induction l with
  |nil=>rfl
  |cons r l ih=>
   show((jA r).toList++kV l)++kV m=(jA r).toList++kV (l++m)
   rw[zB,ih]
 rw[e]at h2;exact⟨v',w',hr,h2,h3,h5⟩
theorem wY(r:jO):kV [r]=(jA r).toList:=by show(jA r).toList++[]=_;rw[z5]
theorem m9{w:World}{ops:Array Oper}{rest:List Oper}{o:Oper}{a:Act}{Q:Exit→Act→World→Prop}(hgd:o.guard=none)(s x:Operand)
  (ho:o.op=.call {callee:=.builtin .append,args:=#[s,x],argTypes:=#[24,24]}) (base:Nat) (v:Value) (n:Nat) (l m:List jO) (hs:a.eval s=v) (hown:w.ownsRow base 48 535 v n (kV l)) (ad:Addr) (k c:Nat) (hx:a.eval x=.slice (some ad) k c) (hk:m.length=k) (hc:∀j u,(kV m)[j]?=some u→w.cell? (ad.add j)=some u)
  (h63:n+k≤1100000) (hbase:base≤w.heap.size)
  (h:∀A' c' w',w'.ownsRow base 48 535 (.slice A' (n+k) c') (n+k) (kV (l++m))→w.grownBy w' v.ownBlock→((Value.slice A' (n+k) c').ownBlock=v.ownBlock∨(Value.slice A' (n+k) c').ownBlock=some w.heap.size)→wpList Try.prog ops Q rest (a.put o.dst (.slice A' (n+k) c')) w'):wpList Try.prog ops Q (o::rest) a w:=by
 refine zI hgd fun K hK=>?_;obtain⟨v',w',hrun,h2,h3,h4⟩:=yY w o.type base v n l m hown ad k c hk hc h63 hbase;obtain⟨A',c',hv⟩:∃A' c',v'=.slice A' (n+k) c':=by
  exact ZX
 subst hv;unfold Oper.wp execOp;simp only[ho,resolve,invoke,builtin,zH,Sem.run_pure,Result.andThen_ok,List.map_toArray,List.map_cons,List.map_nil,hs,hx,hrun];exact hK _ _ (h A' c' w' h2 h3 h4)
def t9(l m:List jO)(i:Nat):Prop:=∃(h:i<l.length) (k:i<m.length),eqR l[i] m[i]=true
def bO(l m:List jO)(d:Int):Prop:=(∃k:Nat,d=k∧(k<l.length∨k<m.length)∧¬t9 l m k∧∀i,i<k→t9 l m i)∨(d= -1∧l.length=m.length∧∀i,i<l.length→t9 l m i)
section
variable {ops:Array Oper} {C:World→Prop}
theorem tR{Q:Act→Prop}{o:Oper}{rest:List Oper}{a:Act}(r q:jO)(hw:Region.wanted o (yielded ops a.tmps)=true)(x y:Operand)(z:TypeId)(ho:o.op=.binOp .neq 48 x y z)(hx:a.eval x=.agg (jA r))(hy:a.eval y=.agg (jA q))
  (h:wpQuiet Try.prog ops C Q rest (a.put o.dst (.bool (!eqR r q)))):wpQuiet Try.prog ops C Q (o::rest) a:=
 m5 hw _ (fun w' _=>bR x y z ho r q hx hy) h
end
theorem uR(l m:List jO)(A D:Option Addr)(n c k d:Nat)(hn:l.length=n)(hk:m.length=k)(n1:n≤1000000)(k1:k≤1000000)(w:World)(HA:mD A l w)(HD:mD D m w):
  Calls Try.prog 17 #[.slice A n c,.slice D k d] w fun e w'=>∃x,e=.returned (.int .i64 x)∧bO l m x∧Below w.heap.size w w':=by
 have HH:=zW (zC HA HD);have NN:=zW (zC hn hk);clear HA HD hn hk;obtain⟨z,hz⟩:∃z,max n k=z:=⟨_,rfl⟩;have ZZ:=zW (show(n≤z∧k≤z)∧(z=n∨z=k)from by omega);have mz:max (n:Int) (k:Int)=(z:Int):=oB;go_enter Try.func17,Try.ntmps17;go_wp2_with fail;go_loopw [11] (fun v wr=>∃i:Nat,i≤z∧v=.int .i64 (i:Int)∧(∀j,j<i→t9 l m j)∧Below w.heap.size w wr) (fun v _=>z-(intOf v).toNat)
 case atStart=>exact⟨0,zD _,rfl,fun j h=>absurd h (Nat.not_lt_zero j),zA _ _⟩
 case round=>
  obtain⟨i,hi,rfl,he,hb⟩:=hrel
  have EA:=zW he
  have BB:=zW hb
  clear he hb
  by_cases hlt:i<z
  ·have JX:=zW hlt
   have iz:(i:Int)<(z:Int):=oB
   have i9:(i:Int)≤1000000:=by have:=ZZ.out;omega
   by_cases h1:i<n
   ·have g1:¬(n:Int)≤(i:Int):=oB
    by_cases h2:i<k
    ·have g2:¬(k:Int)≤(i:Int):=oB
     have hl:i<l.length:=by rw[NN.out.1];exact h1
     have hm:i<m.length:=by rw[NN.out.2];exact h2
     obtain⟨ga,ea,la,ra⟩:=(HH.out.1.step BB.out).at_ hl
     obtain⟨gd,ed,ld,rd⟩:=(HH.out.2.step BB.out).at_ hm
     have RA:=zW (zC la ra)
     have RB:=zW (zC ld rd)
     clear la ra ld rd
     subst ea ed
     obtain⟨b,hb⟩:∃b,eqR l[i] m[i]=b:=⟨_,rfl⟩
     have EQ:=zW (show t9 l m i↔b=true from⟨fun⟨_,_,h⟩=>by rw[←hb];exact h,fun h=>⟨hl,hm,by rw[hb];exact h⟩⟩)
     have HB:=zW hb
     clear hb
     generalize l[i]=ra at RA HB
     generalize m[i]=rb at RB HB
     have QA:=zW (fun w' (h:∃x:mK wr,w'=x.w)=>show w'.rangeAt ga (i*535) (jA ra).toList from by obtain⟨x,rfl⟩:=h;exact fun j v hv=>(x.below.cell (p:=⟨ga,i*535+j,none⟩) RA.out.1).trans (RA.out.2 j v hv))
     have QB:=zW (fun w' (h:∃x:mK wr,w'=x.w)=>show w'.rangeAt gd (i*535) (jA rb).toList from by obtain⟨x,rfl⟩:=h;exact fun j v hv=>(x.below.cell (p:=⟨gd,i*535+j,none⟩) RB.out.1).trans (RB.out.2 j v hv))
     go_upto_region 4 with fail
     refine mT oT oT ?_
     repeat(first
      |(refine nT (o:=i*535) j8 QA.out (jU ra) ?_ (.tmp 27) ?_ ?_ ?_;(focus rfl);(focus rfl);(focus(simp[Act.eval];done));simp only[Act.put,zQ,zZ,zJ])
      |(refine nT (o:=i*535) j8 QB.out (jU rb) ?_ (.tmp 31) ?_ ?_ ?_;(focus rfl);(focus rfl);(focus(simp[Act.eval];done));simp only[Act.put,zQ,zZ,zJ])
      |(refine tR ra rb ?_ (.tmp 28) (.tmp 32) 48 ?_ ?_ ?_ ?_;(focus rfl);(focus rfl);(focus(simp[Act.eval];done));(focus(simp[Act.eval];done));rw[HB.out];simp only[Act.put,zQ,zZ,zJ])
      |go_big_quiet_step (fail))
     refine zF ?_
     intro _ hw'
     obtain⟨x,rfl⟩:=hw'
     have BB:=zW (BB.out.trans (x.below.mono BB.out.size))
     generalize x.w=wz at BB⊢
     clear QA QB RA RB
     cases b
     ·have NE:=zW (show¬t9 l m i from fun h=>by have:=EQ.out.1 h;cases this)
      go_wp2_with fail
      go_ret
      exact⟨_,rfl,.inl ⟨i,rfl,.inl hl,NE.out,EA.out⟩,BB.out⟩
     ·have EI:=zW (EQ.out.2 rfl)
      go_wp2_with fail
      go_roundw
      case rel=>exact⟨i+1,JX.out,by go_num,fun j hj=>by
       by_cases e:j=i
       ·rw[e];exact EI.out
       ·exact EA.out j oB,BB.out⟩
      case measure=>have:=JX.out;simp[intOf];omega
    ·have g2:(k:Int)≤(i:Int):=oB
     have NE:=zW (show¬t9 l m i from fun⟨_,h,_⟩=>by rw[NN.out.2]at h;omega)
     have LL:=zW (show i<l.length from by rw[NN.out.1];exact h1)
     go_upto_region 4 with fail
     refine mT oT oT ?_
     repeat(go_big_quiet_step (fail))
     refine zF ?_
     intro _ hw'
     obtain⟨x,rfl⟩:=hw'
     have BB:=zW (BB.out.trans (x.below.mono BB.out.size))
     generalize x.w=wz at BB⊢
     go_wp2_with fail
     go_ret
     exact⟨_,rfl,.inl ⟨i,rfl,.inl LL.out,NE.out,EA.out⟩,BB.out⟩
   ·have g1:(n:Int)≤(i:Int):=oB
    have NE:=zW (show¬t9 l m i from fun⟨h,_,_⟩=>by rw[NN.out.1]at h;omega)
    have LL:=zW (show i<m.length from by rw[NN.out.2];have:=ZZ.out;omega)
    go_upto_region 4 with fail
    refine mT oT oT ?_
    repeat(go_big_quiet_step (fail))
    refine zF ?_
    intro _ hw'
    obtain⟨x,rfl⟩:=hw'
    have BB:=zW (BB.out.trans (x.below.mono BB.out.size))
    generalize x.w=wz at BB⊢
    go_wp2_with fail
    go_ret
    exact⟨_,rfl,.inl ⟨i,rfl,(.inr LL.out),NE.out,EA.out⟩,BB.out⟩
  ·obtain rfl:i=z:=by omega
   have iz:¬(i:Int)<(i:Int):=oB
   go_wp2_with fail
   go_ret
   refine⟨_,rfl,.inr ⟨rfl,?_⟩,BB.out⟩
   have hln:l.length=m.length:=by
    refine Nat.le_antisymm (Nat.le_of_not_lt fun c=>?_) (Nat.le_of_not_lt fun c=>?_)
    ·have hz:m.length<i:=by have:=ZZ.out;have:=NN.out;omega
     obtain⟨_,h,_⟩:=EA.out m.length hz;omega
    ·have hz:l.length<i:=by have:=ZZ.out;have:=NN.out;omega
     obtain⟨h,_,_⟩:=EA.out l.length hz;omega
   exact⟨hln,fun j hj=>EA.out j (by have:=ZZ.out;have:=NN.out;omega)⟩
end
end Go.Proofs.Ytilideoeaecoaaa
