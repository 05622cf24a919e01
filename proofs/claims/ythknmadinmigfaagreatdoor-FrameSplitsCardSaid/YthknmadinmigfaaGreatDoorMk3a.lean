/- DecRef6, CpuSmall, CpuBuild, CpuRun, CpuM1, CpuM4. -/
import Derived.Test.YthknmadinmigfaaGreatDoorMDecRef3
import Derived.Test.YthknmadinmigfaaGreatDoorMDecRef4
import Derived.Test.YthknmadinmigfaaGreatDoorMDecRef5
set_option maxRecDepth 400000
set_option maxHeartbeats 64000000
set_option linter.unusedVariables false
set_option linter.unusedSimpArgs false
namespace Go.Proofs.YthknmadinmigfaaGreatDoor
section
open Go.RowKit Num Dec

end
section
open Go.RowKit Num Dec Cpu

theorem RC.own{base:Nat}{lg:Lg}{b m g:Nat}{v:Value}{a a':AS}{w w':World}(h:RC base lg b m g v a w)(hb:Blk b 70 (stC a' m g) w')(hs:w.heap.size≤w'.heap.size)(hk:∀k,k≠b→w'.heap[k]?=w.heap[k]?)(eM:a'.M=a.M)(eL:a'.L=a.L)(eR:a'.rd=a.rd)(hres:∀i,i<4→xB (a'.F i) (wid a'.hi) (hei a'.hi)):RC base lg b m g v a' w':=by
 obtain⟨n1,n2,n3,n4,n5,n6⟩:=h.ne;have rowk:∀{bs n size:Nat} {e:TypeId} {u:Value} {xs:List Value},w.ownsRow bs e size u n xs→u.ownBlock≠some b→w'.ownsRow bs e size u n xs:=fun o hn=>by
  exact zNE
 refine⟨hb,?_,?_,?_,hres,h.bb,h.bm⟩
 ·rw[eM];exact(hk m (fun e=>n1 e.symm)).trans h.mem
 ·rw[eM];obtain⟨n,xs,o,r⟩:=h.log;exact⟨n,xs,rowk o n4,r⟩
 ·rw[eL,eR];obtain⟨A,c,hg,o⟩:=h.rnd.held;exact⟨h.rnd.low,A,c,(hk g (fun e=>n2 e.symm)).trans hg,rowk o fun e=>h.row_off o ⟨by decide,by decide,by decide,by decide⟩ _ e (.inl rfl)⟩
theorem RC.put{base:Nat}{lg:Lg}{b m g:Nat}{v:Value}{a a':AS}{w:World}(h:RC base lg b m g v a w)(k:Nat)(x:Value)(e:(stC a m g).setIfInBounds k x=stC a' m g)(eM:a'.M=a.M)(eL:a'.L=a.L)(eR:a'.rd=a.rd)(hres:∀i,i<4→xB (a'.F i) (wid a'.hi) (hei a'.hi)):RC base lg b m g v a' (w.setCell ⟨b,k,none⟩ x):=
 h.own ((h.st.put k x).eq e) (by simp[World.setCell]) (fun j hj=>qL _ _ _ _ hj) eM eL eR hres
theorem RC.row{base:Nat}{lg:Lg}{b m g:Nat}{v:Value}{a a':AS}{w:World}{cs:Array Value}(h:RC base lg b m g v a w)(e:cs=stC a' m g)(eM:a'.M=a.M)(eL:a'.L=a.L)(eR:a'.rd=a.rd)(hres:∀i,i<4→xB (a'.F i) (wid a'.hi) (hei a'.hi)):RC base lg b m g v a' (w.setRow b cs):=
 h.own (by rw[e];exact h.st.store _) (by simp[World.setRow]) (fun j hj=>zO _ _ _ _ hj) eM eL eR hres
theorem RC.away{base:Nat}{lg:Lg}{b m g:Nat}{v:Value}{a:AS}{w w':World}{q:Nat}{T:TypeId}{cs:Array Value}(h:RC base lg b m g v a w)(hq:Blk q T cs w)(hT:T≠70∧T≠150∧T≠186∧T≠144∧T≠5)(hs:w.heap.size≤w'.heap.size)(hk:∀k,k≠q→w'.heap[k]?=w.heap[k]?):RC base lg b m g v a w':=by
 have no:∀k,n7 b m g v k→k≠q:=fun k hk e=>by
  obtain⟨cs',T',fr,hh,hT'⟩:=h.tag k hk;have hq:w.heap[q]?=some (.cells cs T (0,0)):=hq;rw[e,hq]at hh;injection hh with hh
  injection hh with _ e3
  subst e3;rcases hT' with e4|e4|e4|e4
  ·exact hT.1 e4
  ·exact hT.2.1 e4
  ·exact hT.2.2.1 e4
  ·exact hT.2.2.2.1 e4
 have rowk:∀{bs n size:Nat} {e:TypeId} {u:Value} {xs:List Value},w.ownsRow bs e size u n xs→u.ownBlock≠some q→w'.ownsRow bs e size u n xs:=fun o hn=>by
  exact zNE
 refine⟨(hk b (no b (.inl rfl))).trans h.st,(hk m (no m (.inr (.inl rfl)))).trans h.mem,?_,?_,h.res,h.bb,h.bm⟩
 ·obtain⟨n,xs,o,r⟩:=h.log;exact⟨n,xs,rowk o fun e=>no q (.inr (.inr (.inr e))) rfl,r⟩
 ·obtain⟨A,c,hg,o⟩:=h.rnd.held;exact⟨h.rnd.low,A,c,(hk g (no g (.inr (.inr (.inl rfl))))).trans hg,rowk o (rQ o hq fun e=>hT.2.2.2.2 e.symm)⟩
theorem YB(v:Bool)(M:Nat):kE (lB v (M:Int))=kE ⟨fun i=>fwd ((fun _ _=>false:Nat→Nat→Bool) i),v,(M:Int)⟩:=tJ (fun i hi y hy=>gZ fun x hx=>by rw[yR _ _ _ hx];exact wI _) rfl rfl
theorem SE(hi:Bool):∀i,i<4→xB ((fun _ _=>false:Nat→Nat→Bool) i) (wid hi) (hei hi):=fun i _=>gN _ _
theorem zLN(ks:List Ev)(j:Nat)(hj:j<16):aft up ks j=dnA ks j:=by
 unfold dnA dn;rw[Int.toNat_natCast];simp;omega
theorem bF:nI Tryz.prog 63 2:=⟨⟨_,Tryz.underlying63,rfl⟩,by kernel_rfl⟩
section
variable {b m g g0:Nat} {v:Value} {a a':AS} {u:US} {w0 w w':World}
end
def rnc(b:Nat)(i:Ins)(q:Pr)(pc:Int)(f:Ef):Array Value:=#[.pointer (some ⟨b,0,none⟩),.int .i64 i.op,.int .i64 i.x,.int .i64 i.y,.int .i64 i.n,.int .i64 i.nn,.int .i64 i.addr,.int .i64 i.len,.int .i64 q.lv,.bool q.sh,.bool q.ki,.bool q.jx,.bool q.lr,.bool q.cl,.bool q.dw,.bool q.fa,.int .i64 pc,.int .i64 f.c,.bool f.halt,.bool f.wait,.bool f.drew]
theorem gD:nI Tryz.prog 89 7:=⟨⟨_,Tryz.underlying89,rfl⟩,by kernel_rfl⟩
theorem zJF:nI Tryz.prog 24 8:=⟨⟨_,Tryz.underlying24,rfl⟩,by kernel_rfl⟩
theorem pJ:nI Tryz.prog 108 4:=⟨⟨_,Tryz.underlying108,rfl⟩,by kernel_rfl⟩
theorem zJD:nI Tryz.prog 45 16:=⟨⟨_,Tryz.underlying45,rfl⟩,by kernel_rfl⟩
theorem xS:nI Tryz.prog 48 17:=⟨⟨_,Tryz.underlying48,rfl⟩,by kernel_rfl⟩
theorem vP:nI Tryz.prog 58 514:=⟨⟨_,Tryz.underlying58,rfl⟩,by kernel_rfl⟩
theorem zYD:nI Tryz.prog 61 16:=⟨⟨_,Tryz.underlying61,rfl⟩,by kernel_rfl⟩
theorem eO:nI Tryz.prog 65 17:=⟨⟨_,Tryz.underlying65,rfl⟩,by kernel_rfl⟩
theorem T5:nI Tryz.prog 67 16:=⟨⟨_,Tryz.underlying67,rfl⟩,by kernel_rfl⟩
theorem CN(b:Nat)(i:Ins)(q:Pr)(pc:Int):Tryz.prog.built 176 [(0,.pointer (some ⟨b,0,none⟩)),(1,.agg (lX i)),(2,.agg (prc q)),(3,.int .i64 pc)]=some (rnc b i q pc ⟨0,false,false,false⟩):=by kernel_rfl
section
variable {base:Nat} {lg:Lg} {b m g rb:Nat} {v v':Value} {a a':AS} {i:Ins} {q:Pr} {pc pc':Int} {f f':Ef} {w w' w1 w2:World}
theorem OJ:(rnc b i q pc f).extract 1 (1+7)=lX i:=rfl
theorem rnc_q:(rnc b i q pc f).extract 8 (8+8)=prc q:=rfl
theorem rnc_ef:(rnc b i q pc f).extract 17 (17+4)=efc f:=rfl
structure XR(base:Nat)(lg:Lg)(b m g rb:Nat)(v:Value)(a:AS)(i:Ins)(q:Pr)(pc:Int)(f:Ef)(w:World):Prop where
 rc:RC base lg b m g v a w
 r:Blk rb 176 (rnc b i q pc f) w
def Kp(b m g:Nat)(v:Value)(rb k:Nat):Prop:=n7 b m g v k∨k=rb
theorem XR.step(X:XR base lg b m g rb v a i q pc f w)(hb:Below w.heap.size w w'):XR base lg b m g rb v a i q pc f w':=⟨X.rc.step hb,X.r.step hb⟩
theorem XR.off(X:XR base lg b m g rb v a i q pc f w):¬n7 b m g v rb:=fun c=>by
 obtain⟨cs',T',fr,hh,hT'⟩:=X.rc.tag rb c;have hq:w.heap[rb]?=some (.cells (rnc b i q pc f) 176 (0,0)):=X.r;rw[hq]at hh;exact zNB
theorem XR.ne(X:XR base lg b m g rb v a i q pc f w):rb≠b:=fun e=>X.off (.inl e)
theorem XR.rk(X:XR base lg b m g rb v a i q pc f w)(k:Nat)(z:Value)(h:(rnc b i q pc f)[k]?=some z):∀u:lH w,u.w.cell? ⟨rb,k,none⟩=some z:=lH.cell ((X.r.cell k).trans h) X.r.lt
theorem XR.sk(X:XR base lg b m g rb v a i q pc f w)(k:Nat)(z:Value)(h:(stC a m g)[k]?=some z):∀u:lH w,u.w.cell? ⟨b,k,none⟩=some z:=lH.cell ((X.rc.st.cell k).trans h) X.rc.st.lt
theorem XR.vk(X:XR base lg b m g rb v a i q pc f w){k:Nat}(h:k<16):∀u:lH w,u.w.cell? ⟨b,k,none⟩=some (.int .u8 (a.v k:Int)):=X.sk k _ (by rw[mK _ _ _ zLS,tB _ _ _ h])
theorem XR.vc(X:XR base lg b m g rb v a i q pc f w){k:Nat}(h:k<16):w.cell? ⟨b,k,none⟩=some (.int .u8 (a.v k:Int)):=(X.rc.st.cell k).trans (by rw[mK _ _ _ zLS,tB _ _ _ h])
theorem XR.put(X:XR base lg b m g rb v a i q pc f w)(k:Nat)(x:Value)(e:(stC a m g).setIfInBounds k x=stC a' m g)(eM:a'.M=a.M)(eL:a'.L=a.L)(eR:a'.rd=a.rd)(hres:∀i,i<4→xB (a'.F i) (wid a'.hi) (hei a'.hi)):XR base lg b m g rb v a' i q pc f (w.setCell ⟨b,k,none⟩ x):=
 ⟨X.rc.put k x e eM eL eR hres,X.r.other X.ne _ _⟩
theorem XR.row(X:XR base lg b m g rb v a i q pc f w){cs:Array Value}(e:cs=stC a' m g)(eM:a'.M=a.M)(eL:a'.L=a.L)(eR:a'.rd=a.rd)(hres:∀i,i<4→xB (a'.F i) (wid a'.hi) (hei a'.hi)):XR base lg b m g rb v a' i q pc f (w.setRow b cs):=
 ⟨X.rc.row e eM eL eR hres,X.r.otherRow X.ne _⟩
theorem XR.rput(X:XR base lg b m g rb v a i q pc f w)(k:Nat)(x:Value)(e:(rnc b i q pc f).setIfInBounds k x=rnc b i q pc' f'):XR base lg b m g rb v a i q pc' f' (w.setCell ⟨rb,k,none⟩ x):=
 ⟨X.rc.away X.r ⟨by decide,by decide,by decide,by decide,by decide⟩ (by simp[World.setCell]) (fun j hj=>qL _ _ _ _ hj),(X.r.put k x).eq e⟩
theorem XR.away(X:XR base lg b m g rb v a i q pc f w){p:Nat}{T:TypeId}{cs:Array Value}(hp:Blk p T cs w)(hT:T≠70∧T≠150∧T≠186∧T≠144∧T≠5)(hr:T≠176)(hs:w.heap.size≤w'.heap.size)(hk:∀k,k≠p→w'.heap[k]?=w.heap[k]?):XR base lg b m g rb v a i q pc f w':=
 ⟨X.rc.away hp hT hs hk,(hk rb (fun e=>by
  have h1:w.heap[rb]?=some (.cells _ 176 (0,0)):=X.r;have h2:w.heap[p]?=some (.cells _ T (0,0)):=hp;rw[e,h2]at h1;injection h1 with h1
  injection h1 with _ h1
  exact hr h1)).trans X.r⟩
theorem yK{O:Nat→Prop}{p k:Nat}{x:Value}(h:O p):lN O w (w.setCell ⟨p,k,none⟩ x):=⟨rfl,rfl,rfl,by simp[World.setCell],fun j _ hn=>qL _ _ _ _ (fun e=>hn (e▸h))⟩
theorem cD{O:Nat→Prop}{p:Nat}{cs:Array Value}(h:O p):lN O w (w.setRow p cs):=⟨rfl,rfl,rfl,by simp[World.setRow],fun j _ hn=>zO _ _ _ _ (fun e=>hn (e▸h))⟩
structure DD(base:Nat)(lg:Lg)(b m g rb:Nat)(v v':Value)(i:Ins)(q:Pr)(w:World)(a':AS)(pc':Int)(f':Ef)(w':World):Prop where
 x:XR base lg b m g rb v' a' i q pc' f' w'
 k:lN (Kp b m g v rb) w w'
 o:v'.ownBlock=v.ownBlock∨∃k,v'.ownBlock=some k∧w.heap.size≤k
theorem DD.refl(X:XR base lg b m g rb v a i q pc f w):DD base lg b m g rb v v i q w a pc f w:=⟨X,lN.refl,.inl rfl⟩
theorem DD.grew(D:DD base lg b m g rb v v' i q w a pc f w1):nS (Kp b m g v rb) (Kp b m g v' rb) w.heap.size:=fun k hk=>by
 rcases hk with(h|h|h|h)|h
 ·exact .inl (.inl (.inl h))
 ·exact .inl (.inl (.inr (.inl h)))
 ·exact .inl (.inl (.inr (.inr (.inl h))))
 ·rcases D.o with e|⟨j,e,hj⟩
  ·exact .inl (.inl (.inr (.inr (.inr (e▸h)))))
  ·rw[e]at h;cases h
   exact .inr hj
 ·exact .inl (.inr h)
theorem DD.to(D:DD base lg b m g rb v v' i q w a pc f w1)(X:XR base lg b m g rb v' a' i q pc' f' w2)(k:lN (Kp b m g v' rb) w1 w2):DD base lg b m g rb v v' i q w a' pc' f' w2:=⟨X,D.k.trans k D.grew,D.o⟩
theorem DD.step(D:DD base lg b m g rb v v' i q w a pc f w1)(hb:Below w1.heap.size w1 w2):DD base lg b m g rb v v' i q w a pc f w2:=D.to (D.x.step hb) (lN.of_below hb)
theorem DD.put(D:DD base lg b m g rb v v' i q w a pc f w1)(k:Nat)(x:Value)(e:(stC a m g).setIfInBounds k x=stC a' m g)(eM:a'.M=a.M)(eL:a'.L=a.L)(eR:a'.rd=a.rd)(hres:∀i,i<4→xB (a'.F i) (wid a'.hi) (hei a'.hi)):DD base lg b m g rb v v' i q w a' pc f (w1.setCell ⟨b,k,none⟩ x):=
 D.to (D.x.put k x e eM eL eR hres) (yK (.inl (.inl rfl)))
theorem DD.row(D:DD base lg b m g rb v v' i q w a pc f w1){cs:Array Value}(e:cs=stC a' m g)(eM:a'.M=a.M)(eL:a'.L=a.L)(eR:a'.rd=a.rd)(hres:∀i,i<4→xB (a'.F i) (wid a'.hi) (hei a'.hi)):DD base lg b m g rb v v' i q w a' pc f (w1.setRow b cs):=
 D.to (D.x.row e eM eL eR hres) (cD (.inl (.inl rfl)))
theorem DD.rput(D:DD base lg b m g rb v v' i q w a pc f w1)(k:Nat)(x:Value)(e:(rnc b i q pc f).setIfInBounds k x=rnc b i q pc' f'):DD base lg b m g rb v v' i q w a pc' f' (w1.setCell ⟨rb,k,none⟩ x):=
 D.to (D.x.rput k x e) (yK (.inr rfl))
theorem DD.then{lg2:Lg}{v2:Value}{a2:AS}{pc2:Int}{f2:Ef}(D:DD base lg b m g rb v v' i q w a pc f w1)(E:DD base lg2 b m g rb v' v2 i q w1 a2 pc2 f2 w2):DD base lg2 b m g rb v v2 i q w a2 pc2 f2 w2:=
 ⟨E.x,D.k.trans E.k D.grew,by
  rcases E.o with e|⟨k,e,hk⟩
  ·rw[e];exact D.o
  ·exact .inr ⟨k,e,zR D.k.size hk⟩⟩
theorem RC.more{lg2:Lg}(h:RC base lg b m g v a w)(hl:lg≤lg2):RC base lg2 b m g v a w:=⟨h.st,h.mem,let⟨n,xs,o,hn,h0,hi,hz⟩:=h.log;⟨n,xs,o,zR hn hl.1,h0,hi,hl.2▸hz⟩,h.rnd,h.res,h.bb,h.bm⟩
theorem XR.more{lg2:Lg}(X:XR base lg b m g rb v a i q pc f w)(hl:lg≤lg2):XR base lg2 b m g rb v a i q pc f w:=⟨X.rc.more hl,X.r⟩
theorem DD.more{lg2:Lg}(D:DD base lg b m g rb v v' i q w a pc f w1)(hl:lg≤lg2):DD base lg2 b m g rb v v' i q w a pc f w1:=⟨D.x.more hl,D.k,D.o⟩
end
def Did(base:Nat)(lg:Lg)(b m g rb:Nat)(v:Value)(i:Ins)(q:Pr)(w:World)(a':AS)(pc':Int)(f':Ef)(e:Ending)(w':World):Prop:=e=.returned (.tuple #[])∧∃v',DD base lg b m g rb v v' i q w a' pc' f' w'
def pan(c:Int):List PanicEntry:=[{v:=.iface 172 (.agg #[.int .i64 c]),recovered:=false}]
def pK(c:Int)(w:World)(e:Ending)(w':World):Prop:=e=.panicked (pan c)∧Below w.heap.size w w'
theorem uM{P:Program}{Q:Exit→Act→World→Prop}{a:Act}{w:World}{o:Oper}{g:Nat}{caps args:Array Value}{K:Act→World→Prop}(x:Operand)(xs:Array Operand)(ts:Array TypeId)(ho:o.op=.call {callee:=.value x,args:=xs,argTypes:=ts})(eg:∀args w,(callFunc g args).run P w=.ok (.enter g args) w)(hx:a.eval x=.func (.func g) #[] caps)(ha:xs.map a.eval++caps=args)
  (h:Calls P g args w fun e w'=>∃c,e=.panicked c∧Q (.panic c) a w'):o.wp P a w K Q:=by
 exact zN1
theorem vZ(n:Nat)(hn:n<16)(w:World):Calls Tryz.prog 131 #[.int .i64 (n:Int)] w fun e w'=>e=.returned (.int .i64 (n:Int))∧w=w':=by
 have hb:=DH hn;go_enter Tryz.func131,Tryz.ntmps131;go_wp2_with fail;exact zNT
theorem bV(w:World):Calls Tryz.prog 74 #[.int .i64 0] w fun e w'=>e=.returned (.tuple #[])∧w=w':=by
 go_enter Tryz.func74,Tryz.ntmps74;go_wp2_with fail;go_end0
 exact⟨rfl,rfl⟩
theorem r9(c:Int)(hc:c≠0)(w:World):Calls Tryz.prog 74 #[.int .i64 c] w fun e w'=>e=.panicked (pan c)∧w=w':=by
 have h0:(c !=0)=true:=zML;go_enter Tryz.func74,Tryz.ntmps74;go_wp2_with fail;exact⟨rfl,rfl,rfl⟩
theorem I6{base:Nat}{lg:Lg}{b m g rb:Nat}{v v1 v':Value}{i:Ins}{q:Pr}{w w1 w2:World}{a a':AS}{pc:Int}{f:Ef}{n:Nat}{xs:List Value}{y z:Int}(D:DD base lg b m g rb v v1 i q w a pc f w1)(hn:n≤lg.n)(hi:∀x∈xs,∃j,x=.int .i64 j)(hz:Lgd lg.Z a'.M (xs++[.int .i64 y,.int .i64 z]))
  (hm:mP m a'.M v' w2) (ho:w2.ownsRow base 144 2 v' (n+1) (xs++[.int .i64 y,.int .i64 z])) (ha:mC m v1.ownBlock w1 w2) (hv:v'.ownBlock=v1.ownBlock∨∃k,v'.ownBlock=some k∧w1.heap.size≤k) (hst:stC a' m g=stC a m g) (hr:a'.L=a.L∧a'.rd=a.rd∧a'.F=a.F∧a'.hi=a.hi):DD base (lg+1) b m g rb v v' i q w a' pc f w2:=by
 obtain⟨n1,n2,n3,n4,n5,n6⟩:=D.x.rc.ne;have kk:lN (fun k=>k=m∨some k=v1.ownBlock) w1 w2:=lN.of_apart ha;have no:∀p,p<w1.heap.size→p≠m→v1.ownBlock≠some p→w2.heap[p]?=w1.heap[p]?:=fun p h1 h2 h3=>kk.block p h1 (fun c=>by rcases c with c|c;exact h2 c;exact h3 c.symm);have X:XR base (lg+1) b m g rb v' a' i q pc f w2:=by
  refine⟨⟨?_,hm,⟨n+1,_,ho,Nat.succ_le_succ hn,fun h=>absurd h zLS,?_,hz⟩,?_,?_,D.x.rc.bb,D.x.rc.bm⟩,?_⟩
  ·rw[hst];exact(no b D.x.rc.st.lt n1 n4).trans D.x.rc.st
  ·intro x hx;rcases List.mem_append.1 hx with h|h
   ·exact hi x h
   ·simp only[List.mem_cons,qD,or_false]at h;rcases h with rfl|rfl<;>exact⟨_,rfl⟩
  ·rw[hr.1,hr.2.1];obtain⟨A,c,hg,o⟩:=D.x.rc.rnd.held;exact⟨D.x.rc.rnd.low,A,c,(no g D.x.rc.rnd.lt (fun e=>n3 e.symm) n6).trans hg,cT o kk fun k ek c=>D.x.rc.row_off o ⟨by decide,by decide,by decide,by decide⟩ k ek (by rcases c with c|c;exact .inr (.inl c);exact .inr (.inr (.inr c.symm)))⟩
  ·rw[hr.2.2.1,hr.2.2.2];exact D.x.rc.res
  ·exact(no rb D.x.r.lt (fun e=>D.x.off (.inr (.inl e))) (fun e=>D.x.off (.inr (.inr (.inr e))))).trans D.x.r
 exact⟨X,D.k.trans (kk.mono (O':=Kp b m g v1 rb) fun k _ c=>by rcases c with c|c;exact .inl (.inr (.inl c));exact .inl (.inr (.inr (.inr c.symm)))) D.grew,by
  rcases hv with e|⟨k,e,hk⟩
  ·rw[e];exact D.o
  ·exact .inr ⟨k,e,zR D.k.size hk⟩⟩
theorem BX{M L:List Int}{i:Int}{k:Nat}(hM:M.length=65536)(hi:0≤i∧i≤65535)(hL:L.length=k)(k0:0<k)(hk:k≤65536):(0≤((i.toNat:Nat):Int)∧((i.toNat:Nat):Int)≤65535∧0≤(k:Int)∧(k:Int)≤65536)∧∀j:Nat,j<65536→¬((j:Int)-((i.toNat:Nat):Int))%65536<(k:Int)→(put M i L)[j]?=M[j]?:=by
 refine⟨by omega,fun j h1 h2=>?_⟩;rw[fO L M i zLS hM j h1,zL];omega
theorem rW{i:Int}{n:Nat}{t:Bool}(h:chk i n t≠0):chk i n t=4:=by unfold chk at h⊢;split at h<;>simp_all
section
variable {base:Nat} {lg:Lg} {b m g rb:Nat} {v:Value} {a:AS} {op:Int} {x y n nn:Nat} {ad ln:Int} {q:Pr} {pc:Int} {f:Ef} {w:World}
theorem sK(X:XR base lg b m g rb v a ⟨op,x,y,n,nn,ad,ln⟩ q pc f w)(hx:x<16):Calls Tryz.prog 123 #[.pointer (some ⟨rb,0,none⟩)] w fun e w'=>e=.returned (.pointer (some ⟨b,x,none⟩))∧Below w.heap.size w w':=by
 have r0:=X.rk 0 (.pointer (some ⟨b,0,none⟩)) rfl;have r2:=X.rk 2 (.int .i64 (x:Int)) rfl;have xi:(x:Int)<16:=zLS;have RG:=zW (fun w=>vZ x hx w);clear X;go_enter Tryz.func123,Tryz.ntmps123;exact zNW
theorem vy19(X:XR base lg b m g rb v a ⟨op,x,y,n,nn,ad,ln⟩ q pc f w)(hy:y<16):Calls Tryz.prog 138 #[.pointer (some ⟨rb,0,none⟩)] w fun e w'=>e=.returned (.pointer (some ⟨b,y,none⟩))∧Below w.heap.size w w':=by
 have r0:=X.rk 0 (.pointer (some ⟨b,0,none⟩)) rfl;have r3:=X.rk 3 (.int .i64 (y:Int)) rfl;have xi:(y:Int)<16:=zLS;have RG:=zW (fun w=>vZ y hy w);clear X;go_enter Tryz.func138,Tryz.ntmps138;exact zNW
theorem YC(X:XR base lg b m g rb v a ⟨op,x,y,n,nn,ad,ln⟩ q pc f w)(k:Int)(O:OkA a)(k0:0≤k)(k1:k≤300):Calls Tryz.prog 126 #[.pointer (some ⟨rb,0,none⟩),.int .i64 k] w (Did base lg b m g rb v ⟨op,x,y,n,nn,ad,ln⟩ q w ({a with i:=(a.i+k)%65536}) (pc) (f)):=by
 have D:=zW (DD.refl X);have SB:=zW (lY X.rc.st);have RBh:=zW (lY X.r);have r0:=X.rk 0 (.pointer (some ⟨b,0,none⟩)) rfl;have s16:=X.sk 16 _ (mK _ m g zLS);rw[rJ]at s16;have wr:IntKind.i64.wrap (a.i+k)=a.i+k:=by rw[qQ];have:=O.i;omega
 have WR:=zW (fun w=>t6 (a.i+k) w);clear X;go_enter Tryz.func126,Tryz.ntmps126;refine lK (C:=fun w'=>∃u:lH w,w'=u.w) 16 [([0,1,2,3,4,5,6,7,8,9,10,11,12],13,true)] [14,15] [] zLE zLE ?_ ?_ ⟨⟨w.drew,(zB _ _).drew⟩,rfl⟩ ?_
 ·exact zMO
 ·exact zMA
 intro wd hwd;clear hwd;refine lF zLC zLU ?_;iterate 13 (go_big_quiet_step (fail))
 refine zY ?_;refine lS (v:=.int .i64 ((a.i+k)%65536)) (mM (g:=71) (caps:=#[]) (args:=#[.int .i64 (a.i+k)]) (.func 71) _ _ rfl rfl (enters_of Tryz.func71 zLE rfl) (fun w' hw=>by obtain⟨u,rfl⟩:=hw;exact(WR.out u.w).mono fun e w'' h=>⟨h.1,by rw[←h.2];exact Gr.refl _⟩) rfl zLP) ?_;simp only[Act.put,zQ,zZ,zJ];refine lR zLC zLU ?_;iterate 2 (go_big_quiet_step (fail))
 refine zY ?_;refine lT rfl ?_;intro w5 g5 C5 K hK;obtain⟨u5,rfl⟩:=C5;have D5:=zW (D.out.step u5.below);have cc:=(D5.out.x.rc.st.cell 16).trans (mK _ m g zLS);have fc:=D5.out.x.rc.st.frozen 16;go_wp2_with fail;have D:=zW (D5.out.put (a':={a with i:=(a.i+k)%65536}) 16 (.int .i64 ((a.i+k)%65536)) (d9 a m g ((a.i+k)%65536)) rfl rfl rfl D5.out.x.rc.res);exact zHK
theorem GF(X:XR base lg b m g rb v a ⟨op,x,y,n,nn,ad,ln⟩ q pc f w)(k:Int)(O:OkA a)(k0:0≤k)(k1:k≤300):Calls Tryz.prog 132 #[.pointer (some ⟨rb,0,none⟩),.int .i64 k] w (Did base lg b m g rb v ⟨op,x,y,n,nn,ad,ln⟩ q w (if q.ki=true then a else{a with i:=(a.i+k)%65536}) (pc) (f)):=by
 have D:=zW (DD.refl X);have r0:w.cell? ⟨rb,0,none⟩=some (.pointer (some ⟨b,0,none⟩)):=(X.r.cell 0).trans rfl;have r10:w.cell? ⟨rb,10,none⟩=some (.bool q.ki):=(X.r.cell 10).trans rfl;have AI:=zW (YC X k O k0 k1);obtain⟨lv,sh,ki,jx,lr,cl,dw,fa⟩:=q;clear X;cases ki
 ·go_enter Tryz.func132,Tryz.ntmps132;go_wp2_with fail;refine AI.out.mono ?_;rintro e w' ⟨rfl,v',D'⟩;go_wp2_with fail;go_end0
  exact⟨rfl,v',D'⟩
 ·go_enter Tryz.func132,Tryz.ntmps132;go_wp2_with fail;go_end0
  exact⟨rfl,_,D.out⟩
theorem JB(X:XR base lg b m g rb v a ⟨op,x,y,n,nn,ad,ln⟩ q pc f w)(k:Nat)(O:OkA a)(hk:k≤128)(hc:chk a.i k q.fa=0):Calls Tryz.prog 133 #[.pointer (some ⟨rb,0,none⟩),.int .i64 (k:Int)] w (Gave k (seg a.M a.i k) w):=by
 have XX:=zW X;have r0:=X.rk 0 (.pointer (some ⟨b,0,none⟩)) rfl;have r15:=X.rk 15 (.bool q.fa) rfl;have s16:=X.sk 16 _ (mK _ m g zLS);rw[rJ]at s16;have CK:=zW (fun w=>uI a.i k q.fa w O.i.1 O.i.2 (qM k) zLS);have k1:(k:Int)≤65536:=zLS;rw[hc]at CK;have OO:=zW O;clear X O hk hc;go_enter Tryz.func133,Tryz.ntmps133;go_upto_region 1 with fail;refine mE zLE zLE ?_;repeat(go_big_quiet_step ((first|(go_at_call 55;exact mS (CK.out _))|(go_at_call 74;exact mS (bV _)))))
 refine zY ?_;intro _ hw';obtain⟨x',rfl⟩:=hw';have b1:=zW x'.below;generalize x'.w=w1 at*;have XX:=zW (XX.out.step b1.out);clear r0 r15 s16 CK;have r0:=XX.out.rk 0 (.pointer (some ⟨b,0,none⟩)) rfl;have s16:=XX.out.sk 16 _ (mK _ m g zLS);rw[rJ]at s16;have s35:=XX.out.sk 35 _ (mK _ m g zLS);rw[bN]at s35;go_upto_region 2 with fail;refine lK (C:=fun w'=>∃u:lH w1,w'=u.w) 15 [] [0,1,2,3,4,5,6,7,8,9,10,11,12,13,14] [16] zLE zLE ?_ ?_ ⟨⟨w1.drew,(zB _ _).drew⟩,rfl⟩ ?_
 ·exact zMO
 ·exact zMA
 intro wd hwd;clear hwd;refine lR zLC zLU ?_;iterate 15 (go_big_quiet_step (fail))
 refine zY ?_;refine lT rfl ?_;intro w5 g5 C5 K hK;obtain⟨u5,rfl⟩:=C5;refine lE (g:=68) (caps:=#[]) (args:=#[.pointer (some ⟨m,0,none⟩),.int .i64 a.i,.int .i64 (k:Int)]) (.func 68) _ _ rfl (enters_of Tryz.func68 zLE rfl) rfl zLP ?_;refine(QQ m a.M v a.i a.i.toNat k u5.w OO.out.M (XX.out.step u5.below).rc.mem (by have:=OO.out.i;omega) zLS).mono ?_;rintro e w7 ⟨gg,rfl,hg,hR,b7⟩;have B7:=zW (u5.below.trans (b7.mono u5.below.size));have G7:=zW (show w.heap.size≤gg by have h1:=b1.out.size;have h2:=u5.below.size;omega);have R7:=zW hR;clear hg hR b7;refine⟨_,rfl,?_⟩;refine hK _ _ ?_;clear hK K;simp only[Act.put,zQ,zZ,zJ];try simp only[kC,zX,zK,zV]
 iterate 1 (go_big_quiet_step (fail))
 refine zY ?_;intro w8 g8;have B8:=zW ((b1.out.trans (B7.out.mono b1.out.size)).trans (g8.mono (zR b1.out.size B7.out.size)));have R8:=zW (R7.out.below g8);clear g8 g5 s35 s16 r0;go_wp2_with fail;go_ret;exact⟨gg,rfl,G7.out,R8.out,B8.out⟩
theorem gA(X:XR base lg b m g rb v a ⟨op,x,y,n,nn,ad,ln⟩ q pc f w)(k:Nat)(O:OkA a)(hk:k≤128)(hc:chk a.i k q.fa≠0):Calls Tryz.prog 133 #[.pointer (some ⟨rb,0,none⟩),.int .i64 (k:Int)] w (pK 4 w):=by
 have r0:=X.rk 0 (.pointer (some ⟨b,0,none⟩)) rfl;have r15:=X.rk 15 (.bool q.fa) rfl;have s16:=X.sk 16 _ (mK _ m g zLS);rw[rJ]at s16;have CK:=zW (fun w=>uI a.i k q.fa w O.i.1 O.i.2 (qM k) zLS);have k1:(k:Int)≤65536:=zLS;rw[rW hc]at CK;clear X O hk hc;go_enter Tryz.func133,Tryz.ntmps133;go_upto_region 1 with fail;refine lK (C:=fun w'=>∃u:lH w,w'=u.w) 14 [([0,1,2,3,4,5,6,7,8,9,10,11,12],13,true)] [] [] zLE zLE ?_ ?_ ⟨⟨w.drew,(zB _ _).drew⟩,rfl⟩ ?_
 ·exact zMO
 ·exact zMA
 intro wd hwd;clear hwd;refine lF zLC zLU ?_;iterate 13 (go_big_quiet_step (fail))
 exact zM3
theorem QT(X:XR base lg b m g rb v a ⟨op,x,y,n,nn,ad,ln⟩ q pc f w)(A:Option Addr)(k c:Nat)(L:List Int)(O:OkA a)(hb:base≤w.heap.size)(hg:lg.n≤950)(k0:0<k)(hk:k≤128)(hkc:k≤c)(hL:L.length=k)(hR:Rd w A L)(hA:∀ad,A=some ad→ad.block≠m)(hc:chk a.i k q.fa=0):Calls Tryz.prog 130 #[.pointer (some ⟨rb,0,none⟩),.slice A k c] w (Did base (lg+1) b m g rb v ⟨op,x,y,n,nn,ad,ln⟩ q w ({a with M:=put a.M a.i L}) (pc) (f)):=by
 have XX:=zW X;have r0:=X.rk 0 (.pointer (some ⟨b,0,none⟩)) rfl;have r15:=X.rk 15 (.bool q.fa) rfl;have s16:=X.sk 16 _ (mK _ m g zLS);rw[rJ]at s16;have CK:=zW (fun w=>uI a.i k q.fa w O.i.1 O.i.2 (qM k) zLS);have k1:(k:Int)≤65536:=zLS;rw[hc]at CK;have OO:=zW O;have RR:=zW hR;have DZ:=zW (DD.refl X);have HB:=zW (zM hb (zM hg (zM k0 (zM hkc (zM hL hA)))));clear X O hk hc hR hb hg k0 hkc hL hA;go_enter Tryz.func130,Tryz.ntmps130;go_upto_region 0 with fail;refine mE zLE zLE ?_;repeat(go_big_quiet_step ((first|(go_at_call 55;exact mS (CK.out _))|(go_at_call 74;exact mS (bV _)))))
 refine zY ?_;intro _ hw';obtain⟨x',rfl⟩:=hw';have b1:=zW x'.below;generalize x'.w=w1 at*;have XX:=zW (XX.out.step b1.out);have DZ:=zW (DZ.out.step b1.out);have RR:=zW (RR.out.below b1.out);clear r0 r15 s16 CK;have r0:=XX.out.rk 0 (.pointer (some ⟨b,0,none⟩)) rfl;have s16:=XX.out.sk 16 _ (mK _ m g zLS);rw[rJ]at s16;have s35:=XX.out.sk 35 _ (mK _ m g zLS);rw[bN]at s35;go_upto_region 1 with fail;refine lK (C:=fun w'=>∃u:lH w1,w'=u.w) 15 [] [0,1,2,3,4,5,6,7,8,9,10,11,12,13,14] [] zLE zLE ?_ ?_ ⟨⟨w1.drew,(zB _ _).drew⟩,rfl⟩ ?_
 ·exact zMO
 ·exact zMA
 intro wd hwd;clear hwd;refine lR zLC zLU ?_;iterate 15 (go_big_quiet_step (fail))
 refine zY ?_;refine lT rfl ?_;intro w5 g5 C5 K hK;obtain⟨u5,rfl⟩:=C5;have X5:=zW (XX.out.step u5.below);have D5:=zW (DZ.out.step u5.below);obtain⟨nl,xs,o,hn,h0,hi,hz⟩:=X5.out.rc.log;refine lE (g:=165) (caps:=#[]) (args:=#[.pointer (some ⟨m,0,none⟩),.int .i64 a.i,.slice A k c]) (.func 165) _ _ rfl (enters_of Tryz.func165 zLE rfl) rfl zLP ?_;refine(EQ m a.M v nl base xs a.i a.i.toNat A k c L u5.w OO.out.M X5.out.rc.mem o (zR HB.out.1 (zR b1.out.size u5.below.size)) (by have:=HB.out.2.1;omega) (by have:=OO.out.i;omega) HB.out.2.2.2.2.1 HB.out.2.2.1 zLS HB.out.2.2.2.1 (RR.out.below u5.below) HB.out.2.2.2.2.2).mono ?_;rintro e w7 ⟨rfl,v',hm,hown,hap,hv⟩;have W7:=zW (I6 D5.out (a':={a with M:=put a.M a.i L}) hn hi (hz.snoc (BX OO.out.M OO.out.i HB.out.2.2.2.2.1 HB.out.2.2.1 zLS).1 (BX OO.out.M OO.out.i HB.out.2.2.2.2.1 HB.out.2.2.1 zLS).2) hm hown hap hv (rfl) ⟨rfl,rfl,rfl,rfl⟩);clear hm hown hap hv o hn h0 hi hz;refine⟨_,rfl,?_⟩;refine hK _ _ ?_;clear hK K;simp only[Act.put,zQ,zZ,zJ];try simp only[kC,zX,zK,zV]
 refine zY ?_;intro w8 g8;have D:=zW (W7.out.step g8);clear g8 g5 s35 s16 r0;go_wp2_with fail;go_end0
 exact⟨rfl,_,D.out⟩
theorem dJ(X:XR base lg b m g rb v a ⟨op,x,y,n,nn,ad,ln⟩ q pc f w)(A:Option Addr)(k c:Nat)(O:OkA a)(hk:k≤128)(hc:chk a.i k q.fa≠0):Calls Tryz.prog 130 #[.pointer (some ⟨rb,0,none⟩),.slice A k c] w (pK 4 w):=by
 have r0:=X.rk 0 (.pointer (some ⟨b,0,none⟩)) rfl;have r15:=X.rk 15 (.bool q.fa) rfl;have s16:=X.sk 16 _ (mK _ m g zLS);rw[rJ]at s16;have CK:=zW (fun w=>uI a.i k q.fa w O.i.1 O.i.2 (qM k) zLS);have k1:(k:Int)≤65536:=zLS;rw[rW hc]at CK;clear X O hk hc;go_enter Tryz.func130,Tryz.ntmps130;go_upto_region 0 with fail;refine lK (C:=fun w'=>∃u:lH w,w'=u.w) 15 [([0,1,2,3,4,5,6,7,8,9,10,11,12,13],14,true)] [] [] zLE zLE ?_ ?_ ⟨⟨w.drew,(zB _ _).drew⟩,rfl⟩ ?_
 ·exact zMO
 ·exact zMA
 intro wd hwd;clear hwd;refine lF zLC zLU ?_;iterate 14 (go_big_quiet_step (fail))
 exact zM3
end
theorem zKB(M:List Int)(i:Int)(j:Nat)(hj:j<16):pad (seg M i 16) j=(seg M i 16).getD j 0:=by
 have h:j<(seg M i 16).length:=by rw[vI];exact hj
 rw[zQK _ j h,qV,zP h,Option.getD_some]
theorem JV{M:List Int}(B:Bts M)(hM:M.length=65536)(i:Int)(k:Nat):∀j (h:j<(seg M i k).length),(seg M i k)[j]=((byC M i j:Nat):Int):=fun j h=>by
 have e:=seg_at B hM i k j (by rw[vI]at h;exact h);rw[zP h]at e;exact jR e
theorem cut3(p:Nat)(w:World):(Instr.sliceAt 222 (.pointer (some ⟨p,0,none⟩)) none none none).run Tryz.prog w=.ok (.slice (some ⟨p,0,none⟩) 3 3) w:=by
 have h:=run_sliceAt_array_all (P:=Tryz.prog) w 222 ⟨p,0,none⟩ Tryz.underlying222;exact zN4
theorem dig_rd{p c:Nat}{w:World}(h:Blk p 222 (d3 c) w):Rd w (some ⟨p,0,none⟩) (J8 c):=JD h 0 _ fun j hj=>by
 rcases j with _|_|_|j
 ·simp[d3,J8]
 ·simp[d3,J8]
 ·simp[d3,J8]
 ·exact absurd hj (by simp[J8])
theorem DM{b p:Nat}{T:TypeId}{cs:Array Value}{M:List Int}{v:Value}{w:World}(h:Blk b T cs w)(k:mP p M v w)(e:T≠150):b≠p:=fun hb=>by
 have h:w.heap[b]?=some (.cells cs T (0,0)):=h;have k:w.heap[p]?=some (.cells (cells M v) 150 (0,0)):=k;rw[hb,k]at h;injection h with h
 injection h with _ h
 exact e h.symm
theorem WT(v:Nat→Nat)(B:Nat→Nat)(K:Nat):∀k,k≤K→∀j,ldN v (upL 0 K) B k j=if j<k then B j else v j
 |0,_,j=>by rw[zL zLS];rfl
 |k+1,hk,j=>by
  have e:((upL 0 K).getD k 0).toNat=k:=by unfold upL;rw[qV,jQ,List.getElem?_range zLS];simp
  unfold ldN Cpu.upd;rw[e,WT v B K k zLS j];by_cases h:j=k
  ·subst h;rw[zN rfl,zN zLS]
  ·rw[zL h];by_cases h2:j<k
   ·rw[zN h2,zN zLS]
   ·rw[zL h2,zL zLS]
theorem UA(c:Array Value)(ys:List Value):(splice c.toList 0 ys).toArray=lM c 0 ys.toArray:=by unfold splice lM;simp
theorem MY(a:AS)(m g:Nat)(L:List Int)(B:Nat→Nat)(k:Nat)(hk:L.length=k)(h16:k≤16)(hB:∀j (h:j<L.length),L[j]=((B j:Nat):Int)):
  (splice (stC a m g).toList 0 ((L.take 16).map (Value.int .u8))).toArray=stC {a with v:=ldN a.v (upL 0 k) B k} m g:=by
 rw[UA,qR zLS];have hs:(L.map (Value.int .u8)).toArray.size=k:=by simp[hk]
 refine nN (by rw[hs];omega) (fun j hj=>?_) fun j hj h=>?_
 ·rw[hs]at hj;rw[qY,tB _ m g zLS,zX,jQ,zP zLS];simp only[Option.map_some];rw[hB j zLS,WT a.v B k k (zH _) j,zN hj]
 ·rw[hs]at h;refine nH _ _ _ _ _ (fun _=>?_) (fun _=>rfl) (fun _=>rfl) (fun _=>rfl) (fun _=>rfl) (fun _=>rfl) (fun _=>rfl) (fun _=>rfl) (fun _=>rfl) (fun _=>rfl) (fun _=>rfl);show a.v j=ldN a.v (upL 0 k) B k j;rw[WT a.v B k k (zH _) j,zL zLS]
theorem ZP{a:AS}{b m g:Nat}{w:World}(h:Blk b 70 (stC a m g) w)(k:Nat)(hk:k≤16):Rd w (some ⟨b,0,none⟩) (nP a.v k):=JD h 0 _ fun j hj=>by
 rw[dT]at hj;rw[qY,mK _ _ _ zLS,tB _ _ _ zLS];simp[nP]
theorem cutV(p k:Nat)(hk:k≤16)(w:World):(Instr.sliceAt 45 (.pointer (some ⟨p,0,none⟩)) none (some (.int .i64 (k:Int))) none).run Tryz.prog w=.ok (.slice (some ⟨p,0,none⟩) k 16) w:=by
 have hl:Tryz.prog.arrayLen 45=16:=zLE;have h:=run_sliceAt_array_h (P:=Tryz.prog) w 45 ⟨p,0,none⟩ Tryz.underlying45 .i64 (k:Int) zLS (by rw[hl];omega);rw[h,hl];show Result.ok (slicedAt _ _ _ _ 1) w=_;unfold slicedAt;rw[zL (by first|omega|decide|(simp;done)),cO];simp
theorem YQ{base:Nat}{lg:Lg}{b m g rb:Nat}{v v1:Value}{i:Ins}{q:Pr}{w w1 w2:World}{a a':AS}{pc:Int}{f:Ef}(D:DD base lg b m g rb v v1 i q w a pc f w1)(hb:w2.heap[b]?=some (.cells (stC a' m g) 70 (0,0)))(ha:∀k,mC b k w1 w2)(eM:a'.M=a.M)(eL:a'.L=a.L)(eR:a'.rd=a.rd)(hres:∀i,i<4→xB (a'.F i) (wid a'.hi) (hei a'.hi)):DD base lg b m g rb v v1 i q w a' pc f w2:=by
 have kk:lN (fun k=>k=b∨some k=none) w1 w2:=lN.of_apart (ha none);have no:∀p,p<w1.heap.size→p≠b→w2.heap[p]?=w1.heap[p]?:=fun p h1 h2=>kk.block p h1 (fun c=>by rcases c with c|c;exact h2 c;cases c);obtain⟨n1,n2,n3,n4,n5,n6⟩:=D.x.rc.ne;refine D.to ⟨⟨hb,?_,?_,?_,hres,D.x.rc.bb,D.x.rc.bm⟩,(no rb D.x.r.lt D.x.ne).trans D.x.r⟩ (kk.mono fun k _ c=>by rcases c with c|c;exact .inl (.inl c);cases c)
 ·rw[eM];exact(no m D.x.rc.mem.lt (fun e=>n1 e.symm)).trans D.x.rc.mem
 ·rw[eM];obtain⟨n,xs,o,r⟩:=D.x.rc.log;exact⟨n,xs,cT o kk (fun k ek c=>c.elim (fun c=>n4 (c▸ek)) (fun c=>by cases c)),r⟩
 ·rw[eL,eR];obtain⟨A,c,hg,o⟩:=D.x.rc.rnd.held;exact⟨D.x.rc.rnd.low,A,c,(no g D.x.rc.rnd.lt (fun e=>n2 e.symm)).trans hg,cT o kk (fun k ek c=>c.elim (fun c=>D.x.rc.row_off o ⟨by decide,by decide,by decide,by decide⟩ k ek (.inl c)) (fun c=>by cases c))⟩
section
variable {base:Nat} {lg:Lg} {b m g rb:Nat} {v:Value} {a:AS} {op:Int} {x y n nn:Nat} {ad ln:Int} {q:Pr} {pc:Int} {f:Ef} {w:World}
theorem M8(X:XR base lg b m g rb v a ⟨op,x,y,n,nn,ad,ln⟩ q pc f w)(hx:x<16):Calls Tryz.prog 108 #[.pointer (some ⟨rb,0,none⟩)] w (Did base lg b m g rb v ⟨op,x,y,n,nn,ad,ln⟩ q w ({a with fl:=ov a.fl (nP a.v (x+1))}) (pc) (f)):=by
 obtain⟨k,hk⟩:∃k,x+1=k:=⟨_,rfl⟩;rw[hk];have wr:IntKind.i64.wrap ((x:Int)+1)=(k:Int):=by rw[qQ];omega
 have k16:k≤16:=zLS;have cut:=fun w=>cutV b k k16 w;have D:=zW (DD.refl X);have SB:=zW (lY X.rc.st);have RBh:=zW (lY X.r);have r0:=X.rk 0 (.pointer (some ⟨b,0,none⟩)) rfl;have r2:=X.rk 2 (.int .i64 (x:Int)) rfl;have RG:=zW (fun w=>vZ x hx w);have SF:=zW (fun(u:lH w)=>U6 a.fl (some ⟨b,0,none⟩) k 16 (nP a.v k) u.w (ZP (X.step u.below).rc.st k k16) (dT _ _));clear X hx hk;go_enter Tryz.func108,Tryz.ntmps108;refine lK (C:=fun w'=>∃u:lH w,w'=u.w) 28 [([0,1,2,3,4,5,6,7,8,9,10,11,12,13,14,15,16,17,18,19,20,21],22,true),([23,24],25,true)] [26,27] [] zLE zLE ?_ ?_ ⟨⟨w.drew,(zB _ _).drew⟩,rfl⟩ ?_
 ·exact zMO
 ·exact zMA
 intro wd hwd;clear hwd;refine lF zLC zLU ?_;iterate 10 (go_big_quiet_step (fail))
 refine lV (o:=585) T5 SB.out zL1 rfl (.tmp 11) rfl zLP ?_;rw[UF];simp only[Act.put,zQ,zZ,zJ];iterate 11 (go_big_quiet_step (fail))
 refine zY ?_;refine lS (v:=.int .i64 (x:Int)) (mM (g:=131) (caps:=#[]) (args:=#[.int .i64 (x:Int)]) (.func 131) _ _ rfl rfl (enters_of Tryz.func131 zLE rfl) (fun w' hw=>by obtain⟨u,rfl⟩:=hw;exact(RG.out u.w).mono fun e w'' h=>⟨h.1,by rw[←h.2];exact Gr.refl _⟩) rfl zLP) ?_;simp only[Act.put,zQ,zZ,zJ];refine lF zLC zLU ?_;iterate 2 (go_big_quiet_step (fail))
 refine zY ?_;refine lS (v:=.agg (Go.Proofs.YthknmadinmigfaaGreatDoor.pc (ov a.fl (nP a.v k)))) (mM (g:=143) (caps:=#[]) (args:=#[.agg (Go.Proofs.YthknmadinmigfaaGreatDoor.pc a.fl),.slice (some ⟨b,0,none⟩) k 16]) (.func 143) _ _ rfl rfl (enters_of Tryz.func143 zLE rfl) (fun w' hw=>by obtain⟨u,rfl⟩:=hw;exact SF.out u) rfl zLP) ?_;simp only[Act.put,zQ,zZ,zJ];refine lR zLC zLU ?_;iterate 2 (go_big_quiet_step (fail))
 refine zY ?_;refine lT rfl ?_;intro w5 g5 C5 K hK;obtain⟨u5,rfl⟩:=C5;have D5:=zW (D.out.step u5.below);refine mW (o:=585) (ds:=Go.Proofs.YthknmadinmigfaaGreatDoor.pc (ov a.fl (nP a.v k))) T5 D5.out.x.rc.st (nX _) zL1 (JT _) (.tmp 29) (.tmp 27) rfl zLP zLP ?_;have D:=zW (D5.out.row (a':={a with fl:=ov a.fl (nP a.v k)}) (cs:=lM (stC a m g) 585 (Go.Proofs.YthknmadinmigfaaGreatDoor.pc (ov a.fl (nP a.v k)))) (EY a m g (ov a.fl (nP a.v k))) rfl rfl rfl (D5.out.x.rc.res));refine hK _ _ ?_;generalize World.setRow u5.w b (lM (stC a m g) 585 (Go.Proofs.YthknmadinmigfaaGreatDoor.pc (ov a.fl (nP a.v k))))=w7 at D⊢;exact zHX
theorem N6(X:XR base lg b m g rb v a ⟨op,x,y,n,nn,ad,ln⟩ q pc f w)(O:OkA a)(hx:x<16):Calls Tryz.prog 109 #[.pointer (some ⟨rb,0,none⟩)] w (Did base lg b m g rb v ⟨op,x,y,n,nn,ad,ln⟩ q w ({a with v:=ldN a.v (upL 0 (x+1)) (fun j=>(a.fl j).toNat) (x+1)}) (pc) (f)):=by
 obtain⟨k,hk⟩:∃k,x+1=k:=⟨_,rfl⟩;rw[hk];have wr:IntKind.i64.wrap ((x:Int)+1)=(k:Int):=by rw[qQ];omega
 have k16:k≤16:=zLS;have cut:=fun w=>zZ7 b 0 w;have D:=zW (DD.refl X);have SB:=zW (lY X.rc.st);have RBh:=zW (lY X.r);have r0:=X.rk 0 (.pointer (some ⟨b,0,none⟩)) rfl;have r2:=X.rk 2 (.int .i64 (x:Int)) rfl;have RG:=zW (fun w=>vZ x hx w);have LF:=zW (fun w=>zQ2 a.fl (k:Int) w);rw[cl_nat k k16]at LF;have TL:=zW (show((yL a.fl).take k).length=k by rw[qT,mG];omega);have TB:=zW (show∀j (h:j<((yL a.fl).take k).length),((yL a.fl).take k)[j]=(((fun j=>(a.fl j).toNat) j:Nat):Int)from fun j h=>by
  have hj:j<16:=by rw[TL.out]at h;omega
  rw[j8,uH _ _ hj];have:=O.fl j hj;simp only;omega)
 have K1:=zW (show 0<k by omega);clear X hx hk O;go_enter Tryz.func109,Tryz.ntmps109;refine lK (C:=fun w'=>∃u:lH w,w'=u.w) 22 [([0,1,2,3,4,5,6,7,8,9,10,11,12,13,14,15,16,17,18],19,true),([20],21,false)] [] [] zLE zLE ?_ ?_ ⟨⟨w.drew,(zB _ _).drew⟩,rfl⟩ ?_
 ·exact zMO
 ·exact zMA
 intro wd hwd;clear hwd;refine lF zLC zLU ?_;iterate 13 (go_big_quiet_step (fail))
 refine lV (o:=585) T5 SB.out zL1 rfl (.tmp 14) rfl zLP ?_;rw[UF];simp only[Act.put,zQ,zZ,zJ];iterate 5 (go_big_quiet_step (fail))
 refine zY ?_;refine lS (v:=.int .i64 (x:Int)) (mM (g:=131) (caps:=#[]) (args:=#[.int .i64 (x:Int)]) (.func 131) _ _ rfl rfl (enters_of Tryz.func131 zLE rfl) (fun w' hw=>by obtain⟨u,rfl⟩:=hw;exact(RG.out u.w).mono fun e w'' h=>⟨h.1,by rw[←h.2];exact Gr.refl _⟩) rfl zLP) ?_;simp only[Act.put,zQ,zZ,zJ];refine vF zLC zLU ?_;iterate 1 (go_big_quiet_step (fail))
 refine zY ?_;refine vT rfl ?_;intro w4 g4 C4 K hK;obtain⟨u4,rfl⟩:=C4;refine lE (g:=144) (caps:=#[]) (args:=#[.agg (Go.Proofs.YthknmadinmigfaaGreatDoor.pc a.fl),.int .i64 (k:Int)]) (.func 144) _ _ rfl (enters_of Tryz.func144 zLE rfl) rfl zLP ?_;refine(LF.out u4.w).mono ?_;rintro e w6 hG;obtain⟨gg,cp,rfl,hcp,hg,hR,b6⟩:=hG.slice TL.out K1.out;have B6:=zW (u4.below.trans (b6.mono u4.below.size));have R6:=zW hR;clear hR b6 hg hG g4;refine⟨_,rfl,?_⟩;refine hK _ _ ⟨⟨w6,B6.out⟩,rfl⟩ ?_;clear hK K;simp only[Act.put,zQ,zZ,zJ];refine lR zLC zLU ?_;refine zY ?_;refine lT rfl ?_;intro w5 g5 C5 K hK;obtain⟨u5,rfl⟩:=C5;have D5:=zW (D.out.step u5.below);obtain⟨w7,hrun,hw7,hap⟩:=vO 3 b 0 16 16 (some ⟨b,0,none⟩) (fun _=>rfl) (some ⟨gg,0,none⟩) k cp k zLS ((yL a.fl).take k) (TL.out) (R6.out.below g5) (stC a m g).toList 70 D5.out.x.rc.st (by rw[Array.length_toList,lG];omega);refine vH (.tmp 8) (.tmp 23) rfl 3 rfl (.slice (some ⟨b,0,none⟩) 16 16) (.slice (some ⟨gg,0,none⟩) k cp) (.int .i64 ((k:Nat):Int)) zLP zLP hrun 24 rfl ?_;rw[MY a m g _ (fun j=>(a.fl j).toNat) k TL.out k16 TB.out]at hw7;have D:=zW (YQ (a':={a with v:=ldN a.v (upL 0 k) (fun j=>(a.fl j).toNat) k}) D5.out hw7 hap rfl rfl rfl D5.out.x.rc.res);clear hrun hw7 hap D5;refine hK _ _ ?_;clear hK K;simp only[Act.put,zQ,zZ,zJ];exact zMU
theorem JJ(X:XR base lg b m g rb v a ⟨op,x,y,n,nn,ad,ln⟩ q pc f w)(O:OkA a)(hc:chk a.i 16 q.fa=0):Calls Tryz.prog 113 #[.pointer (some ⟨rb,0,none⟩)] w (Did base lg b m g rb v ⟨op,x,y,n,nn,ad,ln⟩ q w ({a with P:=seg a.M a.i 16}) (pc) (f)):=by
 have D:=zW (DD.refl X);have SB:=zW (lY X.rc.st);have RBh:=zW (lY X.r);have r0:=X.rk 0 (.pointer (some ⟨b,0,none⟩)) rfl;have RX:=zW (fun(u:lH w)=>JB (X.step u.below) 16 O zLA hc);clear X hc O;go_enter Tryz.func113,Tryz.ntmps113;refine lK (C:=fun w'=>∃u:lH w,w'=u.w) 16 [([0,1,2,3,4,5,6,7,8,9,10,11],12,false),([],13,false)] [14,15] [] zLE zLE ?_ ?_ ⟨⟨w.drew,(zB _ _).drew⟩,rfl⟩ ?_
 ·exact zMO
 ·exact zMA
 intro wd hwd;clear hwd;refine vF zLC zLU ?_;iterate 10 (go_big_quiet_step (fail))
 refine lV (o:=568) eO SB.out zL1 rfl (.tmp 11) rfl zLP ?_;rw[eQ];simp only[Act.put,zQ,zZ,zJ];iterate 1 (go_big_quiet_step (fail))
 refine zY ?_;refine vT rfl ?_;intro w4 g4 C4 K hK;obtain⟨u4,rfl⟩:=C4;refine lE (g:=133) (caps:=#[]) (args:=#[.pointer (some ⟨rb,0,none⟩),.int .i64 16]) (.func 133) _ _ rfl (enters_of Tryz.func133 zLE rfl) rfl zLP ?_;refine(RX.out u4).mono ?_;rintro e w6 ⟨gg,rfl,hg,hR,b6⟩;have B6:=zW (u4.below.trans (b6.mono u4.below.size));have R6:=zW hR;clear hR b6 hg g4;refine⟨_,rfl,?_⟩;refine hK _ _ ⟨⟨w6,B6.out⟩,rfl⟩ ?_;clear hK K;simp only[Act.put,zQ,zZ,zJ];refine vF zLC zLU ?_;refine zY ?_;refine vT rfl ?_;intro w4 g4 C4 K hK;obtain⟨u4,rfl⟩:=C4;refine lE (g:=145) (caps:=#[]) (args:=#[.agg (ac (ptA a) (a.pt:Int)),.slice (some ⟨gg,0,none⟩) 16 16]) (.func 145) _ _ rfl (enters_of Tryz.func145 zLE rfl) rfl zLP ?_;refine(YD (ptA a) (a.pt:Int) _ 16 16 (seg a.M a.i 16) u4.w (R6.out.below g4) (vI _ _ _)).mono ?_;rintro e w7 ⟨rfl,b7⟩;have B7:=zW (u4.below.trans (b7.mono u4.below.size));clear b7 g4 B6 R6;refine⟨_,rfl,?_⟩;refine hK _ _ ⟨⟨w7,B7.out⟩,rfl⟩ ?_;clear hK K;simp only[Act.put,zQ,zZ,zJ];refine lR zLC zLU ?_;iterate 2 (go_big_quiet_step (fail))
 refine zY ?_;refine lT rfl ?_;intro w5 g5 C5 K hK;obtain⟨u5,rfl⟩:=C5;have D5:=zW (D.out.step u5.below);refine mW (o:=568) (ds:=ac (pad (seg a.M a.i 16)) (a.pt:Int)) eO D5.out.x.rc.st (nV _ _) zL1 (oJ _ _) (.tmp 17) (.tmp 15) rfl zLP zLP ?_;have D:=zW (D5.out.row (a':={a with P:=seg a.M a.i 16}) (cs:=lM (stC a m g) 568 (ac (pad (seg a.M a.i 16)) (a.pt:Int))) (aB a m g (seg a.M a.i 16) a.pt (fun j hj=>zKB a.M a.i j hj)) rfl rfl rfl (D5.out.x.rc.res));refine hK _ _ ?_;generalize World.setRow u5.w b (lM (stC a m g) 568 (ac (pad (seg a.M a.i 16)) (a.pt:Int)))=w7 at D⊢;exact zHX
theorem fL(X:XR base lg b m g rb v a ⟨op,x,y,n,nn,ad,ln⟩ q pc f w)(O:OkA a)(hc:chk a.i 16 q.fa≠0):Calls Tryz.prog 113 #[.pointer (some ⟨rb,0,none⟩)] w (pK 4 w):=by
 have D:=zW (DD.refl X);have SB:=zW (lY X.rc.st);have RBh:=zW (lY X.r);have r0:=X.rk 0 (.pointer (some ⟨b,0,none⟩)) rfl;have RX:=zW (fun(u:lH w)=>gA (X.step u.below) 16 O zLA hc);clear X hc O;go_enter Tryz.func113,Tryz.ntmps113;refine lK (C:=fun w'=>∃u:lH w,w'=u.w) 16 [([0,1,2,3,4,5,6,7,8,9,10,11],12,false),([],13,false)] [14,15] [] zLE zLE ?_ ?_ ⟨⟨w.drew,(zB _ _).drew⟩,rfl⟩ ?_
 ·exact zMO
 ·exact zMA
 intro wd hwd;clear hwd;refine vF zLC zLU ?_;iterate 10 (go_big_quiet_step (fail))
 refine lV (o:=568) eO SB.out zL1 rfl (.tmp 11) rfl zLP ?_;rw[eQ];simp only[Act.put,zQ,zZ,zJ];iterate 1 (go_big_quiet_step (fail))
 refine zY ?_;refine vT rfl ?_;intro w4 g4 C4 K hK;obtain⟨u4,rfl⟩:=C4;refine uM (g:=133) (caps:=#[]) (args:=#[.pointer (some ⟨rb,0,none⟩),.int .i64 16]) (.func 133) _ _ rfl (enters_of Tryz.func133 zLE rfl) rfl zLP ?_;exact zN3
theorem zXT(X:XR base lg b m g rb v a ⟨op,x,y,n,nn,ad,ln⟩ q pc f w)(O:OkA a)(hx:x<16)(hb:base≤w.heap.size)(hg:lg.n≤950)(hc:chk a.i (x+1:Nat) q.fa=0):Calls Tryz.prog 98 #[.pointer (some ⟨rb,0,none⟩)] w (Did base (lg+1) b m g rb v ⟨op,x,y,n,nn,ad,ln⟩ q w ((if q.ki=true then{a with M:=put a.M a.i (nP a.v (x+1))}else{a with M:=put a.M a.i (nP a.v (x+1)),i:=(a.i+((x+1:Nat):Int))%65536})) (pc) (f)):=by
 obtain⟨k,hk⟩:∃k,x+1=k:=⟨_,rfl⟩;rw[hk]at hc⊢;have wr:IntKind.i64.wrap ((x:Int)+1)=(k:Int):=by rw[qQ];omega
 have k16:k≤16:=zLS;obtain⟨Z,hZ⟩:∃Z,(if q.ki=true then{a with M:=put a.M a.i (nP a.v k)}else{a with M:=put a.M a.i (nP a.v k),i:=(a.i+(k:Int))%65536})=Z:=⟨_,rfl⟩;rw[hZ];have HZ:=zW hZ;clear hZ;have cut:=fun w=>cutV b k k16 w;have D:=zW (DD.refl X);have r0:w.cell? ⟨rb,0,none⟩=some (.pointer (some ⟨b,0,none⟩)):=(X.r.cell 0).trans rfl;have r2:w.cell? ⟨rb,2,none⟩=some (.int .i64 (x:Int)):=(X.r.cell 2).trans rfl;have RG:=zW (fun w=>vZ x hx w);have WR:=zW (QT X (some ⟨b,0,none⟩) k 16 (nP a.v k) O hb hg zLS zLS k16 (dT _ _) (ZP X.rc.st k k16) (fun ad e=>by cases e;exact X.rc.ne.1) hc);have K3:=zW (show(k:Int)≤300 by omega);have O2:=zW (GE (i:=a.i) O (b:=nP a.v k) (fun c hc=>by unfold nP at hc;simp only[jV,jM]at hc;obtain⟨j,hj,rfl⟩:=hc;have:=O.v j zLS;omega));clear X O hx hb hg hc hk;go_enter Tryz.func98,Tryz.ntmps98;go_wp2_with fail;refine(RG.out _).mono ?_;rintro e w1 ⟨rfl,rfl⟩;go_wp2_with fail;refine WR.out.mono ?_;rintro e w2 ⟨rfl,v2,D2h⟩;have D:=zW D2h;clear D2h r0 r2;go_wp2_with fail;refine(GF D.out.x (k:Int) O2.out (qM k) K3.out).mono ?_;rintro e w3 ⟨rfl,v3,D3h⟩;have D:=zW (D.out.then D3h);clear D3h;go_wp2_with fail;go_end0
 exact⟨rfl,v3,HZ.out▸D.out⟩
theorem VK(X:XR base lg b m g rb v a ⟨op,x,y,n,nn,ad,ln⟩ q pc f w)(O:OkA a)(hx:x<16)(hc:chk a.i (x+1:Nat) q.fa≠0):Calls Tryz.prog 98 #[.pointer (some ⟨rb,0,none⟩)] w (pK 4 w):=by
 obtain⟨k,hk⟩:∃k,x+1=k:=⟨_,rfl⟩;rw[hk]at hc;have wr:IntKind.i64.wrap ((x:Int)+1)=(k:Int):=by rw[qQ];omega
 have k16:k≤16:=zLS;have cut:=fun w=>cutV b k k16 w;have r0:w.cell? ⟨rb,0,none⟩=some (.pointer (some ⟨b,0,none⟩)):=(X.r.cell 0).trans rfl;have r2:w.cell? ⟨rb,2,none⟩=some (.int .i64 (x:Int)):=(X.r.cell 2).trans rfl;have RG:=zW (fun w=>vZ x hx w);have WR:=zW (dJ X (some ⟨b,0,none⟩) k 16 O zLS hc);clear X O hx hc hk;go_enter Tryz.func98,Tryz.ntmps98;go_wp2_with fail;refine(RG.out _).mono ?_;rintro e w1 ⟨rfl,rfl⟩;go_wp2_with fail;refine WR.out.mono ?_;rintro e w2 ⟨rfl,b2⟩;exact⟨rfl,rfl,b2⟩
theorem load19(X:XR base lg b m g rb v a ⟨op,x,y,n,nn,ad,ln⟩ q pc f w)(O:OkA a)(hx:x<16)(hc:chk a.i (x+1:Nat) q.fa=0):Calls Tryz.prog 99 #[.pointer (some ⟨rb,0,none⟩)] w (Did base lg b m g rb v ⟨op,x,y,n,nn,ad,ln⟩ q w ((if q.ki=true then{a with v:=ldN a.v (upL 0 (x+1)) (byC a.M a.i) (x+1)}else{a with v:=ldN a.v (upL 0 (x+1)) (byC a.M a.i) (x+1),i:=(a.i+((x+1:Nat):Int))%65536})) (pc) (f)):=by
 obtain⟨k,hk⟩:∃k,x+1=k:=⟨_,rfl⟩;rw[hk]at hc⊢;have wr:IntKind.i64.wrap ((x:Int)+1)=(k:Int):=by rw[qQ];omega
 have k16:k≤16:=zLS;obtain⟨Z,hZ⟩:∃Z,(if q.ki=true then{a with v:=ldN a.v (upL 0 k) (byC a.M a.i) k}else{a with v:=ldN a.v (upL 0 k) (byC a.M a.i) k,i:=(a.i+(k:Int))%65536})=Z:=⟨_,rfl⟩;rw[hZ];have HZ:=zW hZ;clear hZ;have cut:=fun w=>zZ7 b 0 w;have D:=zW (DD.refl X);have r0:w.cell? ⟨rb,0,none⟩=some (.pointer (some ⟨b,0,none⟩)):=(X.r.cell 0).trans rfl;have r2:w.cell? ⟨rb,2,none⟩=some (.int .i64 (x:Int)):=(X.r.cell 2).trans rfl;have q0:=X.rk 0 (.pointer (some ⟨b,0,none⟩)) rfl;have RG:=zW (fun w=>vZ x hx w);have RX:=zW (fun(u:lH w)=>JB (X.step u.below) k O zLS hc);have K3:=zW (show(k:Int)≤300 by omega);have TB:=zW (JV O.B O.M a.i k);have O2:=zW (ZK O (WD O.v (upL 0 k) (byC a.M a.i) (fun j=>by have:=R9 O.B a.i j;omega) k));clear X O hx hc hk;go_enter Tryz.func99,Tryz.ntmps99;go_wp2_with fail;refine(RG.out _).mono ?_;rintro e w1 ⟨rfl,rfl⟩;go_upto_region 1 with fail;clear r0 r2;refine lK (C:=fun w'=>∃u:lH w,w'=u.w) 10 [([0,1,2,3,4,5,6,7,8],9,false)] [] [] zLE zLE ?_ ?_ ⟨⟨w.drew,(zB _ _).drew⟩,rfl⟩ ?_
 ·exact zMO
 ·exact zMA
 intro wd hwd;clear hwd;refine vF zLC zLU ?_;iterate 9 (go_big_quiet_step (fail))
 refine zY ?_;refine vT rfl ?_;intro w4 g4 C4 K hK;obtain⟨u4,rfl⟩:=C4;refine lE (g:=133) (caps:=#[]) (args:=#[.pointer (some ⟨rb,0,none⟩),.int .i64 (k:Int)]) (.func 133) _ _ rfl (enters_of Tryz.func133 zLE rfl) rfl zLP ?_;refine(RX.out u4).mono ?_;rintro e w6 ⟨gg,rfl,hg,hR,b6⟩;have B6:=zW (u4.below.trans (b6.mono u4.below.size));have R6:=zW hR;clear hR b6 hg g4;refine⟨_,rfl,?_⟩;refine hK _ _ ⟨⟨w6,B6.out⟩,rfl⟩ ?_;clear hK K;simp only[Act.put,zQ,zZ,zJ];refine lR zLC zLU ?_;refine zY ?_;refine lT rfl ?_;intro w5 g5 C5 K hK;obtain⟨u5,rfl⟩:=C5;have D5:=zW (D.out.step u5.below);obtain⟨w7,hrun,hw7,hap⟩:=vO 3 b 0 16 16 (some ⟨b,0,none⟩) (fun _=>rfl) (some ⟨gg,0,none⟩) k k k zLS (seg a.M a.i k) (vI _ _ _) (R6.out.below g5) (stC a m g).toList 70 D5.out.x.rc.st (by rw[Array.length_toList,lG];omega);refine vH (.tmp 16) (.tmp 19) rfl 3 rfl (.slice (some ⟨b,0,none⟩) 16 16) (.slice (some ⟨gg,0,none⟩) k k) (.int .i64 ((k:Nat):Int)) zLP zLP hrun 20 rfl ?_;rw[MY a m g _ (byC a.M a.i) k (vI _ _ _) k16 TB.out]at hw7;have D:=zW (YQ (a':={a with v:=ldN a.v (upL 0 k) (byC a.M a.i) k}) D5.out hw7 hap rfl rfl rfl D5.out.x.rc.res);clear hrun hw7 hap D5;refine hK _ _ ?_;clear hK K;simp only[Act.put,zQ,zZ,zJ];try simp only[kC,zX,zK,zV]
 refine zY ?_;intro w8 g8;have D:=zW (D.out.step g8);clear g8 g5;clear q0 R6 B6;go_wp2_with fail;refine(GF D.out.x (k:Int) O2.out (qM k) K3.out).mono ?_;rintro e w9 ⟨rfl,v3,D3h⟩;have D:=zW (D.out.then D3h);clear D3h;go_wp2_with fail;go_end0
 exact⟨rfl,v3,HZ.out▸D.out⟩
theorem FU(X:XR base lg b m g rb v a ⟨op,x,y,n,nn,ad,ln⟩ q pc f w)(O:OkA a)(hx:x<16)(hc:chk a.i (x+1:Nat) q.fa≠0):Calls Tryz.prog 99 #[.pointer (some ⟨rb,0,none⟩)] w (pK 4 w):=by
 obtain⟨k,hk⟩:∃k,x+1=k:=⟨_,rfl⟩;rw[hk]at hc;have wr:IntKind.i64.wrap ((x:Int)+1)=(k:Int):=by rw[qQ];omega
 have k16:k≤16:=zLS;have cut:=fun w=>zZ7 b 0 w;have r0:w.cell? ⟨rb,0,none⟩=some (.pointer (some ⟨b,0,none⟩)):=(X.r.cell 0).trans rfl;have r2:w.cell? ⟨rb,2,none⟩=some (.int .i64 (x:Int)):=(X.r.cell 2).trans rfl;have q0:=X.rk 0 (.pointer (some ⟨b,0,none⟩)) rfl;have RG:=zW (fun w=>vZ x hx w);have RX:=zW (fun(u:lH w)=>gA (X.step u.below) k O zLS hc);clear X O hx hc hk;go_enter Tryz.func99,Tryz.ntmps99;go_wp2_with fail;refine(RG.out _).mono ?_;rintro e w1 ⟨rfl,rfl⟩;go_upto_region 1 with fail;clear r0 r2;refine lK (C:=fun w'=>∃u:lH w,w'=u.w) 10 [([0,1,2,3,4,5,6,7,8],9,false)] [] [] zLE zLE ?_ ?_ ⟨⟨w.drew,(zB _ _).drew⟩,rfl⟩ ?_
 ·exact zMO
 ·exact zMA
 intro wd hwd;clear hwd;refine vF zLC zLU ?_;iterate 9 (go_big_quiet_step (fail))
 refine zY ?_;refine vT rfl ?_;intro w4 g4 C4 K hK;obtain⟨u4,rfl⟩:=C4;refine uM (g:=133) (caps:=#[]) (args:=#[.pointer (some ⟨rb,0,none⟩),.int .i64 (k:Int)]) (.func 133) _ _ rfl (enters_of Tryz.func133 zLE rfl) rfl zLP ?_;exact zN3
theorem AC(X:XR base lg b m g rb v a ⟨op,x,y,n,nn,ad,ln⟩ q pc f w)(O:OkA a)(hx:x<16)(hb:base≤w.heap.size)(hg:lg.n≤950)(hc:chk a.i 3 q.fa=0):Calls Tryz.prog 97 #[.pointer (some ⟨rb,0,none⟩)] w (Did base (lg+1) b m g rb v ⟨op,x,y,n,nn,ad,ln⟩ q w ({a with M:=put a.M a.i (J8 (a.v x))}) (pc) (f)):=by
 have XX:=zW X;have HX:=zW hx;have DIh:=zW (fun w=>aX.dg (a.v x) w (O.v x hx));have OO:=zW O;have cut:=fun p w=>cut3 p w;have HB:=zW (zM hb (zM hg hc));clear X O hx hb hg hc;go_enter Tryz.func97,Tryz.ntmps97;go_wp2_with fail;refine(sK XX.out HX.out).mono ?_;rintro e w1 ⟨rfl,b1⟩;have D:=zW ((DD.refl XX.out).step b1);have BW:=zW b1;clear b1;have cv:=D.out.x.vc HX.out;go_wp2_with fail;refine(DIh.out _).mono ?_;rintro e w2 ⟨rfl,b2⟩;have D:=zW (D.out.step b2);have BW:=zW (BW.out.trans (b2.mono BW.out.size));clear b2 cv;simp only[];go_at_K
 iterate 1 go_step
 refine mT (ds:=d3 (a.v x)) zLB IS rfl rfl (zZ6 _) rfl rfl rfl (.tmp 2) (.tmp 7) rfl zLP zLP ?_;simp only[Act.put,zQ,zZ,zJ];have G:=zW (Blk.new w2 222 (d3 (a.v x)));have b3:=lW w2 (.cells (d3 (a.v x)) 222);have D:=zW (D.out.step b3);have BW:=zW (BW.out.trans (b3.mono BW.out.size));clear b3;obtain⟨gs,hgs⟩:∃gs,w2.heap.size=gs:=⟨_,rfl⟩;rw[hgs]at G⊢;generalize World.alloc w2 _=w8 at*;clear hgs;go_wp2_with fail;refine(QT D.out.x (some ⟨gs,0,none⟩) 3 3 (J8 (a.v x)) OO.out (zR HB.out.1 BW.out.size) HB.out.2.1 zLA zLA zLA rfl (dig_rd G.out) (fun ad e=>by cases e;exact DM G.out D.out.x.rc.mem zLA) HB.out.2.2).mono ?_;rintro e w9 ⟨rfl,v9,D9⟩;have D:=zW (D.out.then D9);clear D9;go_wp2_with fail;go_end0
 exact⟨rfl,v9,D.out⟩
theorem KQ(X:XR base lg b m g rb v a ⟨op,x,y,n,nn,ad,ln⟩ q pc f w)(O:OkA a)(hx:x<16)(hc:chk a.i 3 q.fa≠0):Calls Tryz.prog 97 #[.pointer (some ⟨rb,0,none⟩)] w (pK 4 w):=by
 have XX:=zW X;have HX:=zW hx;have DIh:=zW (fun w=>aX.dg (a.v x) w (O.v x hx));have OO:=zW O;have cut:=fun p w=>cut3 p w;have HB:=zW hc;clear X O hx hc;go_enter Tryz.func97,Tryz.ntmps97;go_wp2_with fail;refine(sK XX.out HX.out).mono ?_;rintro e w1 ⟨rfl,b1⟩;have D:=zW ((DD.refl XX.out).step b1);have BW:=zW b1;clear b1;have cv:=D.out.x.vc HX.out;go_wp2_with fail;refine(DIh.out _).mono ?_;rintro e w2 ⟨rfl,b2⟩;have D:=zW (D.out.step b2);have BW:=zW (BW.out.trans (b2.mono BW.out.size));clear b2 cv;simp only[];go_at_K
 iterate 1 go_step
 refine mT (ds:=d3 (a.v x)) zLB IS rfl rfl (zZ6 _) rfl rfl rfl (.tmp 2) (.tmp 7) rfl zLP zLP ?_;simp only[Act.put,zQ,zZ,zJ];have G:=zW (Blk.new w2 222 (d3 (a.v x)));have b3:=lW w2 (.cells (d3 (a.v x)) 222);have D:=zW (D.out.step b3);have BW:=zW (BW.out.trans (b3.mono BW.out.size));clear b3;obtain⟨gs,hgs⟩:∃gs,w2.heap.size=gs:=⟨_,rfl⟩;rw[hgs]at G⊢;generalize World.alloc w2 _=w8 at*;clear hgs;go_wp2_with fail;refine(dJ D.out.x (some ⟨gs,0,none⟩) 3 3 OO.out zLA HB.out).mono ?_;rintro e w9 ⟨rfl,b9⟩;exact⟨rfl,rfl,BW.out.trans (b9.mono BW.out.size)⟩
end
end
end Go.Proofs.YthknmadinmigfaaGreatDoor
