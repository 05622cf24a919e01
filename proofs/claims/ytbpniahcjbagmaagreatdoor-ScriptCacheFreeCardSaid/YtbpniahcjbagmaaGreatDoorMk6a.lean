/- FrmLawK, FrmFew, SptNum, SptRcs, SptRun1, SptCol, SptRun, SptEq. -/
import Derived.Test.YtbpniahcjbagmaaGreatDoorMFrmAwake
import Derived.Test.YtbpniahcjbagmaaGreatDoorMk1c
set_option maxRecDepth 400000
set_option maxHeartbeats 64000000
set_option linter.unusedVariables false
set_option linter.unusedSimpArgs false
namespace Go.Proofs.YtbpniahcjbagmaaGreatDoor
section
open Go.RowKit Num Dec Cpu
section
variable {ops:Array Oper} {C:World→Prop} {Q:Act→Prop} {o:Oper} {rest:List Oper} {ac:Act}
end
theorem zK1(N:Nat):∀(k:Nat) (s:mR) (a:AS),s.ex≤(frN N k s a).1.ex∧(frN N k s a).1.ex≤s.ex+(k:Int)
 |0,s,a=>⟨Int.le_refl _,by show s.ex≤s.ex+0;omega⟩
 |k+1,s,a=>by
  have h1:=CU s a;have h2:=zK1 N k (nmM s a) (yI N s a);unfold frN;split
  ·simp only;omega
  ·split
   ·simp only;omega
   ·omega
theorem GP{s:mR}{a:AS}{e:Ev}(h:s.k≠1):uE s a e=s:=by
 unfold uE;rw[zL];intro c;unfold rlM at c;simp at c;omega
theorem ky_k(l:List Ev):∀(x:mR×AS),2≤x.1.k→(kyN l x).1=x.1:=by
 induction l with
 |nil=>intro x _;rfl
 |cons e l ih=>
  intro x h
  show(kyN l (uE x.1 x.2 e,wZ x.1 x.2 e)).1=x.1
  have h0:uE x.1 x.2 e=x.1:=GP zGX
  rw[ih _ (by show 2≤(uE x.1 x.2 e).k;rw[h0];exact h)]
  exact h0
theorem ky_exl(l:List Ev):∀(x:mR×AS),(kyN l x).1.ex=x.1.ex:=by
 induction l with
 |nil=>intro x;rfl
 |cons e l ih=>
  intro x
  show(kyN l (uE x.1 x.2 e,wZ x.1 x.2 e)).1.ex=x.1.ex
  rw[ih]
  exact zH2 x.1 x.2 e
theorem ky_len(l:List Ev):∀(x:mR×AS),(kyN l x).2.ks.length=x.2.ks.length+l.length:=by
 induction l with
 |nil=>intro x;rfl
 |cons e l ih=>
  intro x
  show(kyN l (uE x.1 x.2 e,wZ x.1 x.2 e)).2.ks.length=_
  rw[ih]
  have:=zH1 x.1 x.2 e
  simp only[List.length_cons]
  omega
theorem zK0(N:Nat):∀(k:Nat) (s:mR) (a:AS),(frN N k s a).2.ks=a.ks
 |0,s,a=>rfl
 |k+1,s,a=>by
  unfold frN;split
  ·rfl
  ·split
   ·exact CW N s a
   ·exact(zK0 N k _ _).trans (CW N s a)
def frB(N nn:Nat)(e:List Ev)(x:mR×AS):mR×AS:=frN N nn (kyN e x).1 (kyN e x).2
def frR(N nn:Nat)(e:List Ev)(x:mR×AS):cE:=xI (frB N nn e x).1 (frB N nn e x).2
def frE(N nn:Nat)(e:List Ev)(x:mR×AS):mR×AS:=((frB N nn e x).1,rU (frB N nn e x).2)
def rC(N nn:Nat):List (List Ev)→mR×AS→List cE
 |[],_=>[]
 |e::l,x=>frR N nn e x::rC N nn l (frE N nn e x)
def tG(N nn:Nat):List (List Ev)→mR×AS→mR×AS
 |[],x=>x
 |e::l,x=>tG N nn l (frE N nn e x)
theorem wR(N nn:Nat):∀(l:List (List Ev)) (x:mR×AS),(rC N nn l x).length=l.length
 |[],_=>rfl
 |e::l,x=>by show(rC N nn l _).length+1=_;rw[wR N nn l];rfl
theorem oB(N nn:Nat)(m:List (List Ev)):∀(l:List (List Ev)) (x:mR×AS),rC N nn (l++m) x=rC N nn l x++rC N nn m (tG N nn l x)
 |[],_=>rfl
 |e::l,x=>by show frR N nn e x::rC N nn (l++m) _=_;rw[oB N nn m l];rfl
theorem WF(N nn:Nat)(m:List (List Ev)):∀(l:List (List Ev)) (x:mR×AS),tG N nn (l++m) x=tG N nn m (tG N nn l x)
 |[],_=>rfl
 |e::l,x=>by show tG N nn (l++m) _=_;rw[WF N nn m l];rfl
theorem sH{α:Type _}{l:List α}{k:Nat}{e:α}(h:l[k]?=some e):l.take (k+1)=l.take k++[e]:=by
 rw[List.take_add_one,h];rfl
theorem UU(N nn:Nat){l:List (List Ev)}{k:Nat}{e:List Ev}(h:l[k]?=some e)(x:mR×AS):rC N nn (l.take (k+1)) x=rC N nn (l.take k) x++[frR N nn e (tG N nn (l.take k) x)]:=by
 rw[sH h,oB];rfl
theorem zQM(N nn:Nat){l:List (List Ev)}{k:Nat}{e:List Ev}(h:l[k]?=some e)(x:mR×AS):tG N nn (l.take (k+1)) x=frE N nn e (tG N nn (l.take k) x):=by
 rw[sH h,WF];rfl
theorem UA(N nn:Nat)(l:List (List Ev))(x:mR×AS)(k:Nat)(hk:k≤l.length):rC N nn (l.take k) x=(rC N nn l x).take k:=by
 have h:=oB N nn (l.drop k) (l.take k) x;rw[List.take_append_drop]at h;rw[h,List.take_append_of_le_length (by rw[wR,qX];omega)];exact(qV (by rw[wR,qX];omega)).symm
theorem frE_ex(N nn:Nat)(e:List Ev)(x:mR×AS):x.1.ex≤(frE N nn e x).1.ex∧(frE N nn e x).1.ex≤x.1.ex+(nn:Int)∧(frE N nn e x).2.ks.length=x.2.ks.length+e.length:=by
 have h1:=zK1 N nn (kyN e x).1 (kyN e x).2;rw[ky_exl e x]at h1;refine⟨h1.1,h1.2,?_⟩;show(frN N nn (kyN e x).1 (kyN e x).2).2.ks.length=_;rw[zK0,ky_len]
theorem IZ(N nn:Nat):∀(l:List (List Ev)) (x:mR×AS),x.1.ex≤(tG N nn l x).1.ex∧(tG N nn l x).1.ex≤x.1.ex+((l.length*nn:Nat):Int)∧(tG N nn l x).2.ks.length=x.2.ks.length+(l.map List.length).sum
 |[],x=>⟨Int.le_refl _,by simp[tG],by simp[tG]⟩
 |e::l,x=>by
  have h1:=frE_ex N nn e x;have h2:=IZ N nn l (frE N nn e x);show x.1.ex≤(tG N nn l (frE N nn e x)).1.ex∧(tG N nn l (frE N nn e x)).1.ex≤_∧(tG N nn l (frE N nn e x)).2.ks.length=_;have h3:(((e::l).length*nn:Nat):Int)=((l.length*nn:Nat):Int)+(nn:Int):=by
   rw[List.length_cons,Nat.add_mul,Nat.one_mul];exact Int.natCast_add _ _
  rw[h3,List.map_cons,List.sum_cons];omega
def zJZ(r r':cE):Prop:=r'.k=r.k∧r'.c=r.c∧r'.p=r.p∧r'.y=r.y∧r'.P=r.P∧r'.hi=r.hi
theorem zKN:∀(l:List Ev) (x:mR×AS),(kyN l x).2.F=x.2.F∧(kyN l x).2.hi=x.2.hi
 |[],x=>⟨rfl,rfl⟩
 |e::l,x=>zKN l (uE x.1 x.2 e,wZ x.1 x.2 e)
theorem zK2(N nn:Nat)(e:List Ev){x:mR×AS}(h:2≤x.1.k):(frB N nn e x).1=x.1∧(frB N nn e x).2.F=x.2.F∧(frB N nn e x).2.hi=x.2.hi:=by
 have h1:=ky_k e x h;have h2:=zKN e x;unfold frB;rw[pV N nn _ (by rw[h1];omega),h1];exact⟨rfl,h2⟩
theorem JH(N nn:Nat)(s:mR)(hk:2≤s.k)(F:Nat→Nat→Bool)(hi:Bool):∀(l:List (List Ev)) (x:mR×AS),x.1=s→x.2.F=F→x.2.hi=hi→∀r∈rC N nn l x,r.k=s.k∧r.c=s.c∧r.p=s.p∧r.y=s.y∧r.P=(fun i=>fwd (F i))∧r.hi=hi
 |[],x,_,_,_,r,hr=>by cases hr
 |e::l,x,h1,h2,h3,r,hr=>by
  obtain⟨e1,e2,e3⟩:=zK2 N nn e (x:=x) (by rw[h1];exact hk);rcases List.mem_cons.1 hr with rfl|hr
  ·unfold frR xI;rw[e1,h1];refine⟨rfl,rfl,rfl,rfl,?_,?_⟩
   ·show(fun i=>fwd ((frB N nn e x).2.F i))=_;rw[e2,h2]
   ·show(frB N nn e x).2.hi=_;rw[e3,h3]
  ·exact JH N nn s hk F hi l (frE N nn e x) (e1.trans h1) (e2.trans h2) (e3.trans h3) r hr
theorem oG(N nn:Nat):∀(l:List (List Ev)) (x:mR×AS) (i j:Nat) (r r':cE),(rC N nn l x)[i]?=some r→(rC N nn l x)[j]?=some r'→i≤j→2≤r.k→zJZ r r'
 |[],x,i,j,r,r',h,_,_,_=>by cases h
 |e::l,x,i+1,j,r,r',h,h',hj,hk=>by
  obtain⟨j,rfl⟩:∃m,j=m+1:=⟨j-1,by omega⟩;exact oG N nn l (frE N nn e x) i j r r' h h' zGX hk
 |e::l,x,0,j,r,r',h,h',hj,hk=>by
  have hr:frR N nn e x=r:=jZ h;have hk2:2≤(frB N nn e x).1.k:=by rw[←hr]at hk;exact hk
  cases j with
  |zero=>
   have hr':frR N nn e x=r':=jZ h'
   rw[←hr,←hr']
   exact⟨rfl,rfl,rfl,rfl,rfl,rfl⟩
  |succ j=>
   have h2:=JH N nn (frB N nn e x).1 hk2 (frB N nn e x).2.F (frB N nn e x).2.hi l (frE N nn e x) rfl rfl rfl r' (List.mem_of_getElem? h')
   rw[←hr]
   exact h2
theorem ky_run(l:List Ev):∀(x:mR×AS),x.1.k=0→(kyN l x).1=x.1∧(kyN l x).2.F=x.2.F∧(kyN l x).2.hi=x.2.hi∧(kyN l x).2.sd=x.2.sd∧(kyN l x).2.P=x.2.P∧(kyN l x).2.pt=x.2.pt:=by
 induction l with
 |nil=>intro x _;exact⟨rfl,rfl,rfl,rfl,rfl,rfl⟩
 |cons e l ih=>
  intro x h
  show(kyN l (uE x.1 x.2 e,wZ x.1 x.2 e)).1=_∧_
  have h0:uE x.1 x.2 e=x.1:=GP zGX
  have h1:=ih (uE x.1 x.2 e,wZ x.1 x.2 e) (by show(uE x.1 x.2 e).k=0;rw[h0];exact h)
  exact⟨h1.1.trans h0,h1.2.1,h1.2.2.1,h1.2.2.2.1,h1.2.2.2.2.1,h1.2.2.2.2.2⟩
def zLI:cE:=⟨fun _=>fwd fun _=>false,false,false,fun j=>(xB mM).getD j 0,64,0,0,0,0⟩
theorem JN(N:Nat):∀(l:List (List Ev)) (x:mR×AS),x.1.k=0∧x.1.c=0∧x.1.p=0∧x.1.y=0→x.2.F=(fun _ _=>false)→x.2.hi=false→x.2.sd=0→x.2.P=xB mM→x.2.pt=64→∀r∈rC N 0 l x,r=zLI
 |[],x,_,_,_,_,_,_,r,hr=>by cases hr
 |e::l,x,h0,h1,h2,h3,h4,h5,r,hr=>by
  obtain⟨e0,e1,e2,e3,e4,e5⟩:=ky_run e x h0.1;rcases List.mem_cons.1 hr with rfl|hr
  ·show xI (kyN e x).1 (kyN e x).2=_;unfold xI zLI scA ptA;rw[e0,e1,e2,e3,e4,e5,h0.1,h0.2.1,h0.2.2.1,h0.2.2.2,h1,h2,h3,h4,h5];rfl
  ·refine JN N l (frE N 0 e x) ?_ (e1.trans h1) (e2.trans h2) ?_ (e4.trans h4) (e5.trans h5) r hr
   ·show(kyN e x).1.k=0∧(kyN e x).1.c=0∧(kyN e x).1.p=0∧(kyN e x).1.y=0;rw[e0];exact h0
   ·show(kyN e x).2.sd-1=0;rw[e3,h3]
theorem zL9:fwd (fun _=>false)=fun _=>0#128:=funext fun y=>gV fun x hx=>by rw[yP _ _ _ hx,wO]
theorem zLF(j:Nat):(xB mM).getD j 0=0:=by
 unfold xB mM;rw[qJ,jX];cases (List.range 16)[j]?<;>rfl
theorem zLU:zLI={vM with pt:=64}:=by
 unfold zLI;rw[zL9,show(fun j=>(xB mM).getD j 0)=fun _=>0 from funext zLF];rfl
def bN:List cE→List Value
 |[]=>[]
 |r::l=>(nQ r).toList++bN l
theorem VQ(r:cE):(nQ r).toList.length=535:=by rw[Array.length_toList,mU]
theorem oH(r:cE):∀l:List cE,bN (l++[r])=bN l++(nQ r).toList
 |[]=>by show(nQ r).toList++[]=[]++_;rw[kK,List.nil_append]
 |q::l=>by show(nQ q).toList++bN (l++[r])=((nQ q).toList++bN l)++_;rw[oH r l,kJ]
theorem JM:∀(l:List cE) (i:Nat) (h:i<l.length) (j:Nat) (v:Value),(nQ l[i]).toList[j]?=some v→(bN l)[i*535+j]?=some v
 |r::l,0,h,j,v,hv=>by
  replace hv:(nQ r).toList[j]?=some v:=hv;have hj:=(jP.1 hv).1;show((nQ r).toList++bN l)[0*535+j]?=_;rw[Nat.zero_mul,qL,qF hj];exact hv
 |r::l,i+1,h,j,v,hv=>by
  show((nQ r).toList++bN l)[(i+1)*535+j]?=_;rw[qE (by rw[VQ];omega),VQ,show(i+1)*535+j-535=i*535+j by omega];exact JM l i (by simpa using h) j v hv
theorem zJ8(r:cE):∀u∈(nQ r).toList,u.oneCell'=true:=by
 have h:=uW r;unfold n8 at h;rw[qC]at h;exact fun u hu=>h u (Array.mem_toList_iff.1 hu)
structure Rcs(g:Nat)(l:List cE)(w:World):Prop where
 lt:g<w.heap.size
 at_:∀i (h:i<l.length),w.rangeAt g (i*535) (nQ l[i]).toList
theorem Rcs.step{g:Nat}{l:List cE}{w w':World}(h:Rcs g l w)(hb:Below w.heap.size w w'):Rcs g l w':=
 ⟨zD h.lt hb.size,fun i hi j v hv=>(hb.cell (p:=⟨g,i*535+j,none⟩) h.lt).trans (h.at_ i hi j v hv)⟩
theorem Rcs.row{g b:Nat}{l:List cE}{w:World}(h:Rcs g l w)(hg:g≠b)(ds:Array Value):Rcs g l (w.setRow b ds):=
 ⟨by simpa [World.setRow]using h.lt,fun i hi j v hv=>(qU (a:=⟨g,i*535+j,none⟩) (qQ w b g ds hg)).trans (h.at_ i hi j v hv)⟩
theorem Rcs.of_own{w:World}{base g c:Nat}{l:List cE}(h:w.ownsRow base 45 535 (.slice (some ⟨g,0,none⟩) l.length c) l.length (bN l)):Rcs g l w:=by
 rcases h.2 with⟨e,_⟩|⟨g',cap,cur,e,hg,hb,hc,hm,hs,ht⟩
 ·cases e
 ·injection e with e1 e2 e3
  injection e1 with e1
  injection e1 with e1
  subst e1;refine⟨(qM.1 hb).1,fun i hi j v hv=>?_⟩;have h1:=JM l i hi j v hv;rw[←ht,List.getElem?_take]at h1;rw[jO _ _ _ _ _ _ hb];split at h1
  ·simpa using h1
  ·cases h1
end
section
open Go.RowKit Go.Shelf Num Dec Cpu
theorem zJC(N:Nat)(CS:vR N)(E0:uP N){base:Nat}{O:Nat→Prop}{mb n:Nat}{s:mR}{a:AS}{w:World}(H:Mch base O mb n s a w)(L:cQ w)(hB:1<base){bm bs:Nat}{sp:Sp}(hm:Blk bm 29 #[.pointer (some ⟨mb,0,none⟩)] w)(hs:Blk bs 57 (spC sp) w)(EA:Option Addr)(ne ce:Nat)(l:List Ev)(HE:Evs w EA ne l)(hEO:∀ad,EA=some ad→0<ne→¬O ad.block)(hne:ne≤100)(nn:Nat)(hc:sp.cy=(nn:Int))(hnn:nn≤65535)(hx:s.ex+(nn:Int)≤90000)(hn:n+nn≤90000)(hks:a.ks.length+ne<1000):
  Calls Tryz.prog 31 #[.slice EA ne ce,.pointer (some ⟨bm,0,none⟩),.pointer (some ⟨bs,0,none⟩)] w fun e w'=>e=.returned (.tuple #[.agg (nQ (frR N nn l (s,a))),.int .i64 0])∧∃O',Mch base O' mb (n+nn) (frE N nn l (s,a)).1 (frE N nn l (s,a)).2 w'∧lS O w w'∧vK O O' w.heap.size:=by
 have HX:=zW H;have OLT:=zW (fun j (h:O j)=>(H.blt j h).2);have RN:=zW (fun u (b:Below w.heap.size w u)=>UB N CS E0 (H.step b) (L.step b) hB EA ne ce l (HE.step b) hEO hne nn hnn hx hn hks);have k0:w.cell? ⟨bm,0,none⟩=some (.pointer (some ⟨mb,0,none⟩)):=(hm.cell 0).trans rfl;have k1:w.cell? ⟨bs,10,none⟩=some (.int .i64 (nn:Int)):=(hs.cell 10).trans (by rw[←hc];rfl);have HM:=zW (zM k0 hm.lt);have HS:=zW (zM k1 hs.lt);clear H CS E0 L hB hm hs HE hEO hne hc hx hn hks k0 k1;go_enter Tryz.func31,Tryz.ntmps31;go_upto_region 0 with fail;refine zH ?_;refine qZ rfl fun K hK=>nJ wL rfl (hK _ _ ?_);clear hK K;simp only[Act.put,zQ,zZ,zJ];have RV:=zW (Blk.new w 45 (nQ vM));have BB:=zW (lV w (.cells (nQ vM) 45));obtain⟨gb,hgb⟩:∃k,w.heap.size=k:=⟨_,rfl⟩;have AT:=zW (show w.heap.size≤gb by omega);have NO:=zW (show¬O gb from fun c=>by have:=OLT.out _ c;omega);rw[hgb]at RV⊢;clear hgb;generalize World.alloc _ _=w1 at RV BB⊢;have k0:=(BB.out.cell (p:=⟨bm,0,none⟩) HM.out.2).trans HM.out.1;have k1:=(BB.out.cell (p:=⟨bs,10,none⟩) HS.out.2).trans HS.out.1;have GL:=zW RV.out.lt;go_wp2_with fail;refine(RN.out _ BB.out).mono ?_;rintro e w2 ⟨rfl,O',X,K,G⟩;have X:=zW (show Mch base O' mb (n+nn) (frE N nn l (s,a)).1 (frE N nn l (s,a)).2 w2 from X);have RV:=zW (show Blk gb 45 (nQ vM) w2 from(K.block gb RV.out.lt NO.out).trans RV.out);have KK:=zW ((lS.of_below (O:=O) BB.out).trans K fun j h=> .inl h);have GG:=zW (show vK O O' w.heap.size from fun j hj=>(G j hj).imp id fun h=>zR BB.out.size h);have NG:=zW (show¬O' gb from fun c=>(G _ c).elim NO.out fun h=>by have:=GL.out;omega);clear K G k0 k1 RN;obtain⟨C,hC⟩:∃C,nQ (frR N nn l (s,a))=C:=⟨_,rfl⟩;have CE:=zW (show C.size=535∧n8 C∧nQ (frR N nn l (s,a))=C from by rw[←hC];exact⟨mU _,uW _,rfl⟩);rw[show nQ (xI (frN N nn (kyN l (s,a)).1 (kyN l (s,a)).2).1 (frN N nn (kyN l (s,a)).1 (kyN l (s,a)).2).2)=C from hC];clear hC;simp only[];go_at_K
 iterate 7 go_step
 refine lM (ds:=C) vF RV.out (mU _) CE.out.1 CE.out.2.1 rfl (.tmp 4) (.tmp 11) rfl rfl rfl ?_;simp only[Act.put,zQ,zZ,zJ];have RW:=zW (RV.out.store C);have XW:=zW (X.out.keep (uH (b:=gb) (cs:=C)) (fun j hj e=>NG.out (e▸hj)) (fun j e=>e▸ZU RV.out zGL));have KW:=zW (KK.out.trans (uH (b:=gb) (cs:=C) (w:=w2)) fun j e=> .inr (e▸AT.out));generalize World.setRow _ _ _=wd at RW XW KW⊢;go_wp2_with fail;iterate 6 (try go_step)
 exact zP (mL rfl _ _ gb _ _ _ (.int .i64 0) rfl rfl RW.out vF CE.out.1) rfl ⟨by rw[CE.out.2.2],O',XW.out,KW.out,GG.out⟩
theorem zL0:(Tryz.prog.info? 45).map (fun i=>(i.zero,i.size))=some (some (.agg (nQ vM)),535):=by
 rw[eH];kernel_rfl
theorem zKD:∃i,Tryz.prog.info? 45=some i∧i.zero=some (.agg (nQ vM))∧i.size=535∧i.bytes≤10000:=by
 obtain⟨i,hi,hb⟩:∃i,Tryz.prog.info? 45=some i∧i.bytes≤10000:=by
  have h:(Tryz.prog.info? 45).any (fun i=>decide (i.bytes≤10000))=true:=zGV;cases hq:Tryz.prog.info? 45 with
  |none=>rw[hq]at h;cases h
  |some i=>rw[hq]at h;exact⟨i,rfl,by simpa using h⟩
 have h:=zL0;rw[hi]at h;simp only[Option.map_some,kZ,kQ]at h;exact⟨i,hi,h.1,h.2,hb⟩
theorem DT{w w':World}{g:Nat}(h:w.grownBy w' (some g)):lS (fun j=>j=g) w w':=⟨h.os,h.tape,h.output,h.size,fun k hk hn=>h.block k hk fun e=>hn (by injection e)⟩
theorem TX{w w':World}(h:w.grownBy w' none):Below w.heap.size w w':=⟨h.os,h.tape,h.output,h.size,fun k hk=>h.block k hk zGN⟩
theorem EC(w:World)(C:Array Value)(t:TypeId):∀j u,C.toList[j]?=some u→(w.alloc (.cells C t)).cell? ((⟨w.heap.size,0,none⟩:Addr).add j)=some u:=by
 intro j u hj;rw[Addr.add_mid,qL,jO _ _ _ _ _ _ (jH w _)];simpa using hj
theorem set_get(l:List Value):∀(k:Nat) (Z:Array Value) (i:Nat),k+l.length≤Z.size→((l.zipIdx k).foldl (fun(cs:Array Value) (p:Value×Nat)=>cs.setIfInBounds (0+p.2) p.1) Z)[i]?=if k≤i∧i<k+l.length then l[i-k]? else Z[i]?:=by
 induction l with
 |nil=>intro k Z i h;rw[zL zGN];rfl
 |cons v l ih=>
  intro k Z i h
  rw[List.length_cons]at h
  rw[List.zipIdx_cons,List.foldl_cons,ih (k+1) _ i zGH,List.length_cons]
  by_cases h1:k+1≤i∧i<k+1+l.length
  ·rw[zN h1,zN zGX,show i-k=(i-(k+1))+1 by omega,zK]
  ·rw[zL h1]
   by_cases h2:i=k
   ·subst h2
    rw[zN zGX,Nat.sub_self,qL,Array.getElem?_setIfInBounds_self_of_lt zGX]
    rfl
   ·rw[zL zGX,qL,Array.getElem?_setIfInBounds_ne (Ne.symm h2)]
theorem zK8(C Z:Array Value)(n:Nat)(hc:C.size=n)(hz:Z.size=n):Instr.fill (fun i=>some (i*n,n)) Z [(0,.agg C)]=some C:=by
 have h1:¬(((Value.agg C).cells.size≠n||0*n+(Value.agg C).cells.size>Z.size)=true):=by
  show¬((C.size≠n||0*n+C.size>Z.size)=true);simp[hc,hz]
 unfold Instr.fill;simp only;rw[zL h1];unfold Instr.fill;congr 1
 show C.zipIdx.foldl (fun(cs:Array Value) (p:Value×Nat)=>cs.setIfInBounds (0*n+p.2) p.1) Z=C
 rw[Nat.zero_mul,←Array.foldl_toList,Array.toList_zipIdx];apply qH
 intro i
 rw[set_get _ _ _ _ (by rw[Array.length_toList];omega)];by_cases h:i<n
 ·rw[zN (by rw[Array.length_toList];omega),Nat.sub_zero];simp
 ·rw[zL (by rw[Array.length_toList];omega),zF zGX,zF zGX]
theorem QM{P:Program}{ts t:TypeId}{C z:Array Value}{n:Nat}(hu:P.underlying ts=some (.slice t))(A:vZ P t n)(Z:nH P t z)(hz:z.size=n)(hc:C.size=n)(h0:0<n)(hn:n≤10000)(w:World):(Instr.buildSlice ts 1 #[(0,.agg C)]).run P w=.ok (.slice (some ⟨w.heap.size,0,none⟩) 1 1) (w.alloc (.cells C t)):=by
 have hu':(underlying ts).run P w=.ok (.slice t) w:=jV hu w;have hs:(sizeOf t).run P w=.ok n w:=by
  have hi:=A.i;cases hq:P.info? t with
  |none=>simp[hq]at hi
  |some i=>
   have hs:i.size=n:=zG5
   simp[sizeOf,typeInfo,hq,hs]
 have hzz:(zeroValue t).run P w=.ok (.agg z) w:=uO Z;unfold Instr.buildSlice;rw[zA,hu',Result.andThen_ok];simp only[zA,hs,Result.andThen_ok,Sem.run_pure];have g1:¬(1*n>2^24):=by
  have:(2:Nat)^24=16777216:=by decide
  omega
 have g2:¬(1*n=0):=zGX;simp only[g1,g2,if_false,zA,Sem.run_pure,Result.andThen_ok,hzz,Value.cells];rw[zK8 C _ n hc zGN];simp only[newRow,newObj,zA,Sem.run_pure,Result.andThen_ok];rfl
theorem bE{P:Program}{ops:Array Oper}{Q:Exit→Act→World→Prop}{rest:List Oper}{op:Oper}{a:Act}{w:World}{ts t:TypeId}{C z:Array Value}{n:Nat}(hu:P.underlying ts=some (.slice t))(A:vZ P t n)(Z:nH P t z)(hz:z.size=n)(hc:C.size=n)(h0:0<n)(hn:n≤10000)(hgd:op.guard=none)(x:Operand)(ho:op.op=.buildSlice ts 1 #[(0,x)])(hx:a.eval x=.agg C)
  (h:wpList P ops Q rest (a.put op.dst (.slice (some ⟨w.heap.size,0,none⟩) 1 1)) (w.alloc (.cells C t))):wpList P ops Q (op::rest) a w:=
 qZ hgd fun K hK=>by
  have e:(#[(0,x)]:Array (Nat×Operand)).map (fun(i,x)=>(i,a.eval x))=#[(0,.agg C)]:=by simp[hx]
  unfold Oper.wp execOp;simp only[ho,e,zA,QM hu A Z hz hc h0 hn,Result.andThen_ok,Sem.run_pure];exact hK _ _ h
structure Fit(l:List Fv)(nn:Nat):Prop where
 c:nn≤65535
 m:l.length≤8
 p:l.length*nn≤1000
 e:∀i (h:i<l.length),l[i].n≤20
theorem Fit.ks{l:List Fv}{nn:Nat}(F:Fit l nn){w:World}{A:Option Addr}{n c:Nat}(H:sY w A n c l):∀k,k≤l.length→(((l.map Fv.ev).take k).map List.length).sum≤20*k:=by
 intro k;induction k with
 |zero=>intro _;simp
 |succ k ih=>
  intro hk
  have h1:=ih zGX
  have hk':k<l.length:=zGX
  obtain⟨b,o,_,_,_,ok⟩:=H.at_ k hk'
  have h2:=F.e k hk'
  have h3:=ok.ev.len
  rw[sH (l:=l.map Fv.ev) (k:=k) (e:=l[k].ev) (by rw[jX,zS hk'];rfl),kY,List.sum_append]
  simp only[List.map_cons,List.map_nil,List.sum_cons,List.sum_nil]
  omega
theorem W0(N:Nat)(CS:vR N)(E0:uP N){base:Nat}{O:Nat→Prop}{mb:Nat}{s:mR}{a:AS}{w:World}(H:Mch base O mb 0 s a w)(L:cQ w)(hB:1<base){bm bs:Nat}{sp:Sp}(hm:Blk bm 29 #[.pointer (some ⟨mb,0,none⟩)] w)(hs:Blk bs 57 (spC sp) w)(nOm:¬O bm)(nOs:¬O bs)
  (G:Option Addr) (gn gc:Nat) (l:List Fv) (u:World) (hu:u.heap.size≤base) (bu:Below u.heap.size u w) (HG:sY u G gn gc l) (nn:Nat) (hc:sp.cy=(nn:Int)) (F:Fit l nn) (h0:s.ex=0) (hk0:a.ks=[]):
  Calls Tryz.prog 30 #[.slice G gn gc,.func (.func 31) #[] #[.pointer (some ⟨bm,0,none⟩),.pointer (some ⟨bs,0,none⟩)]] w fun e w'=>∃g,e=.returned (.tuple #[.slice (some ⟨g,0,none⟩) gn gn,.int .i64 0])∧w.heap.size≤g∧Rcs g (rC N nn (l.map Fv.ev) (s,a)) w'∧lS O w w':=by
 have HX:=zW H;have CC:=zW CS;have EE:=zW E0;have OB:=zW H.blt;have BS:=zW H.bs;have HM:=zW (fun v (k:lS O w v)=>(show Blk bm 29 #[.pointer (some ⟨mb,0,none⟩)] v from(k.block bm hm.lt nOm).trans hm));have HS:=zW (fun v (k:lS O w v)=>(show Blk bs 57 (spC sp) v from(k.block bs hs.lt nOs).trans hs));have FR:=zW (fun v (k:lS O w v)=>HG.step (bu.trans (k.below bu.size fun j hj=>zR hu (H.blt j hj).1)));have LL:=zW (fun v (k:lS O w v)=>L.below (k.below H.bs fun j hj=>(H.blt j hj).1) hB);have KS:=zW (F.ks HG);have FF:=zW F;have HB:=zW hB;have HC:=zW hc;have MU:=zW hu;have HGG:=zW HG;have Z:=zW (zM h0 hk0);have gl:l.length=gn:=HG.len;have g8:(gn:Int)≤8:=by have:=F.m;omega
 obtain⟨i0,hi,hz,hsz,hby⟩:=zKD;have HI:=zW (zM hi (zM hz (zM hsz hby)));obtain⟨x,hx⟩:∃x:mR×AS,(s,a)=x:=⟨_,rfl⟩;have XX:=zW (show x.1=s∧x.2=a from by rw[←hx];exact⟨rfl,rfl⟩);rw[hx];clear H CS E0 L hB hm hs nOm nOs hu bu HG hc F h0 hk0 hi hz hsz hby hx;go_enter Tryz.func30,Tryz.ntmps30;go_upto_region 1 with fail;refine zH ?_;iterate 6 go_step
 refine wpList_make_own w rfl (.const (.int .i64 0)) (.tmp 12) 59 rfl w.heap.size 45 i0 (.agg (nQ vM)) 535 Tryz.underlying59 HI.out.1 HI.out.2.1 HI.out.2.2.1 .i64 .i64 (gn:Int) gn rfl rfl rfl (zR (Nat.mul_le_mul HI.out.2.2.2 (show gn≤8 by omega)) zGL) zGD (zG _) ?_;intro w1 hown hgrow;have OW:=zW hown;have bw:=TX hgrow;have KK:=zW (show lS O w w1 from lS.of_below bw);have X:=zW (show Mch base O mb 0 x.1 x.2 w1 from by rw[XX.out.1,XX.out.2];exact HX.out.step bw);have SZ:=zW bw.size;obtain⟨g,hg⟩:∃g,w.heap.size=g:=⟨_,rfl⟩;have NG:=zW (show¬O g from fun c=>by have:=(OB.out g c).2;omega);have GW:=zW (show w.heap.size≤g from kE hg);have OW:=zW (show w1.ownsRow g 45 535 (.slice (some ⟨g,0,none⟩) 0 gn) 0 (bN [])from by have h:=OW.out;rw[hg]at h;exact h);rw[hg];clear hown hgrow bw hg;simp only[Act.put,zQ,zZ,zJ];go_wp2_with fail;go_loopw [6,16] (fun v i wr=>∃k:Nat,k≤gn∧i=.int .i64 (k:Int)∧v=.slice (some ⟨g,0,none⟩) k gn∧wr.ownsRow g 45 535 (.slice (some ⟨g,0,none⟩) k gn) k (bN (rC N nn ((l.map Fv.ev).take k) x))∧lS O w wr∧∃Ok,Mch base Ok mb (k*nn) (tG N nn ((l.map Fv.ev).take k) x).1 (tG N nn ((l.map Fv.ev).take k) x).2 wr∧¬Ok g∧(∀j,Ok j→O j∨w.heap.size≤j)) (fun _ i _=>gn-(intOf i).toNat)
 case atStart=>exact⟨0,qW _,rfl,rfl,OW.out,KK.out,O,by rw[Nat.zero_mul];exact X.out,NG.out,fun j h=> .inl h⟩
 case round=>
  clear X KK OW SZ
  obtain⟨k,hk,rfl,rfl,ho,hK,Ok,hX,hNg,hO⟩:=hrel
  have OW:=zW ho
  have KK:=zW hK
  have X:=zW hX
  have NG:=zW hNg
  have GO:=zW hO
  clear ho hK hX hNg hO
  by_cases hlt:k<gn
  ·have il:k<l.length:=zGX
   obtain⟨b,o,rfl,lt,c1,ok⟩:=(FR.out wr KK.out).at_ k il
   have EB:=zW (fun ad (h:(l[k]).A=some ad) (hp:0<(l[k]).n)=>(show ad.block<base from by
    obtain⟨b,o,_,_,_,ok⟩:=HGG.out.at_ k il;obtain⟨b',o',e',lt',_⟩:=ok.ev.at_ 0 (by rw[ok.ev.len];exact hp);rw[h]at e';injection e' with e'
    rw[e'];exact zD lt' MU.out))
   have EK:=zW (show(l.map Fv.ev)[k]?=some (l[k]).ev from by rw[jX,zS il];rfl)
   have E20:=zW (FF.out.e k il)
   have EXh:=zW (IZ N nn ((l.map Fv.ev).take k) x)
   have KL:=zW (KS.out k zGX)
   have PL:=zW (show k*nn+nn≤1000 from by have h1:=FF.out.p;have h2:=Nat.mul_le_mul_right nn (show k+1≤l.length by omega);rw[Nat.add_mul,Nat.one_mul]at h2;omega)
   have TL:=zW (show((l.map Fv.ev).take k).length=k from by rw[qX,qI];omega)
   obtain⟨f,hf⟩:∃f,l[k]=f:=⟨_,rfl⟩
   rw[hf]at c1 ok EB EK E20
   clear hf il
   obtain⟨fA,fn,fc,fe⟩:=f
   simp only at c1 ok EB EK E20
   have OK:=zW ok
   clear ok
   have JX:=zW hlt
   have ki:(k:Int)<(gn:Int):=zGX
   have k8:(k:Int)≤8:=zGX
   obtain⟨sk,ak,hxk⟩:∃sk ak,tG N nn ((l.map Fv.ev).take k) x=(sk,ak):=⟨_,_,rfl⟩
   have XK:=zW hxk
   rw[hxk]at X EXh
   clear hxk
   have GL:=zW (show g<wr.heap.size from(OW.out.lt g rfl).2)
   have GK:=zW (show∀j,Ok j→j<wr.heap.size from fun j h=>(X.out.blt j h).2)
   have RN:=zW (zJC N CC.out EE.out X.out (LL.out wr KK.out) HB.out (HM.out wr KK.out) (HS.out wr KK.out) fA fn fc fe OK.out.ev (fun ad h hp c=>by have h1:=EB.out ad h hp;have h2:=(X.out.blt _ c).1;omega) (by have:=E20.out;omega) nn HC.out FF.out.c (by have h1:=EXh.out;have h2:=PL.out;rw[TL.out,XX.out.1,Z.out.1]at h1;simp only at h1⊢;omega) (by have:=PL.out;omega) (by have h1:=EXh.out.2.2;have h2:=KL.out;rw[XX.out.2,Z.out.2]at h1;simp only[List.length_nil]at h1⊢;have h3:=E20.out;omega))
   go_wp2_with fail
   refine RN.out.mono ?_
   rintro e w2 ⟨rfl,O',X2,K2,G2⟩
   clear c1
   have OW:=zW (cV OW.out K2 fun b hb=>by injection hb with hb;exact hb▸NG.out)
   have KK:=zW (KK.out.trans K2 GO.out)
   have NG2:=zW (show¬O' g from fun c=>(G2 g c).elim NG.out fun h=>by have:=GL.out;omega)
   have GO2:=zW (show∀j,O' j→O j∨w.heap.size≤j from vK.trans GO.out G2 (by have:=GL.out;have:=GW.out;omega))
   have X:=zW X2
   have GL:=zW (zD GL.out K2.size)
   clear X2 K2 G2 NG GO RN GK
   obtain⟨C,hC⟩:∃C,nQ (frR N nn fe (sk,ak))=C:=⟨_,rfl⟩
   have CE:=zW (show C.size=535∧n8 C∧nQ (frR N nn fe (sk,ak))=C from by rw[←hC];exact⟨mU _,uW _,rfl⟩)
   have CO:=zW (show∀u∈C.toList,u.oneCell'=true from by rw[←hC];exact zJ8 _)
   rw[hC]
   clear hC
   simp only[]
   go_at_K
   iterate 10 go_step
   refine lO (ds:=C) vF wL (mU _) CE.out.1 CE.out.2.1 rfl rfl rfl (.tmp 9) (.tmp 24) rfl zGK zGK ?_
   simp only[Act.put,zQ,zZ,zJ]
   have R9:=zW (Blk.new w2 45 C)
   have ba:=lV w2 (.cells C 45)
   have X:=zW (X.out.step ba)
   have OW:=zW (cV OW.out (lS.of_below (O:=fun _=>False) ba) fun b hb c=>c)
   have KK:=zW (KK.out.trans (lS.of_below (O:=fun _=>False) ba) fun _ c=>c.elim)
   have GL:=zW (zD GL.out ba.size)
   clear ba
   generalize w2.heap.size=g9 at R9⊢
   generalize World.alloc _ _=w3 at X OW KK R9 GL⊢
   go_upto_region 8 with fail
   refine zH ?_
   iterate 3 go_step
   refine lL vF R9.out CE.out.1 rfl (.tmp 9) rfl rfl ?_
   simp only[Act.put,zQ,zZ,zJ]
   refine bE Tryz.underlying59 vF wL (mU _) CE.out.1 zGL zGL rfl (.tmp 30) rfl rfl ?_
   simp only[Act.put,zQ,zZ,zJ]
   have bb:=lV w3 (.cells C 45)
   have OW:=zW (cV OW.out (lS.of_below (O:=fun _=>False) bb) fun b hb c=>c)
   have X:=zW (X.out.step bb)
   have KK:=zW (KK.out.trans (lS.of_below (O:=fun _=>False) bb) fun _ c=>c.elim)
   have GL:=zW (zD GL.out bb.size)
   refine wpList_append_fits _ rfl (.tmp 29) (.tmp 31) 59 rfl g 45 i0 535 Tryz.underlying59 HI.out.1 HI.out.2.2.1 g k gn _ rfl OW.out ⟨w3.heap.size,0,none⟩ 1 1 C.toList rfl (by rw[Array.length_toList,CE.out.1]) (EC _ _ _) CO.out JX.out ?_
   intro w4 hown hgrow
   have kg:=DT hgrow
   have X:=zW (X.out.keep kg (fun j hj e=>NG2.out (e▸hj)) fun j e cs fr c=>by
    obtain⟨g',cap,cur,e1,_,hb,_⟩:=OW.out.2.resolve_left (fun c=>by cases c.1);injection e1 with e1
    injection e1 with e1
    injection e1 with e1
    rw[e,e1,hb]at c;injection c with c
    injection c with _ c
    exact absurd c zGL)
   have KK:=zW (KK.out.trans kg fun j e=> .inr (e▸GW.out))
   have OW:=zW hown
   clear hown hgrow kg bb
   simp only[Act.put,zQ,zZ,zJ]
   go_wp2
   go_roundw
   case rel=>exact⟨k+1,JX.out,by go_num,rfl,by rw[UU N nn EK.out,oH,XK.out,CE.out.2.2];exact OW.out,KK.out,O',by rw[zQM N nn EK.out,XK.out,Nat.add_mul,Nat.one_mul];exact X.out,NG2.out,GO2.out⟩
   case measure=>have:=JX.out;simp[intOf];omega
  ·obtain rfl:k=gn:=by omega
   have TK:=zW (show(l.map Fv.ev).take k=l.map Fv.ev from qV (by rw[qI];omega))
   have RL:=zW (show(rC N nn (l.map Fv.ev) x).length=k from by rw[wR,qI];exact gl)
   rw[TK.out]at OW
   have ki:¬(k:Int)<(k:Int):=zGX
   go_wp2_with fail
   go_returns
   exact⟨g,rfl,GW.out,Rcs.of_own (base:=g) (c:=k) (by rw[RL.out];exact OW.out),KK.out⟩
def rsK(b:Bool)(v:Value):Array Value:=#[.bool b,v]
theorem vD:vZ Tryz.prog 61 2:=⟨⟨_,Tryz.underlying61,rfl⟩,by kernel_rfl⟩
theorem cN:nH Tryz.prog 61 (rsK false (.slice none 0 0)):=by
 unfold nH rsK;kernel_rfl
theorem eN:vZ Tryz.prog 57 14:=⟨⟨_,Tryz.underlying57,rfl⟩,by kernel_rfl⟩
theorem cH(b:Bool)(v:Value)(h:v.oneCell'=true):n8 (rsK b v):=by
 unfold n8 rsK;rw[qC];intro x hx;simp only[kV,List.mem_cons,qT,or_false]at hx;rcases hx with rfl|rfl
 ·rfl
 ·exact h
theorem ZS:Tryz.prog.built 61 []=some (rsK false (.slice none 0 0)):=by unfold rsK;kernel_rfl
theorem E9:Tryz.prog.built 61 [(0,.bool true)]=some (rsK true (.slice none 0 0)):=by unfold rsK;kernel_rfl
theorem E8(A:Option Addr)(n c:Nat):Tryz.prog.built 61 [(1,.slice A n c)]=some (rsK false (.slice A n c)):=by unfold rsK;kernel_rfl
theorem sX(r l f:Value)(q:Pr)(en:Bool)(hr:∃A n c,r=.slice A n c)(hl:∃A n c,l=.slice A n c)(hf:∃A n c,f=.slice A n c):Tryz.prog.built 95 [(0,r),(1,l),(2,.agg (prc q)),(3,.bool en),(4,f)]=some (cfC r l f q en):=by
 obtain⟨A,n,c,rfl⟩:=hr;obtain⟨A1,n1,c1,rfl⟩:=hl;obtain⟨A2,n2,c2,rfl⟩:=hf;unfold prc;kernel_rfl
theorem fW(s:Sp)(w:World)(h:s.cy<0∨65535<s.cy):Calls Tryz.prog 18 #[.agg (spC s)] w fun e w'=>e=.returned (.tuple #[.agg (rsK false (.slice none 0 0)),.int .i64 5])∧Below w.heap.size w w':=by
 obtain⟨C,hC⟩:∃C,spC s=C:=⟨_,rfl⟩;have CE:=zW (show C.size=14∧spC s=C∧C[10]?=some (.int .i64 s.cy)∧C.extract 2 (2+8)=prc s.q∧C[0]?=some (.slice s.A s.n s.c)∧C[1]?=some (.slice s.B s.k s.d)∧C[11]?=some (.bool s.ca)∧C[12]?=some (.slice s.FA s.fn s.fc)∧C[13]?=some (.slice s.G s.gn s.gc)from by rw[←hC];exact⟨rfl,rfl,rfl,rfl,rfl,rfl,rfl,rfl,rfl⟩);rw[hC];clear hC;go_enter Tryz.func18,Tryz.ntmps18;go_upto_region 0 with fail;refine zH ?_;refine lE rfl _ (.tmp 0) rfl C rfl ?_;simp only[Act.put,zQ,zZ,zJ];have K1:=zW (Blk.new w 57 C);have BB:=zW (lV w (.cells C 57));obtain⟨g1,hg1⟩:∃g,w.heap.size=g:=⟨_,rfl⟩;have A1:=zW (show w.heap.size≤g1 by omega);rw[hg1]at K1⊢;clear hg1;generalize World.alloc w _=w1 at K1 BB⊢;refine qZ rfl fun K hK=>nJ cN rfl (hK _ _ ?_);clear hK K;simp only[Act.put,zQ,zZ,zJ];have R2:=zW (Blk.new w1 61 (rsK false (.slice none 0 0)));have ba:=lV w1 (.cells (rsK false (.slice none 0 0)) 61);have G12:=zW (show g1<w1.heap.size from K1.out.lt);have K1:=zW (K1.out.step ba);have BB:=zW (BB.out.trans (ba.mono BB.out.size));obtain⟨g2,hg2⟩:∃g,w1.heap.size=g:=⟨_,rfl⟩;have A2:=zW (show w.heap.size≤g2 by have h1:=G12.out;have h2:=A1.out;omega);rw[hg2]at R2 G12⊢;clear hg2 ba;generalize World.alloc w1 _=w2 at K1 R2 BB⊢;have c10:w2.cell? ⟨g1,10,none⟩=some (.int .i64 s.cy):=(K1.out.cell 10).trans CE.out.2.2.1;have hcase:(s.cy<0)∨(¬s.cy<0∧(65535:Int)<s.cy):=zGX;clear h;obtain⟨cy,hcy⟩:∃cy,s.cy=cy:=⟨_,rfl⟩;rw[hcy]at hcase c10;clear hcy;rcases hcase with h1|⟨h1,h2⟩
 all_goals (focus go_upto_region 2 with fail)
 all_goals
  refine zH ?_
  refine lC (cs:=rsK false (.slice none 0 0)) rfl rfl (by simp;exact ZS) ?_
  simp only[Act.put,zQ,zZ,zJ]
  refine lM (ds:=rsK false (.slice none 0 0)) vD R2.out rfl rfl (cH _ _ rfl) rfl (.tmp 2) (.tmp 15) rfl rfl rfl ?_
  simp only[Act.put,zQ,zZ,zJ]
  have RW:=zW (R2.out.store (rsK false (.slice none 0 0)))
  have BW:=zW (lU BB.out A2.out (rsK false (.slice none 0 0)))
  generalize World.setRow _ _ _=wz at RW BW⊢
  go_wp2_with fail
  iterate 6 (try go_step)
  exact zP (mL rfl _ _ g2 _ _ _ (.int .i64 5) rfl rfl RW.out vD rfl) rfl ⟨rfl,BW.out⟩
theorem GN(s:Sp)(w:World)(h:¬(s.cy<0∨65535<s.cy))(hq:¬(1≤s.q.lv∧s.q.lv≤3)):Calls Tryz.prog 18 #[.agg (spC s)] w fun e w'=>e=.returned (.tuple #[.agg (rsK false (.slice none 0 0)),.int .i64 5])∧Below w.heap.size w w':=by
 have NW:=zW (fun u=>OQ (A:=s.A) (B:=s.B) (FA:=s.FA) (n:=s.n) (c:=s.c) (k:=s.k) (d:=s.d) (fn:=s.fn) (fc:=s.fc) (q:=s.q) (en:=s.ca) (w:=u) hq);clear hq;obtain⟨C,hC⟩:∃C,spC s=C:=⟨_,rfl⟩;have CE:=zW (show C.size=14∧spC s=C∧C[10]?=some (.int .i64 s.cy)∧C.extract 2 (2+8)=prc s.q∧C[0]?=some (.slice s.A s.n s.c)∧C[1]?=some (.slice s.B s.k s.d)∧C[11]?=some (.bool s.ca)∧C[12]?=some (.slice s.FA s.fn s.fc)∧C[13]?=some (.slice s.G s.gn s.gc)from by rw[←hC];exact⟨rfl,rfl,rfl,rfl,rfl,rfl,rfl,rfl,rfl⟩);rw[hC];clear hC;go_enter Tryz.func18,Tryz.ntmps18;go_upto_region 0 with fail;refine zH ?_;refine lE rfl _ (.tmp 0) rfl C rfl ?_;simp only[Act.put,zQ,zZ,zJ];have K1:=zW (Blk.new w 57 C);have BB:=zW (lV w (.cells C 57));obtain⟨g1,hg1⟩:∃g,w.heap.size=g:=⟨_,rfl⟩;have A1:=zW (show w.heap.size≤g1 by omega);rw[hg1]at K1⊢;clear hg1;generalize World.alloc w _=w1 at K1 BB⊢;refine qZ rfl fun K hK=>nJ cN rfl (hK _ _ ?_);clear hK K;simp only[Act.put,zQ,zZ,zJ];have R2:=zW (Blk.new w1 61 (rsK false (.slice none 0 0)));have ba:=lV w1 (.cells (rsK false (.slice none 0 0)) 61);have G12:=zW (show g1<w1.heap.size from K1.out.lt);have K1:=zW (K1.out.step ba);have BB:=zW (BB.out.trans (ba.mono BB.out.size));obtain⟨g2,hg2⟩:∃g,w1.heap.size=g:=⟨_,rfl⟩;have A2:=zW (show w.heap.size≤g2 by have h1:=G12.out;have h2:=A1.out;omega);rw[hg2]at R2 G12⊢;clear hg2 ba;generalize World.alloc w1 _=w2 at K1 R2 BB⊢;have c10:w2.cell? ⟨g1,10,none⟩=some (.int .i64 s.cy):=(K1.out.cell 10).trans CE.out.2.2.1;have h1:¬s.cy<0:=zGX;have h2:¬(65535:Int)<s.cy:=zGX;clear h;obtain⟨cy,hcy⟩:∃cy,s.cy=cy:=⟨_,rfl⟩;rw[hcy]at h1 h2 c10;clear hcy;have c0:w2.cell? ⟨g1,0,none⟩=some (.slice s.A s.n s.c):=(K1.out.cell 0).trans CE.out.2.2.2.2.1;have c1:w2.cell? ⟨g1,1,none⟩=some (.slice s.B s.k s.d):=(K1.out.cell 1).trans CE.out.2.2.2.2.2.1;have c11:w2.cell? ⟨g1,11,none⟩=some (.bool s.ca):=(K1.out.cell 11).trans CE.out.2.2.2.2.2.2.1;have c12:w2.cell? ⟨g1,12,none⟩=some (.slice s.FA s.fn s.fc):=(K1.out.cell 12).trans CE.out.2.2.2.2.2.2.2.1;go_upto_region 3 with fail;refine zH ?_;iterate 15 go_step
 refine m6 (o:=2) tM K1.out zG4 rfl (.tmp 21) rfl rfl ?_;rw[CE.out.2.2.2.1];simp only[Act.put,zQ,zZ,zJ];iterate 12 go_step
 refine lC (cs:=cfC (.slice s.A s.n s.c) (.slice s.B s.k s.d) (.slice s.FA s.fn s.fc) s.q s.ca) rfl rfl zGS ?_;simp only[Act.put,zQ,zZ,zJ];go_wp2_with fail;refine(NW.out _).mono ?_;rintro e w3 ⟨rfl,b3⟩;have R2:=zW (R2.out.step b3);have BB:=zW (BB.out.trans (b3.mono BB.out.size));clear b3 c0 c1 c10 c11 c12;go_upto_region 7 with fail;have ba:=lV w3 (.cells #[.pointer none] 29);have R2:=zW (R2.out.step ba);have BB:=zW (BB.out.trans (ba.mono BB.out.size));clear ba;generalize World.alloc w3 _=w4 at R2 BB⊢;refine zH ?_;refine lC (cs:=rsK false (.slice none 0 0)) rfl rfl (by simp;exact ZS) ?_;simp only[Act.put,zQ,zZ,zJ];iterate 3 go_step
 refine lM (ds:=rsK false (.slice none 0 0)) vD R2.out rfl rfl (cH _ _ rfl) rfl (.tmp 2) (.tmp 36) rfl rfl rfl ?_;simp only[Act.put,zQ,zZ,zJ];have RW:=zW (R2.out.store (rsK false (.slice none 0 0)));have BW:=zW (lU BB.out A2.out (rsK false (.slice none 0 0)));generalize World.setRow _ _ _=wz at RW BW⊢;go_wp2_with fail;iterate 6 (try go_step)
 exact zP (mL rfl _ _ g2 _ _ _ (.int .i64 5) rfl rfl RW.out vD rfl) rfl ⟨rfl,BW.out⟩
theorem oM(N:Nat)(CS:vR N)(s:Sp)(w:World)(LW:cQ w)(h:¬(s.cy<0∨65535<s.cy))(hq:1≤s.q.lv∧s.q.lv≤3)(hn:65024<s.n∧s.n≤1000000){Ls:List Int}(hB:Rd w s.B Ls)(hk:Ls.length=s.k)(k1:s.k≤100000):Calls Tryz.prog 18 #[.agg (spC s)] w fun e w'=>e=.returned (.tuple #[.agg (rsK true (.slice none 0 0)),.int .i64 0])∧Below w.heap.size w w':=by
 have NW:=zW (fun u (b:Below w.heap.size w u)=>BP (A:=s.A) (B:=s.B) (FA:=s.FA) (n:=s.n) (c:=s.c) (k:=s.k) (d:=s.d) (fn:=s.fn) (fc:=s.fc) (q:=s.q) (en:=s.ca) (w:=u) N CS (LW.step b) hn (hB.below b) hk k1 hq);clear hq CS LW hn hB hk k1;obtain⟨C,hC⟩:∃C,spC s=C:=⟨_,rfl⟩;have CE:=zW (show C.size=14∧spC s=C∧C[10]?=some (.int .i64 s.cy)∧C.extract 2 (2+8)=prc s.q∧C[0]?=some (.slice s.A s.n s.c)∧C[1]?=some (.slice s.B s.k s.d)∧C[11]?=some (.bool s.ca)∧C[12]?=some (.slice s.FA s.fn s.fc)∧C[13]?=some (.slice s.G s.gn s.gc)from by rw[←hC];exact⟨rfl,rfl,rfl,rfl,rfl,rfl,rfl,rfl,rfl⟩);rw[hC];clear hC;go_enter Tryz.func18,Tryz.ntmps18;go_upto_region 0 with fail;refine zH ?_;refine lE rfl _ (.tmp 0) rfl C rfl ?_;simp only[Act.put,zQ,zZ,zJ];have K1:=zW (Blk.new w 57 C);have BB:=zW (lV w (.cells C 57));obtain⟨g1,hg1⟩:∃g,w.heap.size=g:=⟨_,rfl⟩;have A1:=zW (show w.heap.size≤g1 by omega);rw[hg1]at K1⊢;clear hg1;generalize World.alloc w _=w1 at K1 BB⊢;refine qZ rfl fun K hK=>nJ cN rfl (hK _ _ ?_);clear hK K;simp only[Act.put,zQ,zZ,zJ];have R2:=zW (Blk.new w1 61 (rsK false (.slice none 0 0)));have ba:=lV w1 (.cells (rsK false (.slice none 0 0)) 61);have G12:=zW (show g1<w1.heap.size from K1.out.lt);have K1:=zW (K1.out.step ba);have BB:=zW (BB.out.trans (ba.mono BB.out.size));obtain⟨g2,hg2⟩:∃g,w1.heap.size=g:=⟨_,rfl⟩;have A2:=zW (show w.heap.size≤g2 by have h1:=G12.out;have h2:=A1.out;omega);rw[hg2]at R2 G12⊢;clear hg2 ba;generalize World.alloc w1 _=w2 at K1 R2 BB⊢;have c10:w2.cell? ⟨g1,10,none⟩=some (.int .i64 s.cy):=(K1.out.cell 10).trans CE.out.2.2.1;have h1:¬s.cy<0:=zGX;have h2:¬(65535:Int)<s.cy:=zGX;clear h;obtain⟨cy,hcy⟩:∃cy,s.cy=cy:=⟨_,rfl⟩;rw[hcy]at h1 h2 c10;clear hcy;have c0:w2.cell? ⟨g1,0,none⟩=some (.slice s.A s.n s.c):=(K1.out.cell 0).trans CE.out.2.2.2.2.1;have c1:w2.cell? ⟨g1,1,none⟩=some (.slice s.B s.k s.d):=(K1.out.cell 1).trans CE.out.2.2.2.2.2.1;have c11:w2.cell? ⟨g1,11,none⟩=some (.bool s.ca):=(K1.out.cell 11).trans CE.out.2.2.2.2.2.2.1;have c12:w2.cell? ⟨g1,12,none⟩=some (.slice s.FA s.fn s.fc):=(K1.out.cell 12).trans CE.out.2.2.2.2.2.2.2.1;go_upto_region 3 with fail;refine zH ?_;iterate 15 go_step
 refine m6 (o:=2) tM K1.out zG4 rfl (.tmp 21) rfl rfl ?_;rw[CE.out.2.2.2.1];simp only[Act.put,zQ,zZ,zJ];iterate 12 go_step
 refine lC (cs:=cfC (.slice s.A s.n s.c) (.slice s.B s.k s.d) (.slice s.FA s.fn s.fc) s.q s.ca) rfl rfl zGS ?_;simp only[Act.put,zQ,zZ,zJ];go_wp2_with fail;refine(NW.out _ BB.out).mono ?_;rintro e w3 ⟨rfl,b3⟩;have R2:=zW (R2.out.step b3);have BB:=zW (BB.out.trans (b3.mono BB.out.size));clear b3 c0 c1 c10 c11 c12;go_upto_region 5 with fail;have ba:=lV w3 (.cells #[.pointer none] 29);have R2:=zW (R2.out.step ba);have BB:=zW (BB.out.trans (ba.mono BB.out.size));clear ba;generalize World.alloc w3 _=w4 at R2 BB⊢;refine zH ?_;refine lC (cs:=rsK true (.slice none 0 0)) rfl rfl (by simp;exact E9) ?_;simp only[Act.put,zQ,zZ,zJ];refine lM (ds:=rsK true (.slice none 0 0)) vD R2.out rfl rfl (cH _ _ rfl) rfl (.tmp 2) (.tmp 33) rfl rfl rfl ?_;simp only[Act.put,zQ,zZ,zJ];have RW:=zW (R2.out.store (rsK true (.slice none 0 0)));have BW:=zW (lU BB.out A2.out (rsK true (.slice none 0 0)));generalize World.setRow _ _ _=wz at RW BW⊢;go_wp2_with fail;iterate 6 (try go_step)
 exact zP (mL rfl _ _ g2 _ _ _ (.int .i64 0) rfl rfl RW.out vD rfl) rfl ⟨rfl,BW.out⟩
theorem dW(N:Nat)(CS:vR N)(E0:uP N)(s:Sp){R Ls F:List Int}{l:List Fv}(w:World)(LW:cQ w)(H:wW s w R Ls F l)(nn:Nat)(hc:s.cy=(nn:Int))(Ft:Fit l nn)(hq:1≤s.q.lv∧s.q.lv≤3)(n1:s.n≤65024)(k1:s.k≤100000)(f1:s.fn≤1000):Calls Tryz.prog 18 #[.agg (spC s)] w fun e w'=>∃g,e=.returned (.tuple #[.agg (rsK false (.slice (some ⟨g,0,none⟩) s.gn s.gn)),.int .i64 0])∧Rcs g (rC N nn (l.map Fv.ev) (wU s.q,uB R Ls)) w'∧Below w.heap.size w w':=by
 have NW:=zW (fun u (b:Below w.heap.size w u)=>newE (A:=s.A) (B:=s.B) (FA:=s.FA) (n:=s.n) (c:=s.c) (k:=s.k) (d:=s.d) (fn:=s.fn) (fc:=s.fc) (q:=s.q) (en:=s.ca) (w:=u) N CS (LW.step b) (H.a.rd.below b) H.a.len n1 (H.b.rd.below b) H.b.len k1 (dC.2 H.a.bd) (dC.2 H.b.bd) (show Fls u s.FA F from⟨H.f.row.below b,by have:=H.f.len;omega,H.f.le⟩) H.f.len hq);have h:¬(s.cy<0∨65535<s.cy):=by have:=Ft.c;omega
 have CC:=zW CS;have EE:=zW E0;have LL:=zW LW;have HG:=zW H.g;have HC:=zW hc;have FT:=zW Ft;clear hq CS E0 LW H n1 k1 f1 hc Ft;obtain⟨C,hC⟩:∃C,spC s=C:=⟨_,rfl⟩;have CE:=zW (show C.size=14∧spC s=C∧C[10]?=some (.int .i64 s.cy)∧C.extract 2 (2+8)=prc s.q∧C[0]?=some (.slice s.A s.n s.c)∧C[1]?=some (.slice s.B s.k s.d)∧C[11]?=some (.bool s.ca)∧C[12]?=some (.slice s.FA s.fn s.fc)∧C[13]?=some (.slice s.G s.gn s.gc)from by rw[←hC];exact⟨rfl,rfl,rfl,rfl,rfl,rfl,rfl,rfl,rfl⟩);rw[hC];clear hC;go_enter Tryz.func18,Tryz.ntmps18;go_upto_region 0 with fail;refine zH ?_;refine lE rfl _ (.tmp 0) rfl C rfl ?_;simp only[Act.put,zQ,zZ,zJ];have K1:=zW (Blk.new w 57 C);have BB:=zW (lV w (.cells C 57));obtain⟨g1,hg1⟩:∃g,w.heap.size=g:=⟨_,rfl⟩;have A1:=zW (show w.heap.size≤g1 by omega);rw[hg1]at K1⊢;clear hg1;generalize World.alloc w _=w1 at K1 BB⊢;refine qZ rfl fun K hK=>nJ cN rfl (hK _ _ ?_);clear hK K;simp only[Act.put,zQ,zZ,zJ];have R2:=zW (Blk.new w1 61 (rsK false (.slice none 0 0)));have ba:=lV w1 (.cells (rsK false (.slice none 0 0)) 61);have G12:=zW (show g1<w1.heap.size from K1.out.lt);have K1:=zW (K1.out.step ba);have BB:=zW (BB.out.trans (ba.mono BB.out.size));obtain⟨g2,hg2⟩:∃g,w1.heap.size=g:=⟨_,rfl⟩;have A2:=zW (show w.heap.size≤g2 by have h1:=G12.out;have h2:=A1.out;omega);rw[hg2]at R2 G12⊢;clear hg2 ba;generalize World.alloc w1 _=w2 at K1 R2 BB⊢;have c10:w2.cell? ⟨g1,10,none⟩=some (.int .i64 s.cy):=(K1.out.cell 10).trans CE.out.2.2.1;have h1:¬s.cy<0:=zGX;have h2:¬(65535:Int)<s.cy:=zGX;clear h;obtain⟨cy,hcy⟩:∃cy,s.cy=cy:=⟨_,rfl⟩;rw[hcy]at h1 h2 c10;clear hcy;have c13:w2.cell? ⟨g1,13,none⟩=some (.slice s.G s.gn s.gc):=(K1.out.cell 13).trans CE.out.2.2.2.2.2.2.2.2;have c0:w2.cell? ⟨g1,0,none⟩=some (.slice s.A s.n s.c):=(K1.out.cell 0).trans CE.out.2.2.2.2.1;have c1:w2.cell? ⟨g1,1,none⟩=some (.slice s.B s.k s.d):=(K1.out.cell 1).trans CE.out.2.2.2.2.2.1;have c11:w2.cell? ⟨g1,11,none⟩=some (.bool s.ca):=(K1.out.cell 11).trans CE.out.2.2.2.2.2.2.1;have c12:w2.cell? ⟨g1,12,none⟩=some (.slice s.FA s.fn s.fc):=(K1.out.cell 12).trans CE.out.2.2.2.2.2.2.2.1;go_upto_region 3 with fail;refine zH ?_;iterate 15 go_step
 refine m6 (o:=2) tM K1.out zG4 rfl (.tmp 21) rfl rfl ?_;rw[CE.out.2.2.2.1];simp only[Act.put,zQ,zZ,zJ];iterate 12 go_step
 refine lC (cs:=cfC (.slice s.A s.n s.c) (.slice s.B s.k s.d) (.slice s.FA s.fn s.fc) s.q s.ca) rfl rfl zGS ?_;simp only[Act.put,zQ,zZ,zJ];go_wp2_with fail;refine(NW.out _ BB.out).mono ?_;rintro e w3 ⟨mb,O,rfl,X,b3⟩;have BS:=zW (show w.heap.size≤w2.heap.size from BB.out.size);have X:=zW X.mch;have NK:=zW (show¬O g1∧¬O g2 from⟨fun c=>by have h1:=(X.out.blt _ c).1;have:=K1.out.lt;omega,fun c=>by have h1:=(X.out.blt _ c).1;have:=R2.out.lt;omega⟩);have K1:=zW (K1.out.step b3);have R2:=zW (R2.out.step b3);have BB:=zW (BB.out.trans (b3.mono BB.out.size));clear b3 NW c0 c1 c10 c11 c12 c13;go_upto_region 8 with fail;have ba:=lV w3 (.cells #[.pointer (some ⟨mb,0,none⟩)] 29);have BM:=zW (Blk.new w3 29 #[.pointer (some ⟨mb,0,none⟩)]);have NM:=zW (show¬O w3.heap.size from fun c=>by have:=(X.out.blt _ c).2;omega);have X:=zW (X.out.step ba);have K1:=zW (K1.out.step ba);have R2:=zW (R2.out.step ba);have BB:=zW (BB.out.trans (ba.mono BB.out.size));clear ba;obtain⟨gm,hgm⟩:∃g,w3.heap.size=g:=⟨_,rfl⟩;rw[hgm]at BM NM⊢;clear hgm;generalize World.alloc w3 _=w4 at X K1 R2 BB BM⊢;have c13:w4.cell? ⟨g1,13,none⟩=some (.slice s.G s.gn s.gc):=(K1.out.cell 13).trans CE.out.2.2.2.2.2.2.2.2;have hmf:∀(fn:Fn) (first cap:Array Value) (w:World),(Instr.makeFunc fn first cap).run Tryz.prog w=.ok (.func fn first cap) w:=fun _ _ _ _=>rfl;go_wp2_with fail;refine(W0 N CC.out EE.out X.out (LL.out.step BB.out) (zD LL.out.lt BS.out) BM.out (by rw[CE.out.2.1];exact K1.out) NM.out NK.out.1 s.G s.gn s.gc l w BS.out BB.out HG.out nn HC.out FT.out rfl rfl).mono ?_;rintro e w5 ⟨g,rfl,hg,r5,k5⟩;have RS5:=zW r5;have NG:=zW (show g≠g2 from by have:=R2.out.lt;omega);have R2:=zW (show Blk g2 61 (rsK false (.slice none 0 0)) w5 from(k5.block g2 R2.out.lt NK.out.2).trans R2.out);have BB:=zW (BB.out.trans (X.out.below BS.out k5));clear r5 k5 hg c13 hmf;go_upto_region 9 with fail;refine zH ?_;iterate 3 go_step
 refine lC (cs:=rsK false (.slice (some ⟨g,0,none⟩) s.gn s.gn)) rfl rfl (by simp[Act.eval];exact E8 _ _ _) ?_;simp only[Act.put,zQ,zZ,zJ];iterate 3 go_step
 refine lM (ds:=rsK false (.slice (some ⟨g,0,none⟩) s.gn s.gn)) vD R2.out rfl rfl (cH _ _ rfl) rfl (.tmp 2) (.tmp 46) rfl rfl rfl ?_;simp only[Act.put,zQ,zZ,zJ];have RW:=zW (R2.out.store (rsK false (.slice (some ⟨g,0,none⟩) s.gn s.gn)));have BW:=zW (lU BB.out A2.out (rsK false (.slice (some ⟨g,0,none⟩) s.gn s.gn)));have RS6:=zW (RS5.out.row NG.out (rsK false (.slice (some ⟨g,0,none⟩) s.gn s.gn)));generalize World.setRow _ _ _=wz at RW BW RS6⊢;go_wp2_with fail;iterate 6 (try go_step)
 exact zP (mL rfl _ _ g2 _ _ _ (.int .i64 0) rfl rfl RW.out vD rfl) rfl ⟨g,rfl,RS6.out,BW.out⟩
end
section
open Go.RowKit Num Dec Cpu
structure hH(P:Program)(t:TypeId)(cs:Array Value):Prop where
 g:P.eqGuardType P.depth t=false
 e:∀w,(Op.equalIn 10000 t (.agg cs) (.agg cs)).run P w=.ok true w
section
variable {P:Program} {t:TypeId} {cs:Array Value}
theorem WB{o:Oper}{ρ:Operand→Value}{w:World}(S:hH P t cs)(x y:Operand)(z:TypeId)(ho:o.op=.binOp .eql t x y z)(hx:ρ x=.agg cs)(hy:ρ y=.agg cs):(execOp ρ o).run P w=.ok (.value (.bool true)) w:=by
 unfold execOp;simp only[ho,hx,hy];rw[zA,zA,run_eqGuard_agg w .eql t x y cs cs S.g,Result.andThen_ok,run_eql_struct,S.e,Result.andThen_ok,Result.andThen_ok,Sem.run_pure]
theorem aS{o:Oper}{ρ:Operand→Value}{w:World}(S:hH P t cs)(x y:Operand)(z:TypeId)(ho:o.op=.binOp .neq t x y z)(hx:ρ x=.agg cs)(hy:ρ y=.agg cs):(execOp ρ o).run P w=.ok (.value (.bool false)) w:=by
 unfold execOp;simp only[ho,hx,hy];rw[zA,zA,run_eqGuard_agg w .neq t x y cs cs S.g,Result.andThen_ok,run_neq_struct,S.e,Result.andThen_ok,Result.andThen_ok,Sem.run_pure];rfl
variable {ops:Array Oper} {C:World→Prop} {Q:Act→Prop} {o:Oper} {rest:List Oper} {a:Act}
theorem NJ(S:hH P t cs)(hw:Region.wanted o (yielded ops a.tmps)=true)(x y:Operand)(z:TypeId)(ho:o.op=.binOp .eql t x y z)(hx:a.eval x=.agg cs)(hy:a.eval y=.agg cs)
  (h:wpQuiet P ops C Q rest (a.put o.dst (.bool true))):wpQuiet P ops C Q (o::rest) a:=
 u7 hw (.bool true) (fun w' _=>WB S x y z ho hx hy) h
theorem uY(S:hH P t cs)(hw:Region.wanted o (yielded ops a.tmps)=true)(x y:Operand)(z:TypeId)(ho:o.op=.binOp .neq t x y z)(hx:a.eval x=.agg cs)(hy:a.eval y=.agg cs)
  (h:wpQuiet P ops C Q rest (a.put o.dst (.bool false))):wpQuiet P ops C Q (o::rest) a:=
 u7 hw (.bool false) (fun w' _=>aS S x y z ho hx hy) h
end
theorem MY(r:cE):hH Tryz.prog 45 (nQ r):=⟨EH,fun w=>by
 have e:(10000:Nat)=9993+7:=zGL;rw[e];exact UN r 9993 w⟩
theorem AY(k c p y:Int):hH Tryz.prog 34 (xN k c p y):=⟨by kernel_rfl,fun w=>by
 have e:(10000:Nat)=9997+3:=zGL;rw[e];exact Y3 k c p y 9997 w⟩
theorem zYH(F:Nat→Pl):hH Tryz.prog 42 (cY F):=⟨by kernel_rfl,fun w=>by
 have e:(10000:Nat)=9999+1:=zGL;have e2:(9999:Nat)=9998+1:=zGL;have h:=yF (P:=Tryz.prog) 9999 42 41 _ 4 128 (cY F) (cY F) (fun i=>wC (F i) (F i)) rfl Tryz.underlying42 Tryz.underlying41 wP.i (fun i hi w=>by
   rw[AR _ i hi];exact bW _ _ 9995 w) w
 rw[e,h];congr 1
 rw[jJ]
 exact fun i _=>AM fun _ _=>rfl⟩
end
end Go.Proofs.YtbpniahcjbagmaaGreatDoor
