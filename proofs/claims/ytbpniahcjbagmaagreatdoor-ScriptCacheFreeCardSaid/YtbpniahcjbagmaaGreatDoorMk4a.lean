/- MacMch, MacFew, MacMchE, MacAwD, MacAwake, MacLawK, FrmIt, MacKeysN. -/
import Derived.Test.YtbpniahcjbagmaaGreatDoorMMacBoxS
set_option maxRecDepth 400000
set_option maxHeartbeats 64000000
set_option linter.unusedVariables false
set_option linter.unusedSimpArgs false
namespace Go.Proofs.YtbpniahcjbagmaaGreatDoor
section
open Go.RowKit Num Dec Cpu
def Mch(base:Nat)(O:Nat→Prop)(mb n:Nat)(s:mR)(a:AS)(w:World):Prop:=
 ∃b m g p mp pg v en l h k,MP base mb b m g p mp pg v en l h k s a w∧O=rA mb b m g p mp pg v∧h+k≤n∧l.length≤n
section
variable {base:Nat} {O:Nat→Prop} {mb n:Nat} {s:mR} {a:AS} {w w':World}
theorem Mch.ok(H:Mch base O mb n s a w):OkM s a:=by obtain⟨b,m,g,p,mp,pg,v,en,l,h,k,H,_⟩:=H;exact H.ok
theorem Mch.step(H:Mch base O mb n s a w)(hb:Below w.heap.size w w'):Mch base O mb n s a w':=by
 obtain⟨b,m,g,p,mp,pg,v,en,l,h,k,H,r⟩:=H;exact⟨b,m,g,p,mp,pg,v,en,l,h,k,H.step hb,r⟩
theorem Mch.blt(H:Mch base O mb n s a w):∀j,O j→base≤j∧j<w.heap.size:=by
 obtain⟨b,m,g,p,mp,pg,v,en,l,h,k,H,rfl,_⟩:=H;exact H.blt
theorem Mch.own(H:Mch base O mb n s a w):O mb:=by
 obtain⟨b,m,g,p,mp,pg,v,en,l,h,k,H,rfl,_⟩:=H;exact .inl rfl
theorem Mch.bs(H:Mch base O mb n s a w):base≤w.heap.size:=by have:=H.blt _ H.own;omega
theorem Mch.below(H:Mch base O mb n s a w){b0:Nat}(h0:b0≤base)(kk:lS O w w'):Below b0 w w':=kk.below (zR h0 H.bs) fun j hj=>zR h0 (H.blt j hj).1
theorem Mch.u8(H:Mch base O mb n s a w):∀j,O j→∀cs fr,w.heap[j]?≠some (.cells cs 5 fr):=by
 obtain⟨b,m,g,p,mp,pg,v,en,l,h,k,H,rfl,_⟩:=H;rintro j (rfl|rfl|hj|hj) cs fr e
 ·have h1:w.heap[j]?=some (.cells _ _ (0,0)):=H.bk;rw[h1]at e;injection e with e
  injection e with _ e
  exact absurd e zGL
 ·obtain⟨n,D,es,clock,hb,_⟩:=H.fl;rw[hb]at e;cases e
 ·obtain⟨ds,T,hb,hT⟩:=H.co.tag j hj;have h1:w.heap[j]?=some (.cells _ _ (0,0)):=hb;rw[h1]at e;injection e with e
  injection e with _ e
  rw[e]at hT;rcases hT with e|e<;>exact absurd e zGL
 ·obtain⟨ds,U,fr',h2,hU⟩:=H.rc.tag j hj;rw[h2]at e;injection e with e
  injection e with _ e
  rw[e]at hU;rcases hU with e|e|e|e<;>exact absurd e zGL
theorem MP.keep{mb b m g p mp:Nat}{pg:Nat→Option Nat}{v:Value}{en:Bool}{l:nB}{h k:Nat}(H:MP base mb b m g p mp pg v en l h k s a w){O':Nat→Prop}(kk:lS O' w w')(hd:∀j,rA mb b m g p mp pg v j→¬O' j)(hu:∀j,O' j→∀cs fr,w.heap[j]?≠some (.cells cs 5 fr)):MP base mb b m g p mp pg v en l h k s a w':=by
 obtain⟨n,D,hm⟩:=H.fl;exact⟨(kk.block mb H.bk.lt (hd mb (.inl rfl))).trans H.bk,H.rc.keep kk (fun j hj=>hd j (.inr (.inr (.inr hj)))) hu,H.co.kept kk fun j hj=>hd j (.inr (.inr (.inl hj))),⟨n,D,vC hm (kk.block mp hm.lt (hd mp (.inr (.inl rfl))))⟩,H.ok,H.low⟩
theorem Mch.keep(H:Mch base O mb n s a w){O':Nat→Prop}(kk:lS O' w w')(hd:∀j,O j→¬O' j)(hu:∀j,O' j→∀cs fr,w.heap[j]?≠some (.cells cs 5 fr)):Mch base O mb n s a w':=by
 obtain⟨b,m,g,p,mp,pg,v,en,l,h,k,H,rfl,r⟩:=H;exact⟨b,m,g,p,mp,pg,v,en,l,h,k,H.keep kk hd hu,rfl,r⟩
theorem aM(H:Mch base O mb n s a w):Calls Tryz.prog 13 #[.pointer (some ⟨mb,0,none⟩)] w fun e w'=>e=.returned (.agg s.st)∧Below w.heap.size w w':=by
 obtain⟨b,m,g,p,mp,pg,v,en,l,h,k,H,_⟩:=H;exact L4 H.bk
theorem BC(N:Nat)(C:vR N)(H:Mch base O mb n s a w)(L:cQ w):Calls Tryz.prog 21 #[.pointer (some ⟨mb,0,none⟩)] w fun e w'=>∃b2 m2 g2 v2,e=.returned (.pointer (some ⟨b2,0,none⟩))∧RC w.heap.size ⟨0,a.M⟩ b2 m2 g2 v2 a w'∧Below w.heap.size w w':=by
 obtain⟨b,m,g,p,mp,pg,v,en,l,h,k,H,_⟩:=H;exact YR N C H L
theorem OY(H:Mch base O mb n s a w):Calls Tryz.prog 28 #[.pointer (some ⟨mb,0,none⟩)] w fun e w'=>e=.returned (.tuple #[])∧Mch base O mb n s (rU a) w'∧lS O w w':=by
 obtain⟨b,m,g,p,mp,pg,v,en,l,h,k,H,rfl,r⟩:=H;refine(T0 H).mono ?_;rintro e w' ⟨rfl,H',K⟩;exact⟨rfl,⟨b,m,g,p,mp,pg,v,en,l,h,k,H',rfl,r⟩,K.mono fun j _ hj=> .inr (.inr (.inr hj))⟩
theorem zX7(H:Mch base O mb n s a w)(e:Ev)(hks:a.ks.length<1000):Calls Tryz.prog 26 #[.pointer (some ⟨mb,0,none⟩),.agg (ec e)] w fun x w'=>x=.returned (.tuple #[])∧Mch base O mb n (uE s a e) (wZ s a e) w'∧lS O w w':=by
 obtain⟨b,m,g,p,mp,pg,v,en,l,h,k,H,rfl,r⟩:=H;refine(JU H e hks).mono ?_;rintro x w' ⟨rfl,H',K⟩;exact⟨rfl,⟨b,m,g,p,mp,pg,v,en,l,h,k,H',rfl,r⟩,K⟩
theorem OM(N:Nat)(E0:uP N)(H:Mch base O mb n s a w)(L:cQ w)(hB:1<base)(hx:s.ex≤90000)(hn:n≤90000):Calls Tryz.prog 40 #[.pointer (some ⟨mb,0,none⟩)] w fun e w'=>e=.returned (.bool (bU s a))∧∃O',Mch base O' mb (n+1) (nmM s a) (yI N s a) w'∧lS O w w'∧vK O O' w.heap.size:=by
 obtain⟨b,m,g,p,mp,pg,v,en,l,h,k,H,rfl,r1,r2⟩:=H;have hb:base≤w.heap.size:=by have:=H.bk.lt;have:=H.low.1;omega
 refine(i5 N E0 H L hB hb hx zGX zGX).mono ?_;rintro e w' ⟨rfl,pg',v',l',h',k',H',K,G,c1,c2,_⟩;exact⟨rfl,_,⟨b,m,g,p,mp,pg',v',en,l',h',k',H',rfl,by omega,by omega⟩,K,G⟩
end
theorem MP.mch{base mb b m g p mp:Nat}{pg:Nat→Option Nat}{v:Value}{en:Bool}{l:nB}{h k n:Nat}{s:mR}{a:AS}{w:World}(H:MP base mb b m g p mp pg v en l h k s a w)(h1:h+k≤n)(l1:l.length≤n):Mch base (rA mb b m g p mp pg v) mb n s a w:=⟨b,m,g,p,mp,pg,v,en,l,h,k,H,rfl,h1,l1⟩
theorem ini_at(R:List Int)(hR:R.length≤65024)(i:Nat)(hi:i<R.length):(wH R)[512+i]?=R[i]?:=by
 unfold wH;rw[iB R _ 512 zGX (by rw[xZ,xZ];exact xX) (512+i) zGX];rw[zN zGX,show(((512+i:Nat):Int)-512)%65536=(i:Int) by omega];rfl
theorem zLA(R:List Int)(hR:R.length≤65024)(hB:Bts R)(j b0 b1:Nat)(h0:R[j]?=some (b0:Int))(h1:R[j+1]?=some (b1:Int))(lv:Int)(I:Ins)(hI:∀b2 b3,dec b0 b1 b2 b3 lv=I):yV (wH R) ((512+j:Nat):Int) lv=I:=by
 have j0:j<R.length:=by rcases jU j R.length with h|h;exact h;rw[qR h]at h0;cases h0
 have j1:j+1<R.length:=by rcases jU (j+1) R.length with h|h;exact h;rw[qR h]at h1;cases h1
 have key:∀k b:Nat,k<4→R[j+k]?=some (b:Int)→j+k<R.length→uC (wH R) ((512+j:Nat):Int) k=b:=fun k b hk h hl=>by
  unfold uC;rw[qJ,rO _ _ 4 k (aR R) hk,show((((512+j:Nat):Int)+(k:Int))%65536).toNat=512+(j+k) by omega,ini_at R hR (j+k) hl,h];rfl
 unfold yV;rw[key 0 b0 zGL h0 j0,key 1 b1 zGL h1 j1];exact hI _ _
theorem CU(s:mR)(a:AS):s.ex≤(nmM s a).ex∧(nmM s a).ex≤s.ex+1:=by
 unfold nmM nmE;split
 ·split
  ·exact zRE
  ·split
   ·exact zRE
   ·split
    ·exact zRE
    ·exact zRE
 ·omega
def sW(en:Bool)(E:nB→Prop)(base:Nat)(O:Nat→Prop)(mb n:Nat)(s:mR)(a:AS)(w:World):Prop:=
 ∃b m g p mp pg v l h k,MP base mb b m g p mp pg v en l h k s a w∧O=rA mb b m g p mp pg v∧h+k≤n∧l.length≤n∧E l
section
variable {en:Bool} {E:nB→Prop} {base:Nat} {O:Nat→Prop} {mb n:Nat} {s:mR} {a:AS} {w w':World}
theorem sW.mch(H:sW en E base O mb n s a w):Mch base O mb n s a w:=by
 obtain⟨b,m,g,p,mp,pg,v,l,h,k,H,e,h1,h2,_⟩:=H;exact⟨b,m,g,p,mp,pg,v,en,l,h,k,H,e,h1,h2⟩
theorem sW.step(H:sW en E base O mb n s a w)(hb:Below w.heap.size w w'):sW en E base O mb n s a w':=by
 obtain⟨b,m,g,p,mp,pg,v,l,h,k,H,r⟩:=H;exact⟨b,m,g,p,mp,pg,v,l,h,k,H.step hb,r⟩
theorem sW.keep(H:sW en E base O mb n s a w){O':Nat→Prop}(kk:lS O' w w')(hd:∀j,O j→¬O' j)(hu:∀j,O' j→∀cs fr,w.heap[j]?≠some (.cells cs 5 fr)):sW en E base O mb n s a w':=by
 obtain⟨b,m,g,p,mp,pg,v,l,h,k,H,rfl,r⟩:=H;exact⟨b,m,g,p,mp,pg,v,l,h,k,H.keep kk hd hu,rfl,r⟩
theorem sW.key(H:sW en E base O mb n s a w)(e:Ev)(hks:a.ks.length<1000):Calls Tryz.prog 26 #[.pointer (some ⟨mb,0,none⟩),.agg (ec e)] w fun x w'=>x=.returned (.tuple #[])∧sW en E base O mb n (uE s a e) (wZ s a e) w'∧lS O w w':=by
 obtain⟨b,m,g,p,mp,pg,v,l,h,k,H,rfl,r⟩:=H;refine(JU H e hks).mono ?_;rintro x w' ⟨rfl,H',K⟩;exact⟨rfl,⟨b,m,g,p,mp,pg,v,l,h,k,H',rfl,r⟩,K⟩
theorem sW.run(N:Nat)(E0:uP N)(H:sW en E base O mb n s a w)(L:cQ w)(hB:1<base)(hx:s.ex≤90000)(hn:n≤90000):Calls Tryz.prog 40 #[.pointer (some ⟨mb,0,none⟩)] w fun e w'=>e=.returned (.bool (bU s a))∧∃O',sW en (fun l=>en=true→s.k=0→(wA s a).op=38→(mG l (gQ a.pc)).isSome=true) base O' mb (n+1) (nmM s a) (yI N s a) w'∧lS O w w'∧vK O O' w.heap.size:=by
 obtain⟨b,m,g,p,mp,pg,v,l,h,k,H,rfl,r1,r2,_⟩:=H;have hb:base≤w.heap.size:=by have:=H.bk.lt;have:=H.low.1;omega
 refine(i5 N E0 H L hB hb hx zGX zGX).mono ?_;rintro e w' ⟨rfl,pg',v',l',h',k',H',K,G,c1,c2,c3⟩;exact⟨rfl,_,⟨b,m,g,p,mp,pg',v',l',h',k',H',rfl,by omega,by omega,c3⟩,K,G⟩
end
theorem newE(N:Nat)(CS:vR N){A B FA:Option Addr}{n c k d fn fc:Nat}{R L F:List Int}{q:Pr}{en:Bool}{w:World}(LW:cQ w)(hA:Rd w A R)(hn:R.length=n)(n1:n≤65024)(hB:Rd w B L)(hk:L.length=k)(k1:k≤100000)(hR:Bts R)(hL:Bts L)(hF:Fls w FA F)(hf:F.length=fn)(hq:1≤q.lv∧q.lv≤3):
  Calls Tryz.prog 24 #[.agg (cfC (.slice A n c) (.slice B k d) (.slice FA fn fc) q en)] w fun e w'=>∃mb O,e=.returned (.tuple #[.pointer (some ⟨mb,0,none⟩),.int .i64 0])∧sW en (fun l=>l=[]) w.heap.size O mb 0 (wU q) (uB R L) w'∧Below w.heap.size w w':=by
 refine(OZ N CS LW hA hn n1 hB hk k1 hR hL hF hf hq).mono ?_;rintro e w' ⟨mb,b,m,g,p,mp,v,rfl,X,bb⟩;exact⟨mb,_,rfl,⟨b,m,g,p,mp,_,v,[],0,0,X,rfl,zG _,zG _,rfl⟩,bb⟩
def yX:Pr:=⟨2,false,false,false,false,false,false,false⟩
def uS:AS:=uB [0,253] []
def rE:mR:=⟨yX,2,0,512,0,0,1⟩
theorem bts20a:Bts [0,253]:=RI zGL (RI zGL zN1)
theorem zVN(b2 b3:Nat):dec 0 253 b2 b3 2=⟨38,0,0,0,0,0,2⟩:=rfl
theorem zKT:wA (wU yX) uS=⟨38,0,0,0,0,0,2⟩:=zLA [0,253] zGL bts20a 0 0 253 rfl rfl 2 _ zVN
theorem zHO:okM (wU yX) uS=true:=rfl
theorem zH3:efM (wU yX) uS=⟨0,true,false,false⟩:=by
 unfold efM;rw[zN zHO,zKT];show efA uS 38 0 0 0 yX=_;unfold efA;rw[show caA uS 38 0 0 0 yX=0 from rfl];rfl
theorem nm20a:nmM (wU yX) uS=rE:=by
 unfold nmM;rw[zN (show(wU yX).k=0 from rfl),zH3];rfl
theorem st20a(N:Nat):yI N (wU yX) uS=uS:=by
 unfold yI asM;rw[zN (show(wU yX).k=0 from rfl),zN zHO,zKT];show stA N uS 38 0 0 0 0 0 2 yX=_;unfold stA;rw[show caA uS 38 0 0 0 yX=0 from rfl];rfl
theorem dr20a:bU (wU yX) uS=false:=by unfold bU;rw[zH3];rfl
theorem zQ3(l:Int):Tryz.prog.built 24 [(0,.int .i64 l)]=some (prc ⟨l,false,false,false,false,false,false,false⟩):=by kernel_rfl
theorem E6(k p:Int):Tryz.prog.built 34 [(0,.int .i64 k),(2,.int .i64 p)]=some (xN k 0 p 0):=by kernel_rfl

theorem zKH{c:Prop}[Decidable c]{x y:AS}{v:List Ev}(hx:x.ks=v)(hy:y.ks=v):(if c then x else y).ks=v:=by split<;>assumption
theorem ks_st(N:Nat)(a:AS)(op:Int)(x y n nn:Nat)(addr len:Int)(q:Pr):(stA N a op x y n nn addr len q).ks=a.ks:=by
 have hs:∀(b:AS) (t:Bool) (l:Int),(rW b t l).ks=b.ks:=fun b t l=>by unfold rW;split<;>rfl
 have hm:∀(b:AS) (k:Nat),(ZX b op x y k q.ki).ks=b.ks:=fun b k=>by
  have h:(QR b op x y k).ks=b.ks:=by unfold QR;repeat' (first|rfl|refine zKH ?_ ?_)
  unfold ZX
  split
  ·exact h
  ·exact h
 have h0:(nxA a len).ks=a.ks:=rfl
 have hd:∀b:AS,(eJ b op n).ks=b.ks:=fun b=>by unfold eJ;repeat' (first|rfl|refine zKH ?_ ?_)
 unfold stA
 split
 ·split
  ·rfl
  ·unfold stB;repeat' split
   all_goals (first|rfl|exact(hs ..).trans h0|exact(hm ..).trans h0|skip)
   all_goals (unfold WA;repeat' (first|exact hd (nxA a len)|refine zKH ?_ ?_))
 ·rfl
theorem CW(N:Nat)(s:mR)(a:AS):(yI N s a).ks=a.ks:=by
 unfold yI asM;split
 ·split
  ·exact ks_st ..
  ·rfl
 ·rfl
theorem Mch.off{base:Nat}{O:Nat→Prop}{mb n:Nat}{s:mR}{a:AS}{w:World}(H:Mch base O mb n s a w){q:Nat}{T:TypeId}{cs:Array Value}(hq:Blk q T cs w)(hT:T≠89∧T≠144∧T≠148∧T≠168∧T≠159∧T≠190∧T≠101):¬O q:=by
 have hb:=H.bs;obtain⟨b,m,g,p,mp,pg,v,en,l,h,k,H,rfl,_⟩:=H;exact(H.mr hb).off hq hT
end
section
open Go.RowKit Go.Shelf Num Dec Cpu
attribute [local go_sem] Oper.semAt_some
def frN(N:Nat):Nat→mR→AS→mR×AS
 |0,s,a=>(s,a)
 |k+1,s,a=>if s.k≠0 then(s,a)else if bU s a=true then(nmM s a,yI N s a)else frN N k (nmM s a) (yI N s a)
theorem pV(N k:Nat){s:mR}(a:AS)(h:s.k≠0):frN N k s a=(s,a):=by
 cases k with
 |zero=>rfl
 |succ k=>unfold frN;rw[zN h]
theorem Mch.more{base:Nat}{O:Nat→Prop}{mb n n':Nat}{s:mR}{a:AS}{w:World}(H:Mch base O mb n s a w)(h:n≤n'):Mch base O mb n' s a w:=by
 obtain⟨b,m,g,p,mp,pg,v,en,l,hh,k,H,e,h1,h2⟩:=H;exact⟨b,m,g,p,mp,pg,v,en,l,hh,k,H,e,by omega,by omega⟩
theorem zQW(k c p y:Int)(w:World):(Instr.field 34 (.agg #[.int .i64 k,.int .i64 c,.int .i64 p,.int .i64 y]) 0).run Tryz.prog w=.ok (.int .i64 k) w:=by
 have h:(Tryz.prog.fieldsOf 34)[0]?.map (fun f=>(f.offset,f.type))=some (0,3):=zGV;simp[Instr.field,go_sem,jV Tryz.underlying34,jV Tryz.underlying3,part,isAgg,asAgg]
theorem IP(N:Nat)(E0:uP N)(l:Nat)(o:Obj)(hoc:o.isCells=false)(hY:∀W,W.heap[l]?=some o→YieldAt Fence.wide 4 Tryz.prog l #[] W fun e W'=>e=.returned (.bool true)∧W'=W)
  {base:Nat} {O:Nat→Prop} {mb n:Nat} {s:mR} {a:AS} {W:World} (H:Mch base O mb n s a W) (L:cQ W) (hB:1<base) (nn bI bM:Nat) (hI:Blk bI 3 #[.int .i64 (nn:Int)] W) (hM:Blk bM 29 #[.pointer (some ⟨mb,0,none⟩)] W) (hl:W.heap[l]?=some o) (hOl:¬O l) (hx:s.ex+(nn:Int)≤90000) (hn:n+nn≤90000) (hn2:nn≤65535):
  CallsIn Fence.wide 5 Tryz.prog 39 #[.func (.yield l) #[] #[],.pointer (some ⟨bI,0,none⟩),.pointer (some ⟨bM,0,none⟩)] W fun e W'=>(∃v,e=.returned v)∧W'.heap[l]?=some o∧∃O',Mch base O' mb (n+nn) (frN N nn s a).1 (frN N nn s a).2 W'∧lS O W W'∧vK O O' W.heap.size:=by
 have HH:=zW H;have HE:=zW E0;have HL:=zW (fun u (k:lS O W u)=>L.below (k.below H.bs fun j hj=>(H.blt j hj).1) hB);have HY:=zW hY;have HB:=zW hB;have HX:=zW (zM hx hn);have HM:=zW (fun u (k:lS O W u)=>(show Blk bM 29 #[.pointer (some ⟨mb,0,none⟩)] u from(k.block bM hM.lt (H.off hM ⟨by decide,by decide,by decide,by decide,by decide,by decide,by decide⟩)).trans hM));have Hl:=zW (fun u (k:lS O W u)=>(show u.heap[l]?=some o from(k.block l (qM.1 hl).1 hOl).trans hl));have cI:W.cell? ⟨bI,0,none⟩=some (.int .i64 (nn:Int)):=(hI.cell 0).trans rfl;clear H E0 L hB hI hM hl hOl hx hn hY hoc;refine callsIn_of_wp Tryz.func39 rfl trivial ?_ rfl;simp only[Tryz.ntmps39,jN,List.length_cons,List.length_nil,Nat.reduceAdd,Nat.reduceSub,jY,Array.replicate_zero,jR,jL,List.nil_append,List.cons_append];gi_wp2
 gi_loopw [6] (fun i wr=>∃k:Nat,k≤nn∧i=.int .i64 (k:Int)∧lS O W wr∧∃Oi si ai,Mch base Oi mb (n+k) si ai wr∧vK O Oi W.heap.size∧frN N (nn-k) si ai=frN N nn s a∧si.ex≤s.ex+(k:Int)) (fun i _=>nn-(intOf i).toNat)
 case atStart=>exact⟨0,qW _,rfl,lS.refl,O,s,a,HH.out,vK.refl,rfl,by omega⟩
 case round=>
  clear cI HH
  obtain⟨k,hk,rfl,hK,Oi,si,ai,hX,hG,hf,hex⟩:=hrel
  have KK:=zW hK
  have X:=zW hX
  have GG:=zW hG
  have FF:=zW (zM hf hex)
  clear hK hX hG hf hex
  by_cases hlt:k<nn
  ·have ki:(k:Int)<(nn:Int):=zGX
   have kb:(k:Int)≤65535:=zGX
   have JX:=zW hlt
   have cM:wr.cell? ⟨bM,0,none⟩=some (.pointer (some ⟨mb,0,none⟩)):=((HM.out wr KK.out).cell 0).trans rfl
   obtain⟨k',hk'⟩:∃k',nn-k=k'+1:=⟨nn-k-1,by omega⟩
   have KE:=zW (show nn-k=k'+1∧nn-(k+1)=k' from⟨hk',by omega⟩)
   have MS:=zW (show Calls Tryz.prog 13 #[.pointer (some ⟨mb,0,none⟩)] wr fun e w'=>e=.returned (.agg #[.int .i64 si.k,.int .i64 si.c,.int .i64 si.p,.int .i64 si.y])∧Below wr.heap.size wr w' from aM X.out)
   clear hk' hk
   gi_wp2_with fail
   refine⟨trivial,?_⟩
   refine(callsIn_wide.2 MS.out).mono ?_
   rintro e w2 ⟨rfl,b2⟩
   have X:=zW (X.out.step b2)
   have KK:=zW (KK.out.trans (lS.of_below (O:=fun _=>False) b2) fun _ c=>c.elim)
   clear b2 MS cM
   have hfi:=zQW si.k si.c si.p si.y w2
   by_cases h0:si.k=0
   ·have e0:(si.k !=0)=false:=by rw[h0];rfl
    have cM:w2.cell? ⟨bM,0,none⟩=some (.pointer (some ⟨mb,0,none⟩)):=((HM.out w2 KK.out).cell 0).trans rfl
    have H0:=zW h0
    clear h0
    gi_wp2_with fail
    refine⟨trivial,?_⟩
    refine(callsIn_wide.2 (OM N HE.out X.out (HL.out _ KK.out) HB.out (by have:=HX.out.1;have:=FF.out.2;have:=JX.out;omega) (by have:=HX.out.2;have:=JX.out;omega))).mono ?_
    rintro e w3 ⟨rfl,O',X3,K3,G3⟩
    have G5:=zW (GG.out.trans G3 KK.out.size)
    have KK:=zW (KK.out.trans K3 GG.out)
    have X:=zW X3
    clear X3 K3 G3 cM
    obtain⟨fn,tmps,assign,body,hy,hR⟩:=HY.out w3 (Hl.out w3 KK.out)
    obtain⟨dr,hdr⟩:∃dr,bU si ai=dr:=⟨_,rfl⟩
    rw[hdr]
    have DRh:=zW hdr
    clear hdr
    gi_wp2_with fail
    refine hR.mono ?_
    rintro e W4 ⟨rfl,rfl⟩
    cases dr
    ·gi_wp2
     go_roundw
     case rel=>exact⟨k+1,JX.out,by go_num,KK.out,O',_,_,X.out,G5.out,by rw[←FF.out.1,KE.out.1,KE.out.2];unfold frN;rw[zL (fun c=>c H0.out),zL (by rw[DRh.out];decide)];cases k'<;>rfl,by have:=(CU si ai).2;have:=FF.out.2;omega⟩
     case measure=>have:=JX.out;simp[intOf];omega
    ·gi_wp2
     refine zP (results_none rfl _ _ _) rfl ?_
     refine⟨⟨_,rfl⟩,Hl.out _ KK.out,O',?_,KK.out,G5.out⟩
     rw[←FF.out.1,KE.out.1,show frN N (k'+1) si ai=(nmM si ai,yI N si ai)from by unfold frN;rw[zL (fun c=>c H0.out),zN DRh.out]]
     exact X.out.more (by have:=JX.out;omega)
   ·have e0:(si.k !=0)=true:=by simpa using h0
    have H0:=zW h0
    clear h0
    gi_wp2
    refine zP (results_none rfl _ _ _) rfl ?_
    refine⟨⟨_,rfl⟩,Hl.out _ KK.out,Oi,?_,KK.out,GG.out⟩
    rw[←FF.out.1,pV N _ ai H0.out]
    exact X.out.more (by have:=JX.out;omega)
  ·have ki:¬(k:Int)<(nn:Int):=zGX
   have EK:=zW (show k=nn by omega)
   gi_wp2
   go_end0
   refine⟨⟨_,rfl⟩,Hl.out _ KK.out,Oi,?_,KK.out,GG.out⟩
   rw[←FF.out.1,show nn-k=0 from by have:=EK.out;omega]
   exact X.out.more (by have:=EK.out;omega)
end
section
open Go.RowKit Num Dec Cpu
section
variable {ops:Array Oper} {C:World→Prop} {Q:Act→Prop} {o:Oper} {rest:List Oper} {ac:Act}
end
end
end Go.Proofs.YtbpniahcjbagmaaGreatDoor
