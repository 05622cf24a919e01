/- CpuSmall, CpuBuild, CpuAwake, CpuLaw, CpuStart, CpuRun, CpuM1, CpuM7, CpuM9, CpuOpen, CpuMt. -/
import Derived.Test.YtcjldabaekbdlaaGreatDoorMCpuSame
import Derived.Test.YtcjldabaekbdlaaGreatDoorMCpuRef10
set_option maxRecDepth 400000
set_option maxHeartbeats 64000000
set_option linter.unusedVariables false
set_option linter.unusedSimpArgs false
namespace Go.Proofs.YtcjldabaekbdlaaGreatDoor
section
open Go.RowKit Num Dec Cpu
theorem mL{P:Program}{ops:Array Oper}{T ty:TypeId}{b n:Nat}{cs:Array Value}{w:World}{Q:Exit→Act→World→Prop}{rest:List Oper}{op:Oper}{a:Act}(A:xX P ty n)(H:Blk b T cs w)(hn:cs.size=n)(hw:Region.wanted op (yielded ops a.tmps)=true)(x:Operand)(ho:op.op=.load ty x)(hx:a.eval x=.pointer (some ⟨b,0,none⟩))
  (h:wpList P ops Q rest (a.put op.dst (.agg cs)) w):wpList P ops Q (op::rest) a w:=
 wpList_step fun K hK=>by rw[zG hw];unfold Oper.wp;rw[dB A H hn x ho hx];exact hK _ _ h
theorem zH4(w:World)(a b c:Obj):Below w.heap.size w (((w.alloc a).alloc b).alloc c):=by go_grown
theorem tS(b0 b1 b2 b3:Nat)(q:Pr)(w:World)(h0:b0<256)(h1:b1<256)(h2:b2<256)(h3:b3<256):
  Calls Tryz.prog 19 #[.agg #[.int .u8 (b0:Int),.int .u8 (b1:Int),.int .u8 (b2:Int),.int .u8 (b3:Int)],.agg (prc q)] w fun e w'=>e=.returned (.agg (lI (dec b0 b1 b2 b3 q.lv)))∧Below w.heap.size w w':=by
 have DC:=zW (fun w=>QM b0 b1 b2 b3 q.lv w h0 h1 h2 h3);generalize dec b0 b1 b2 b3 q.lv=i at*;have hp:(prc q)[0]?=some (.int .i64 q.lv):=rfl;generalize prc q=P at*;generalize q.lv=l at*;have B0:=zW (zH4 w (.cells #[.int .u8 (b0:Int),.int .u8 (b1:Int),.int .u8 (b2:Int),.int .u8 (b3:Int)] 29) (.cells P 31) (.cells wQ 47));have O0:=zW (Blk.new ((w.alloc (.cells #[.int .u8 (b0:Int),.int .u8 (b1:Int),.int .u8 (b2:Int),.int .u8 (b3:Int)] 29)).alloc (.cells P 31)) 47 wQ);simp only[zR]at O0;clear h0 h1 h2 h3;go_enter Tryz.func19,Tryz.ntmps19;go_wp2_with fail;refine(DC.out _).mono ?_;rintro e w' ⟨rfl,b⟩;have O0:=zW (O0.out.step b);have B0:=zW (B0.out.trans (b.mono B0.out.size));clear b;simp only[];go_at_K
 iterate 1 go_step
 refine lE (ds:=lI i) mN O0.out rfl rfl zR2 rfl (.tmp 4) (.tmp 15) rfl rfl rfl ?_;simp only[Act.put,zQ,zZ,zJ];have R:=O0.out.store (lI i);have B:=lU B0.out (by omega:w.heap.size≤w.heap.size+1+1) (lI i);iterate 4 go_step
 exact zT (zF rfl _ _ (w.heap.size+1+1) _ _ _ _ rfl R Tryz.underlying47 rfl mN.i) rfl ⟨rfl,B⟩
theorem oJ(f:Ef)(w:World):Calls Tryz.prog 22 #[.agg (efc f)] w fun e w'=>e=.returned (.agg (efc f))∧Below w.heap.size w w':=by
 unfold efc;go_enter Tryz.func22,Tryz.ntmps22;exact zSB
theorem tC(N:Nat)(hN:N=8192)(u:US)(R L:List Int)(S:List Nat)(ks:List Ev)(FL:List Int)(base lg b m g:Nat)(v:Value)(w:World)(H:UR w u R L S ks FL)(hC:RC base lg b m g v (ofA u R L S ks FL) w)(O:OkA (ofA u R L S ks FL)):
  Calls Tryz.prog 17 #[.pointer (some ⟨b,0,none⟩),.agg (usc u)] w fun e w'=>e=.returned (.bool true)∧Below w.heap.size w w':=by
 have NN:=zW hN;have UU:=zW H;have CC:=zW hC;have OO:=zW O;have U0:=zW (Blk.new w 28 (usc u));have B0:=zW (mJ w (.cells (usc u) 28));have OF:=zW (fun w' (h:UR w' u R L S ks FL)=>fL N hN u R L S ks FL w' h);generalize ofA u R L S ks FL=a at*;clear H hC O hN;go_enter Tryz.func17,Tryz.ntmps17;go_upto_region 0 with fail;refine zN ?_;refine mZ rfl _ (.tmp 1) rfl (usc u) rfl ?_;simp only[Act.put,zQ,zZ,zJ];obtain⟨g0,hg0⟩:∃g,w.heap.size=g:=⟨_,rfl⟩;rw[hg0]at U0⊢;have GE:=zW hg0;generalize World.alloc _ _=w1 at U0 B0⊢;clear hg0;go_upto_region 1 with fail;refine zN ?_;iterate 11 go_step
 refine mL yL U0.out (n8 _) rfl (.tmp 3) rfl rfl ?_;simp only[Act.put,zQ,zZ,zJ];go_wp2_with fail;refine(OF.out _ (UU.out.step B0.out)).mono ?_;rintro e w2 ⟨z,rfl,rz,b2,_⟩;have RZ:=zW rz;have B2:=zW (B0.out.trans (b2.mono B0.out.size));clear b2 rz;go_wp2_with fail;refine(wT N NN.out a z base b m g v _ (CC.out.step B2.out).st (CC.out.step B2.out).mem (CC.out.step B2.out).rnd RZ.out OO.out).mono ?_;rintro e w3 ⟨rfl,b3⟩;have B3:=zW (B2.out.trans (b3.mono B2.out.size));clear b3;go_wp2_with fail;go_ret;exact⟨rfl,B3.out⟩
theorem RC.own{base lg b m g:Nat}{v:Value}{a a':AS}{w w':World}(h:RC base lg b m g v a w)(hb:Blk b 84 (stC a' m g) w')(hs:w.heap.size≤w'.heap.size)(hk:∀k,k≠b→w'.heap[k]?=w.heap[k]?)(eM:a'.M=a.M)(eL:a'.L=a.L)(eR:a'.rd=a.rd)(hres:∀i,i<4→uD (a'.F i) (wid a'.hi) (hei a'.hi)):RC base lg b m g v a' w':=by
 obtain⟨n1,n2,n3,n4,n5,n6⟩:=h.ne;have rowk:∀{bs n size:Nat} {e:TypeId} {u:Value} {xs:List Value},w.ownsRow bs e size u n xs→u.ownBlock≠some b→w'.ownsRow bs e size u n xs:=fun o hn=>by
  exact zFB
 refine⟨hb,?_,?_,?_,hres,h.bb,h.bm⟩
 ·rw[eM];exact(hk m (fun e=>n1 e.symm)).trans h.mem
 ·obtain⟨n,xs,o,r⟩:=h.log;exact⟨n,xs,rowk o n4,r⟩
 ·rw[eL,eR];obtain⟨A,c,hg,o⟩:=h.rnd.held;exact⟨h.rnd.low,A,c,(hk g (fun e=>n2 e.symm)).trans hg,rowk o fun e=>h.row_off o ⟨by decide,by decide,by decide,by decide⟩ _ e (.inl rfl)⟩
theorem RC.put{base lg b m g:Nat}{v:Value}{a a':AS}{w:World}(h:RC base lg b m g v a w)(k:Nat)(x:Value)(e:(stC a m g).setIfInBounds k x=stC a' m g)(eM:a'.M=a.M)(eL:a'.L=a.L)(eR:a'.rd=a.rd)(hres:∀i,i<4→uD (a'.F i) (wid a'.hi) (hei a'.hi)):RC base lg b m g v a' (w.setCell ⟨b,k,none⟩ x):=
 h.own ((h.st.put k x).eq e) zB3 (fun j hj=>qQ _ _ _ _ hj) eM eL eR hres
theorem RC.row{base lg b m g:Nat}{v:Value}{a a':AS}{w:World}{cs:Array Value}(h:RC base lg b m g v a w)(e:cs=stC a' m g)(eM:a'.M=a.M)(eL:a'.L=a.L)(eR:a'.rd=a.rd)(hres:∀i,i<4→uD (a'.F i) (wid a'.hi) (hei a'.hi)):RC base lg b m g v a' (w.setRow b cs):=
 h.own (by rw[e];exact h.st.store _) zBD (fun j hj=>zA _ _ _ _ hj) eM eL eR hres
theorem RC.away{base lg b m g:Nat}{v:Value}{a:AS}{w w':World}{q:Nat}{T:TypeId}{cs:Array Value}(h:RC base lg b m g v a w)(hq:Blk q T cs w)(hT:T≠84∧T≠213∧T≠236∧T≠254∧T≠5)(hs:w.heap.size≤w'.heap.size)(hk:∀k,k≠q→w'.heap[k]?=w.heap[k]?):RC base lg b m g v a w':=by
 have no:∀k,yR b m g v k→k≠q:=fun k hk e=>by
  obtain⟨cs',T',fr,hh,hT'⟩:=h.tag k hk;have hq:w.heap[q]?=some (.cells cs T (0,0)):=hq;rw[e,hq]at hh;injection hh with hh
  injection hh with _ e3
  subst e3;rcases hT' with e4|e4|e4|e4
  ·exact hT.1 e4
  ·exact hT.2.1 e4
  ·exact hT.2.2.1 e4
  ·exact hT.2.2.2.1 e4
 have rowk:∀{bs n size:Nat} {e:TypeId} {u:Value} {xs:List Value},w.ownsRow bs e size u n xs→u.ownBlock≠some q→w'.ownsRow bs e size u n xs:=fun o hn=>by
  exact zFB
 refine⟨(hk b (no b (.inl rfl))).trans h.st,(hk m (no m (.inr (.inl rfl)))).trans h.mem,?_,?_,h.res,h.bb,h.bm⟩
 ·obtain⟨n,xs,o,r⟩:=h.log;exact⟨n,xs,rowk o fun e=>no q (.inr (.inr (.inr e))) rfl,r⟩
 ·obtain⟨A,c,hg,o⟩:=h.rnd.held;exact⟨h.rnd.low,A,c,(hk g (no g (.inr (.inr (.inl rfl))))).trans hg,rowk o (vY o hq fun e=>hT.2.2.2.2 e.symm)⟩
theorem PV(v:Bool)(M:Nat):lO (m6 v (M:Int))=lO ⟨fun i=>fwd ((fun _ _=>false:Nat→Nat→Bool) i),v,(M:Int)⟩:=gG (fun i hi y hy=>eI fun x hx=>by rw[wP _ _ _ hx];exact tT _) rfl rfl
theorem uU(hi:Bool):∀i,i<4→uD ((fun _ _=>false:Nat→Nat→Bool) i) (wid hi) (hei hi):=fun i _=>pE _ _
theorem dn_up(ks:List Ev)(j:Nat)(hj:j<16):aft up ks j=dnA ks j:=by
 unfold dnA dn;rw[jS];simp;omega
theorem bI(u:US)(k:Nat):(usc u)[18+k]?=(uscT u)[k]?:=by
 unfold usc;rw[zX,qP zBS,qP zBS];simp;congr 1
 omega
def bS1(u:US)(R L:List Int)(sk:List Int):AS:=⟨u.v,(u.i:Int),(u.pc:Int),sk,yJ R,fun _ _=>false,false,1,[],0,0,cC mU,64,mU,L,0⟩
theorem zGN:xX Tryz.prog 77 2:=⟨⟨_,Tryz.underlying77,rfl⟩,by kernel_rfl⟩
theorem zYO:xX Tryz.prog 72 514:=⟨⟨_,Tryz.underlying72,rfl⟩,by kernel_rfl⟩
theorem zY1:xX Tryz.prog 81 16:=⟨⟨_,Tryz.underlying81,rfl⟩,by kernel_rfl⟩
theorem zH7(u:US)(R L T1 T2:List Int)(m g:Nat):m3 (stC (bS1 u R L T1) m g) 18 (nS T2)=stC (bS1 u R L T2) m g:=aS (bS1 u R L T1) m g T2
def bS2(u:US)(R L T:List Int)(ks:List Ev):AS:=⟨u.v,(u.i:Int),(u.pc:Int),T,yJ R,fun _ _=>false,false,1,ks,0,0,cC mU,64,mU,L,0⟩
def bS3(u:US)(R L T:List Int)(ks:List Ev):AS:=⟨u.v,(u.i:Int),(u.pc:Int),T,yJ R,fun _ _=>false,false,1,ks,u.dl,u.sd,cC mU,64,mU,L,0⟩
def bS4(u:US)(R L T:List Int)(ks:List Ev)(km:Nat):AS:=⟨u.v,(u.i:Int),(u.pc:Int),T,yJ R,fun _ _=>false,u.hr,km,ks,u.dl,u.sd,cC mU,64,mU,L,0⟩
theorem zH8(u:US)(R L T:List Int)(ks:List Ev)(m g:Nat):m3 (stC (bS1 u R L T) m g) 550 (kc (aft up ks))=stC (bS2 u R L T ks) m g:=F7 (bS1 u R L T) m g ks (dn_up ks)
theorem zH6(u:US)(R L T:List Int)(ks:List Ev)(m g:Nat):m3 (stC (bS2 u R L T ks) m g) 566 #[.int .u8 (u.dl:Int),.int .u8 (u.sd:Int)]=stC (bS3 u R L T ks) m g:=F6 (bS2 u R L T ks) m g u.dl u.sd
theorem zH5(u:US)(R L T:List Int)(ks:List Ev)(km m g:Nat):m3 (stC (bS3 u R L T ks) m g) 36 (lO ((m6 u.hr 1).mask (km:Int)))=stC (bS4 u R L T ks km) m g:=
 yG (bS3 u R L T ks) m g (fun _ _=>false) u.hr km (gG (fun i hi y hy=>eI fun x hx=>by rw[wP _ _ _ hx];exact tT _) rfl rfl)
theorem bS4_fl(u:US)(R L:List Int)(S:List Nat)(ks:List Ev)(FL:List Int)(m g:Nat):m3 (stC (bS4 u R L (wZ S) ks (u.msk%16)) m g) 585 (pc (ov mU FL))=stC (ofA u R L S ks FL) m g:=NP (bS4 u R L (wZ S) ks (u.msk%16)) m g (ov mU FL)
structure BU(b m g g0:Nat)(v:Value)(a:AS)(u:US)(w0 w:World):Prop where
 rc:RC w0.heap.size 0 b m g v a w
 u:Blk g0 28 (usc u) w
 low:Below w0.heap.size w0 w
 ne:g0≠b
section
variable {b m g g0:Nat} {v:Value} {a a':AS} {u:US} {w0 w w':World}
theorem BU.step(h:BU b m g g0 v a u w0 w)(hb:Below w.heap.size w w'):BU b m g g0 v a u w0 w':=⟨h.rc.step hb,h.u.step hb,h.low.trans (hb.mono h.low.size),h.ne⟩
theorem BU.put(h:BU b m g g0 v a u w0 w)(k:Nat)(x:Value)(e:(stC a m g).setIfInBounds k x=stC a' m g)(eM:a'.M=a.M)(eL:a'.L=a.L)(eR:a'.rd=a.rd)(hres:∀i,i<4→uD (a'.F i) (wid a'.hi) (hei a'.hi)):BU b m g g0 v a' u w0 (w.setCell ⟨b,k,none⟩ x):=
 ⟨h.rc.put k x e eM eL eR hres,h.u.other h.ne _ _,h.low.setCell (p:=⟨b,k,none⟩) h.rc.bb x,h.ne⟩
theorem BU.row{cs:Array Value}(h:BU b m g g0 v a u w0 w)(e:cs=stC a' m g)(eM:a'.M=a.M)(eL:a'.L=a.L)(eR:a'.rd=a.rd)(hres:∀i,i<4→uD (a'.F i) (wid a'.hi) (hei a'.hi)):BU b m g g0 v a' u w0 (w.setRow b cs):=
 ⟨h.rc.row e eM eL eR hres,h.u.otherRow h.ne _,lU h.low h.rc.bb _,h.ne⟩
theorem BU.away{q:Nat}{T:TypeId}{cs ds:Array Value}(h:BU b m g g0 v a u w0 w)(hq:Blk q T cs w)(hT:T≠84∧T≠213∧T≠236∧T≠254∧T≠5)(hg:g0≠q)(hl:w0.heap.size≤q):BU b m g g0 v a u w0 (w.setRow q ds):=
 ⟨h.rc.away hq hT zBD (fun k hk=>zA _ _ _ _ hk),h.u.otherRow hg _,lU h.low hl _,h.ne⟩
theorem BU.ur{R L:List Int}{S:List Nat}{ks:List Ev}{FL:List Int}(h:BU b m g g0 v a u w0 w)(H:UR w0 u R L S ks FL):UR w u R L S ks FL:=H.step h.low
end
theorem tO(N:Nat)(hN:N=8192)(C:gS N)(u:US)(R L:List Int)(S:List Nat)(ks:List Ev)(FL:List Int)(w:World)(H:UR w u R L S ks FL)(hL:uO w):
  Calls Tryz.prog 16 #[.agg (usc u)] w fun e w'=>∃b m g v,e=.returned (.pointer (some ⟨b,0,none⟩))∧RC w.heap.size 0 b m g v (ofA u R L S ks FL) w'∧Below w.heap.size w w':=by
 have NW:=zW C.new_;have UU:=zW H;have U0:=zW (Blk.new w 28 (usc u));have B0:=zW (mJ w (.cells (usc u) 28));have LL:=zW hL;clear C hN H hL;go_enter Tryz.func16,Tryz.ntmps16;go_upto_region 0 with fail;refine zN ?_;refine mZ rfl _ (.tmp 0) rfl (usc u) rfl ?_;simp only[Act.put,zQ,zZ,zJ,zR];obtain⟨g0,hg0⟩:∃g,w.heap.size=g:=⟨_,rfl⟩;rw[hg0]at U0⊢;have GE:=zW hg0;generalize World.alloc _ _=w1 at U0 B0⊢;clear hg0;have u0:w1.cell? ⟨g0,0,none⟩=some (.slice u.rom.A u.rom.n u.rom.c):=(U0.out.cell 0).trans rfl;have u1:w1.cell? ⟨g0,1,none⟩=some (.slice u.lst.A u.lst.n u.lst.c):=(U0.out.cell 1).trans rfl;go_wp2_with fail;refine(NW.out u.rom.A u.rom.n u.rom.c R u.lst.A u.lst.n u.lst.c L w1 (LL.out.step B0.out) (UU.out.rom.1.below B0.out) UU.out.rom.2 (by have:=UU.out.r1;have:=UU.out.rom.2;omega) (UU.out.lst.1.below B0.out) UU.out.lst.2 (by have:=UU.out.l1;have:=UU.out.lst.2;omega)).mono ?_;rintro e w2 ⟨b,m,g,v,rfl,rc,b2⟩;have X:=zW (show BU b m g g0 v (uK R L) u w w2 from⟨⟨rc.st,rc.mem,zR6,rc.rnd.mono B0.out.size,rc.res,zD B0.out.size rc.bb,zD B0.out.size rc.bm⟩,U0.out.step b2,B0.out.trans (b2.mono B0.out.size),fun e=>by have h1:=U0.out.lt;have h2:=rc.bb;omega⟩);clear rc b2 u0 u1 U0 B0 NW LL;have s35:w2.cell? ⟨b,35,none⟩=some (.pointer (some ⟨m,0,none⟩)):=(X.out.rc.st.cell 35).trans (nJ _ m g zBY);have s601:w2.cell? ⟨b,601,none⟩=some (.pointer (some ⟨g,0,none⟩)):=(X.out.rc.st.cell 601).trans (nJ _ m g zBY);go_upto_region 4 with fail;clear s35 s601;refine zN ?_;iterate 6 go_step
 refine nA (o:=2) (n:=16) mD X.out.u (by rw[n8];decide) rfl (.tmp 33) rfl rfl ?_;rw[zG4];simp only[Act.put,zQ,zZ,zJ];iterate 6 go_step
 refine nG (o:=0) (ds:=rg u.v) mD X.out.rc.st (mK _) zBE (vT _) rfl (.tmp 36) (.tmp 34) rfl rfl rfl ?_;simp only[Act.put,zQ,zZ,zJ];have X:=zW (X.out.row (a':={uK R L with v:=u.v}) (RN _ m g u.v) rfl rfl rfl (uU false));generalize World.setRow _ _ _=w3 at X⊢;have u18:w3.cell? ⟨g0,18,none⟩=some (.int .u16 (u.i:Int)):=(X.out.u.cell 18).trans (bI u 0);have i16:=xM (show u.i<65536 by have:=UU.out.i;omega);have s16:w3.cell? ⟨b,16,none⟩=some (.int .i64 0):=(X.out.rc.st.cell 16).trans (nJ _ m g zBY);have f16:=X.out.rc.st.frozen 16;go_upto_region 6 with fail;clear u18 s16 f16 i16;have X:=zW (X.out.put (a':={uK R L with v:=u.v,i:=(u.i:Int)}) 16 (.int .i64 (u.i:Int)) (dC _ m g _) rfl rfl rfl (uU false));generalize World.setCell _ _ _=w4 at X⊢;have u19:w4.cell? ⟨g0,19,none⟩=some (.int .u16 (u.pc:Int)):=(X.out.u.cell 19).trans (bI u 1);have i17:=xM (show u.pc<65536 by have:=UU.out.pc;omega);have s17:w4.cell? ⟨b,17,none⟩=some (.int .i64 512):=(X.out.rc.st.cell 17).trans (nJ _ m g zBY);have f17:=X.out.rc.st.frozen 17;go_upto_region 7 with fail;clear u19 s17 f17 i17;have X:=zW (X.out.put (a':={uK R L with v:=u.v,i:=(u.i:Int),pc:=(u.pc:Int)}) 17 (.int .i64 (u.pc:Int)) (NC _ m g _) rfl rfl rfl (uU false));generalize World.setCell _ _ _=w5 at X⊢;have X:=zW (show BU b m g g0 v (bS1 u R L []) u w w5 from X.out);go_wp2_with fail;go_loopw [5] (fun t wr=>∃k:Nat,k≤S.length∧t=.int .i64 (k:Int)∧BU b m g g0 v (bS1 u R L (wZ (S.take k))) u w wr) (fun t _=>S.length-(intOf t).toNat)
 case atStart=>exact⟨0,by omega,rfl,X.out⟩
 case round=>
  clear X
  obtain⟨k,hk,rfl,hx⟩:=hrel
  have X:=zW hx
  clear hx
  have u20:wr.cell? ⟨g0,20,none⟩=some (.slice u.stk.A u.stk.n u.stk.c):=(X.out.u.cell 20).trans (bI u 2)
  by_cases hlt:k<S.length
  ·have kI:(k:Int)<(u.stk.n:Int):=by rw[←UU.out.stk.2];omega
   obtain⟨ad,eA,hab,hac⟩:=(X.out.ur UU.out).stk.1 (by intro e;rw[e]at hlt;cases hlt)
   have e20:wr.cell? (ad.add k)=some (.int .u16 (S[k]:Int)):=hac k hlt
   have hb16:S[k]≤65535:=UU.out.s2 _ (lS hlt)
   obtain⟨T1,hT1⟩:∃T,wZ (S.take k)=T:=⟨_,rfl⟩
   obtain⟨T2,hT2⟩:∃T,wZ (S.take (k+1))=T:=⟨_,rfl⟩
   have HT:=zW (show T1++[(S[k]:Int)]=T2 from by rw[←hT1,←hT2];unfold wZ;rw[j7 hlt,jD];rfl)
   have HS:=zW (show T1.length<16 from by rw[←hT1];unfold wZ;rw[jQ,qV];have:=UU.out.s1;omega)
   rw[hT1]at X
   have E2:=zW hT2
   clear hT1 hT2
   rw[eA]at u20
   obtain⟨y,hy⟩:∃y,S[k]=y:=⟨_,rfl⟩
   rw[hy]at e20 HT hb16
   have wy:=xM (show y<65536 by omega)
   have KY:∀x:mH wr,x.w.cell? (ad.add k)=some (.int .u16 (y:Int)):=fun x=>(x.below.cell (p:=ad.add k) (by rw[gQ];exact hab)).trans e20
   have k20:=mH.cell u20 X.out.u.lt
   have KL:=zW hlt
   have CS:=zW (mR X.out.rc.st)
   clear hy eA hab hac e20 hb16 hlt
   go_upto_region 10 with fail
   clear u20
   refine mX (C:=fun w'=>∃u:mH wr,w'=u.w) 15 [([0,1,2,3,4,5,6,7,8,9],10,true),([11,12,13],14,false)] [] [16] zBM zBM ?_ ?_ ⟨⟨wr.drew,(zB _ _).drew⟩,rfl⟩ ?_
   ·exact fun _ _ d _ _ h=>by cases d<;>exact h
   ·rintro _ w' ⟨u,rfl⟩ hg
    exact⟨⟨w',u.below.trans (hg.mono u.below.size)⟩,rfl⟩
   intro wd hwd
   clear hwd
   refine m4 zBN zBG ?_
   iterate 3 (go_big_quiet_step (fail))
   refine mG xE CS.out (o:=18) zBE ?_ (.tmp 59) ?_ ?_ ?_
   ·rfl
   ·rfl
   ·simp[Act.eval]
   rw[fW]
   simp only[Act.put,zQ,zZ,zJ]
   repeat(go_big_quiet_step (rfl))
   refine zM ?_
   refine m5 (v:=.tuple #[.agg (nS (T1++[(y:Int)])),.int .i64 0]) (nN (g:=49) (caps:=#[]) (args:=#[.agg (nS (T1)),.int .i64 (y:Int)]) (.func 49) #[.tmp 60,.tmp 66] #[62,3] rfl rfl (enters_of Tryz.func49 zBM rfl) (fun w' hw=>T6 (T1) (y:Int) HS.out w') rfl (by first|(simp[Act.eval,wy];done)|(simp[Act.eval,wy];rfl))) ?_
   simp only[Act.put,zQ,zZ,zJ]
   rw[HT.out]
   refine vW zBN zBG ?_
   repeat(go_big_quiet_step (rfl))
   refine zM ?_
   refine vV rfl ?_
   intro w6 g6 C6 K8 hK
   obtain⟨u6,rfl⟩:=C6
   refine nF OL rfl ?_
   refine hK _ _ ⟨⟨u6.w.alloc (.cells (nS []) 62),u6.below.alloc u6.below.size _⟩,rfl⟩ ?_
   clear hK K8 g6
   simp only[Act.put,zQ,zZ,zJ]
   have G6:=zW (Blk.new u6.w 62 (nS []))
   have X6:=zW ((X.out.step u6.below).step (mJ u6.w (.cells (nS []) 62)))
   have Z6:=zW (show wr.heap.size≤u6.w.heap.size from u6.below.size)
   obtain⟨q,hq⟩:∃q,u6.w.heap.size=q:=⟨_,rfl⟩
   generalize u6.w.alloc (.cells (nS []) 62)=w7 at*
   rw[hq]at G6 Z6⊢
   clear hq u6
   refine mE zBN zBG ?_
   repeat(go_big_quiet_step (rfl))
   refine zM ?_
   refine mC rfl ?_
   intro w8 g8 C8 K8 hK
   refine nH (ds:=nS (T2)) xE (G6.out.step g8) (nQ _) (nQ _) (yF _) (.tmp 6) (.tmp 68) rfl zBL zBL ?_
   have X8:=zW (X6.out.step g8)
   have X8:=zW (X8.out.away (ds:=nS (T2)) (G6.out.step g8) ⟨by decide,by decide,by decide,by decide,by decide⟩ (fun e=>by have h1:=X.out.u.lt;have h2:=Z6.out;omega) (by have h1:=X.out.low.size;have h2:=Z6.out;omega))
   have G8:=zW ((G6.out.step g8).store (nS (T2)))
   refine hK _ _ ?_
   clear hK K8 G6 X6
   generalize World.setRow _ _ _=w9 at X8 G8⊢
   simp only[Act.put,zQ,zZ,zJ]
   simp only[lA,zX,zK,zV]
   repeat(go_big_quiet_step (rfl))
   refine zM ?_
   intro w10 g10
   have X:=zW (X8.out.step g10)
   have G:=zW (G8.out.step g10)
   clear g10 g8 X8 G8 C8 k20 KY CS
   go_upto_region 11 with fail
   refine zN ?_
   iterate 3 go_step
   refine lP xE G.out (nQ _) rfl (.tmp 6) rfl rfl ?_
   simp only[Act.put,zQ,zZ,zJ]
   iterate 6 go_step
   refine nG (o:=18) (ds:=nS (T2)) xE X.out.rc.st (nQ _) zBE (yF _) rfl (.tmp 73) (.tmp 71) rfl rfl rfl ?_
   simp only[Act.put,zQ,zZ,zJ]
   have X:=zW (show BU b m g g0 v (bS1 u R L T2) u w (World.setRow w10 b (m3 (stC (bS1 u R L T1) m g) 18 (nS T2)))from X.out.row (zH7 u R L T1 T2 m g) rfl rfl rfl (uU false))
   generalize World.setRow w10 b (m3 (stC (bS1 u R L T1) m g) 18 (nS T2))=w11 at X⊢
   have kb:(k:Int)<16:=by have h1:=UU.out.s1;have h2:=KL.out;omega
   clear wy kI
   go_wp2_with fail
   go_roundw
   case rel=>exact⟨k+1,by have:=KL.out;omega,by go_num,by rw[E2.out];exact X.out⟩
   case measure=>simp[intOf];have:=KL.out;omega
  ·have kI:¬(k:Int)<(u.stk.n:Int):=by rw[←UU.out.stk.2];omega
   obtain rfl:k=S.length:=by omega
   rw[List.take_length]at X
   obtain⟨T,hT⟩:∃T,wZ S=T:=⟨_,rfl⟩
   rw[hT]at X
   have ET:=zW hT
   have EV:=zW (X.out.ur UU.out).keys
   have AL:=zW (fun w' (h:Evs w' u.keys.A u.keys.n ks)=>zGL up (aft up ks) (pW up ks) u.keys.A u.keys.n u.keys.c ks w' h (by have h1:=UU.out.k1;have h2:=UU.out.keys.len;omega) rfl rfl)
   have u21:wr.cell? ⟨g0,21,none⟩=some (.slice u.keys.A u.keys.n u.keys.c):=(X.out.u.cell 21).trans (bI u 3)
   clear hT
   obtain⟨KK,hKK⟩:∃K,aft up ks=K:=⟨_,rfl⟩
   rw[hKK]at AL
   have EK:=zW hKK
   clear hKK
   go_upto_region 12 with fail
   clear u20 kI hk hlt
   refine zN ?_
   iterate 3 go_step
   refine nU (cs:=kc up) rfl rfl (by simp[Act.eval];exact zXZ) ?_
   simp only[Act.put,zQ,zZ,zJ]
   go_wp2_with fail
   refine(AL.out _ EV.out).mono ?_
   rintro e w12 ⟨⟨A8,c8,rfl,_⟩,b12⟩
   have X:=zW (X.out.step b12)
   clear b12 u21 AL EV
   simp only[]
   go_at_K
   iterate 16 go_step
   refine nG (o:=550) (ds:=kc KK) wV X.out.rc.st (vF _) zBE (iX _) rfl (.tmp 83) (.tmp 80) rfl rfl rfl ?_
   simp only[Act.put,zQ,zZ,zJ]
   have X:=zW (show BU b m g g0 v (bS2 u R L T ks) u w (World.setRow w12 b (m3 (stC (bS1 u R L T) m g) 550 (kc KK)))from X.out.row (by rw[←EK.out];exact zH8 u R L T ks m g) rfl rfl rfl (uU false))
   generalize World.setRow w12 b (m3 (stC (bS1 u R L T) m g) 550 (kc KK))=w13 at X⊢
   have u22:w13.cell? ⟨g0,22,none⟩=some (.int .u8 (u.dl:Int)):=(X.out.u.cell 22).trans (bI u 4)
   have u23:w13.cell? ⟨g0,23,none⟩=some (.int .u8 (u.sd:Int)):=(X.out.u.cell 23).trans (bI u 5)
   go_upto_region 13 with fail
   refine zN ?_
   iterate 24 go_step
   refine nG (o:=566) (ds:=#[.int .u8 (u.dl:Int),.int .u8 (u.sd:Int)]) zGN X.out.rc.st rfl zBE zR4 rfl (.tmp 91) (.tmp 89) rfl rfl rfl ?_
   simp only[Act.put,zQ,zZ,zJ]
   have X:=zW (show BU b m g g0 v (bS3 u R L T ks) u w (World.setRow w13 b (m3 (stC (bS2 u R L T ks) m g) 566 #[.int .u8 (u.dl:Int),.int .u8 (u.sd:Int)]))from X.out.row (zH6 u R L T ks m g) rfl rfl rfl (uU false))
   generalize World.setRow w13 b (m3 (stC (bS2 u R L T ks) m g) 566 #[.int .u8 (u.dl:Int),.int .u8 (u.sd:Int)])=w14 at X⊢
   clear u22 u23
   obtain⟨km,hkm⟩:∃k,u.msk%16=k:=⟨_,rfl⟩
   have HKM:=zW hkm
   have u24:w14.cell? ⟨g0,24,none⟩=some (.bool u.hr):=(X.out.u.cell 24).trans (bI u 6)
   have u25:w14.cell? ⟨g0,25,none⟩=some (.int .u8 (u.msk:Int)):=(X.out.u.cell 25).trans (bI u 7)
   have k24:=mH.cell u24 X.out.u.lt
   have k25:=mH.cell u25 X.out.u.lt
   have m256:u.msk<256:=UU.out.msk
   have wm:Int.tmod (u.msk:Int) 16=(km:Int):=by rw[qT zBY];omega
   have wm2:(u.msk:Int)%16=(km:Int):=zBY
   have wm3:IntKind.u8.wrap (km:Int)=(km:Int):=vZ zBY
   have wm4:IntKind.i64.wrap (km:Int)=(km:Int):=xM zBY
   have CS:=zW (mR X.out.rc.st)
   clear hkm m256
   go_upto_region 14 with fail
   clear u24 u25
   refine mX (C:=fun w'=>∃u:mH w14,w'=u.w) 15 [([0,1,2,3,4,5,6,8,9,10,11],7,true),([],12,true)] [13,14] [] zBM zBM ?_ ?_ ⟨⟨w14.drew,(zB _ _).drew⟩,rfl⟩ ?_
   ·exact fun _ _ d _ _ h=>by cases d<;>exact h
   ·rintro _ w' ⟨u,rfl⟩ hg
    exact⟨⟨w',u.below.trans (hg.mono u.below.size)⟩,rfl⟩
   intro wd hwd
   clear hwd
   refine m4 zBN zBG ?_
   iterate 4 (go_big_quiet_step (fail))
   refine mG zYO CS.out (o:=36) zBE ?_ (.tmp 95) ?_ ?_ ?_
   ·rfl
   ·rfl
   ·simp[Act.eval]
   rw[rL]
   simp only[Act.put,zQ,zZ,zJ]
   repeat(go_big_quiet_step (rfl))
   refine zM ?_
   refine m5 (v:=.agg (lO (m6 u.hr 1))) (nN (g:=52) (caps:=#[]) (args:=#[.agg (lO (scA (bS3 u R L T ks))),.bool u.hr]) (.func 52) #[.tmp 96,.tmp 98] #[72,4] rfl rfl (enters_of Tryz.func52 zBM rfl) (fun w' hw=>TO (scA (bS3 u R L T ks)) u.hr w') rfl zBR) ?_
   simp only[Act.put,zQ,zZ,zJ]
   refine m4 zBN zBG ?_
   repeat(go_big_quiet_step (rfl))
   refine zM ?_
   refine m5 (v:=.agg (lO ((m6 u.hr 1).mask (km:Int)))) (nN (g:=51) (caps:=#[]) (args:=#[.agg (lO (m6 u.hr 1)),.int .i64 (km:Int)]) (.func 51) #[.tmp 99,.tmp 103] #[72,3] rfl rfl (enters_of Tryz.func51 zBM rfl) (fun w' hw=>QX (m6 u.hr 1) (km:Int) w') rfl (by first|(simp[Act.eval];done)|(simp[Act.eval,wm,wm3,wm4];done))) ?_
   simp only[Act.put,zQ,zZ,zJ]
   refine mE zBN zBG ?_
   repeat(go_big_quiet_step (rfl))
   refine zM ?_
   refine mC rfl ?_
   intro w15 g15 C15 K8 hK
   obtain⟨u15,rfl⟩:=C15
   have X15:=zW (X.out.step u15.below)
   refine nB (o:=36) (ds:=lO ((m6 u.hr 1).mask (km:Int))) zYO X15.out.rc.st (mV _) zBE (vE _) (.tmp 106) (.tmp 104) rfl zBL zBL ?_
   have X:=zW (show BU b m g g0 v (bS4 u R L T ks km) u w (World.setRow u15.w b (m3 (stC (bS3 u R L T ks) m g) 36 (lO ((m6 u.hr 1).mask (km:Int)))))from X15.out.row (zH5 u R L T ks km m g) rfl rfl rfl (uU _))
   refine hK _ _ ?_
   clear hK K8
   generalize World.setRow u15.w b (m3 (stC (bS3 u R L T ks) m g) 36 (lO ((m6 u.hr 1).mask (km:Int))))=w16 at X⊢
   simp only[Act.put,zQ,zZ,zJ]
   simp only[lA]
   refine zM ?_
   intro w17 g17
   have X:=zW (X.out.step g17)
   clear X15 CS g15 g17 u15 k24 k25 wm wm2 wm3 wm4
   have u26:w17.cell? ⟨g0,26,none⟩=some (.slice u.fl.A u.fl.n u.fl.c):=(X.out.u.cell 26).trans (bI u 8)
   have k26:=mH.cell u26 X.out.u.lt
   have CS:=zW (mR X.out.rc.st)
   go_upto_region 15 with fail
   clear u26
   refine mX (C:=fun w'=>∃u:mH w17,w'=u.w) 10 [([0,1,2,3,4,5,6],7,true)] [8,9] [] zBM zBM ?_ ?_ ⟨⟨w17.drew,(zB _ _).drew⟩,rfl⟩ ?_
   ·exact fun _ _ d _ _ h=>by cases d<;>exact h
   ·rintro _ w' ⟨u,rfl⟩ hg
    exact⟨⟨w',u.below.trans (hg.mono u.below.size)⟩,rfl⟩
   intro wd hwd
   clear hwd
   refine m4 zBN zBG ?_
   iterate 4 (go_big_quiet_step (fail))
   refine mG zY1 CS.out (o:=585) zBE ?_ (.tmp 110) ?_ ?_ ?_
   ·rfl
   ·rfl
   ·simp[Act.eval]
   rw[F9]
   simp only[Act.put,zQ,zZ,zJ]
   repeat(go_big_quiet_step (rfl))
   refine zM ?_
   refine m5 (v:=.agg (pc (ov mU FL))) (nN (g:=53) (caps:=#[]) (args:=#[.agg (pc mU),.slice u.fl.A u.fl.n u.fl.c]) (.func 53) #[.tmp 111,.tmp 113] #[81,22] rfl rfl (enters_of Tryz.func53 zBM rfl) (fun w' hw=>by obtain⟨y,rfl⟩:=hw;exact TG mU u.fl.A u.fl.n u.fl.c FL y.w (((X.out.ur UU.out).step y.below).fl.1) UU.out.fl.2) rfl (by simp[Act.eval];rfl)) ?_
   simp only[Act.put,zQ,zZ,zJ]
   refine mE zBN zBG ?_
   repeat(go_big_quiet_step (rfl))
   refine zM ?_
   refine mC rfl ?_
   intro w18 g18 C18 K8 hK
   obtain⟨u18,rfl⟩:=C18
   have X18:=zW (X.out.step u18.below)
   refine nB (o:=585) (ds:=pc (ov mU FL)) zY1 X18.out.rc.st (nX _) zBE (KE _) (.tmp 116) (.tmp 114) rfl zBL zBL ?_
   have X:=zW (show BU b m g g0 v (ofA u R L S ks FL) u w (World.setRow u18.w b (m3 (stC (bS4 u R L T ks km) m g) 585 (pc (ov mU FL))))from X18.out.row (by rw[←ET.out,←HKM.out];exact bS4_fl u R L S ks FL m g) rfl rfl rfl (uU _))
   refine hK _ _ ?_
   clear hK K8
   generalize World.setRow u18.w b (m3 (stC (bS4 u R L T ks km) m g) 585 (pc (ov mU FL)))=w19 at X⊢
   simp only[Act.put,zQ,zZ,zJ]
   simp only[lA]
   refine zM ?_
   intro w20 g20
   have X:=zW (X.out.step g20)
   clear X18 CS g18 g20 u18 k26
   go_wp2_with fail
   go_ret
   exact⟨b,m,g,v,rfl,X.out.rc,X.out.low⟩
theorem MW{x:Int}{L:List Int}(hx:0≤x∧x≤255)(h:Bts L):Bts (x::L):=by
 rw[JR]at h⊢;intro y hy;rcases List.mem_cons.1 hy with rfl|hy
 ·exact hx
 ·exact h y hy
theorem zQA:Bts []:=fun k hk=>absurd hk (Nat.not_lt_zero k)
theorem PJ{R:List Int}(h:Bts R):Bts (yJ R):=by
 unfold yJ;refine oY _ _ _ (oY _ _ _ (oY _ _ _ ?_ ?_) ?_) (JR.1 h)
 ·rw[JR];intro x hx;unfold xT at hx;rw[List.eq_of_mem_replicate hx];decide
 ·exact(by decide+kernel:∀x∈vU,0≤x∧x≤255)
 ·exact(by decide+kernel:∀x∈wI,0≤x∧x≤255)
theorem zMS{R L:List Int}(hR:Bts R)(hL:Bts L)(hl:L.length≤100000):OkB (uK R L):=
 ⟨⟨fun j _=>(show(0:Nat)<256 by decide),⟨(show(0:Int)≤0 by decide),(show(0:Int)≤65535 by decide)⟩,⟨(show(0:Int)≤512 by decide),(show(512:Int)≤65535 by decide)⟩,(show([]:List Int).length≤16 by decide),dK R,PJ hR,(show 1≤15 by decide),(show([]:List Ev).length≤1000 by decide),(show 0<256 by decide),(show 0<256 by decide),nV _,(show 64<256 by decide),fun j _=>(show 0≤mU j∧mU j≤255 from by unfold mU;decide),hl,hL,(show 0≤1000000000 by decide)⟩,fun x hx=>by cases hx⟩
theorem zHF:bC ⟨33,((1:Nat):Int),((0:Nat):Int),((0:Nat):Int),((0:Nat):Int),0,2⟩ 1:=⟨241,85,0,0,by decide,by decide,by decide,by decide,by decide+kernel⟩
theorem zHD:bC ⟨33,((0:Nat):Int),((0:Nat):Int),((0:Nat):Int),((0:Nat):Int),0,2⟩ 1:=⟨240,85,0,0,by decide,by decide,by decide,by decide,by decide+kernel⟩
theorem zHT:bC ⟨38,((0:Nat):Int),((0:Nat):Int),((0:Nat):Int),((0:Nat):Int),0,2⟩ 2:=⟨0,253,0,0,by decide,by decide,by decide,by decide,by decide+kernel⟩
def aw0:AS:={uK [1,2] [7]with i:=65535}
def aw1:AS:={uK [1,2] [7]with i:=65535,v:=Cpu.upd (fun _=>0) 0 9}
def aw2:AS:={uK [1,2] [7]with i:=0,v:=Cpu.upd (fun _=>0) 0 9,pc:=514,M:=put (yJ [1,2]) 65535 [9]}
def qf:Pr:=⟨1,false,false,false,false,false,false,true⟩
def qe:Pr:=⟨2,false,false,false,false,false,false,false⟩
theorem zYS:OkB aw1:=⟨LJ (XV (zMS (MW zBH (MW zBH zQA)) (MW zBH zQA) zBH).o zBH) (sU (fun j _=>(by decide:(0:Nat)<256)) 0 9 zBH),fun x hx=>by cases hx⟩
theorem zBJ:caA aw1 33 1 0 0 qf=4:=rfl
theorem zBZ:caA aw1 33 0 0 0 qf=0:=rfl
theorem aw_st1(N:Nat):stA N aw1 33 1 0 0 0 0 2 qf=aw1:=by unfold stA;rw[zBJ];rfl
theorem zYD(N:Nat):stA N aw1 33 0 0 0 0 0 2 qf=aw2:=by unfold stA;rw[zBZ];rfl
theorem aw_st3(N:Nat):stA N aw2 38 0 0 0 0 0 2 qe=aw2:=by unfold stA;rw[show caA aw2 38 0 0 0 qe=0 from rfl];rfl
theorem aw_ef1:efA aw1 33 1 0 0 qf=⟨4,false,false,false⟩:=by unfold efA;rw[zBJ];rfl
theorem aw_ef2:efA aw1 33 0 0 0 qf=⟨0,false,false,false⟩:=by unfold efA;rw[zBZ];rfl
theorem aw_ef3:efA aw2 38 0 0 0 qe=⟨0,true,false,false⟩:=by unfold efA;rw[show caA aw2 38 0 0 0 qe=0 from rfl];rfl
theorem zYF(N:Nat):OkB aw2:=zYD N▸ZY N zYS zBH 33 0 0 0 0 0 2 qf zBH zBH zBH zBH zBH
theorem aw_rd:aw2.M[65535]?=some 9:=by
 show(put (yJ [1,2]) 65535 [9])[65535]?=some 9;rw[pB,JN,show((65535:Int)%65536).toNat=65535 from rfl,List.getElem?_set_self (by rw[dK];decide)]
theorem zGQ(m g:Nat):(stC (uK [1,2] [7]) m g).setIfInBounds 16 (.int .i64 65535)=stC aw0 m g:=dC (uK [1,2] [7]) m g 65535
theorem zH9(m g:Nat):(stC aw0 m g).setIfInBounds 0 (.int .u8 9)=stC aw1 m g:=dE aw0 m g 0 9 zBH
structure CpB(lg b m g:Nat)(v:Value)(a:AS)(w0 w:World):Prop where
 rc:RC w0.heap.size lg b m g v a w
 low:Below w0.heap.size w0 w
section
variable {lg b m g:Nat} {v:Value} {a a':AS} {w0 w w':World}
theorem CpB.step(h:CpB lg b m g v a w0 w)(hb:Below w.heap.size w w'):CpB lg b m g v a w0 w':=⟨h.rc.step hb,h.low.trans (hb.mono h.low.size)⟩
theorem CpB.put(h:CpB lg b m g v a w0 w)(k:Nat)(x:Value)(e:(stC a m g).setIfInBounds k x=stC a' m g)(eM:a'.M=a.M)(eL:a'.L=a.L)(eR:a'.rd=a.rd)(hres:∀i,i<4→uD (a'.F i) (wid a'.hi) (hei a'.hi)):CpB lg b m g v a' w0 (w.setCell ⟨b,k,none⟩ x):=
 ⟨h.rc.put k x e eM eL eR hres,h.low.setCell (p:=⟨b,k,none⟩) h.rc.bb x⟩
theorem CpB.exec(h:CpB lg b m g v a w0 w){N:Nat}(C:gS N)(hL:uO w0)(ho:OkB a)(hl:lg≤900)(op:Int)(x y n nn:Nat)(addr len:Int)(q:Pr)(hd:bC ⟨op,x,y,n,nn,addr,len⟩ q.lv)(h1:0≤op∧op≤51)(hx:x<16)(hy:y<16)(hn:n<16)(hnn:nn<256)(ha:0≤addr∧addr≤65535)(hl2:0≤len∧len≤4)(hq:1≤q.lv∧q.lv≤3):
  Calls Tryz.prog 20 #[.pointer (some ⟨b,0,none⟩),.agg (lI ⟨op,x,y,n,nn,addr,len⟩),.agg (prc q)] w fun e w'=>e=.returned (.agg (efc (efA a op x y n q)))∧∃v',CpB (lg+16) b m g v' (stA N a op x y n nn addr len q) w0 w'∧xN (yR b m g v) w w'∧(v'.ownBlock=v.ownBlock∨∃k,v'.ownBlock=some k∧w.heap.size≤k):=by
 refine(C.exec w0.heap.size lg b m g v a op x y n nn addr len q w (hL.step h.low) h.rc ho hl hd h1 hx hy hn hnn ha hl2 hq h.low.size).mono ?_;rintro e w2 ⟨rfl,v',rc,k,hv⟩;exact⟨rfl,v',⟨rc,h.low.trans (k.below h.low.size fun j hj=>(h.rc.lt j hj).1)⟩,k,hv⟩
theorem CpB.off(h:CpB lg b m g v a w0 w){q:Nat}{T:TypeId}{cs:Array Value}(hq:Blk q T cs w)(hT:T≠84∧T≠213∧T≠236∧T≠254):¬yR b m g v q:=fun c=>by
 obtain⟨cs',T',fr,hh,hT'⟩:=h.rc.tag q c;have hq:w.heap[q]?=some (.cells cs T (0,0)):=hq;rw[hq]at hh;injection hh with hh
 injection hh with _ e3
 subst e3;rcases hT' with e4|e4|e4|e4
 ·exact hT.1 e4
 ·exact hT.2.1 e4
 ·exact hT.2.2.1 e4
 ·exact hT.2.2.2 e4
theorem CpB.blk(h:CpB lg b m g v a w0 w){q:Nat}{T:TypeId}{cs:Array Value}(hq:Blk q T cs w)(hT:T≠84∧T≠213∧T≠236∧T≠254)(k:xN (yR b m g v) w w'):Blk q T cs w':=(k.block q hq.lt (h.off hq hT)).trans hq
end
theorem aw_v1:efc (efA aw1 33 1 0 0 qf)=#[.int .i64 4,.bool false,.bool false,.bool false]:=by rw[aw_ef1];rfl
theorem aw_v2:efc (efA aw1 33 0 0 0 qf)=#[.int .i64 0,.bool false,.bool false,.bool false]:=by rw[aw_ef2];rfl
theorem aw_v3:efc (efA aw2 38 0 0 0 qe)=#[.int .i64 0,.bool true,.bool false,.bool false]:=by rw[aw_ef3];rfl
theorem VW:∀i,i<4→uD ((fun _ _=>false:Nat→Nat→Bool) i) (wid false) (hei false):=fun i _=>pE _ _
theorem oL(N:Nat)(hN:N=8192)(C:gS N)(w:World)(hL:uO w):Calls Tryz.prog 13 #[] w fun e w'=>e=.returned (.bool true)∧Below w.heap.size w w':=by
 have CC:=zW C;have LL:=zW hL;obtain⟨K,hK⟩:∃K:Nat,K=65025:=⟨_,rfl⟩;have mk:=bH K 65025 (by rw[hK];rfl) zBY;have HK:=zW (show 65024<K∧K≤1000000 by omega);clear hK;clear C hN hL;go_enter Tryz.func13,Tryz.ntmps13;have R1:=zW (show Rd ((w.alloc (.cells #[.int .u8 1,.int .u8 2] 5)).alloc (.cells #[.int .u8 7] 5)) (some ⟨w.heap.size,0,none⟩) [1,2]from fT ((Blk.new w 5 #[.int .u8 1,.int .u8 2]).alloc _) 0 [1,2] fun j hj=>by rcases j with _|_|j;rfl;rfl;exact absurd hj zBT);have R2:=zW (show Rd ((w.alloc (.cells #[.int .u8 1,.int .u8 2] 5)).alloc (.cells #[.int .u8 7] 5)) (some ⟨w.heap.size+1,0,none⟩) [7]from by
  have h:=fT (Blk.new (w.alloc (.cells #[.int .u8 1,.int .u8 2] 5)) 5 #[.int .u8 7]) 0 [7] fun j hj=>by rcases j with _|j;rfl;exact absurd hj zBT
  rwa [zR]at h)
 have B0:=zW (show Below w.heap.size w ((w.alloc (.cells #[.int .u8 1,.int .u8 2] 5)).alloc (.cells #[.int .u8 7] 5))from by go_grown);go_wp2_with fail;refine(CC.out.new_ (some ⟨w.heap.size,0,none⟩) 2 2 [1,2] (some ⟨w.heap.size+1,0,none⟩) 1 1 [7] _ (LL.out.step B0.out) R1.out rfl zBH R2.out rfl zBH).mono ?_;rintro e w2 ⟨b,m,g,v,rfl,rc,b2⟩;have X:=zW (show CpB 0 b m g v (uK [1,2] [7]) w w2 from⟨⟨rc.st,rc.mem,zR6,rc.rnd.mono B0.out.size,rc.res,zD B0.out.size rc.bb,zD B0.out.size rc.bm⟩,B0.out.trans (b2.mono B0.out.size)⟩);clear rc b2 B0 R1 R2;go_wp2_with fail;refine(CC.out.long (some ⟨w2.heap.size,0,none⟩) K K none 0 0 [] _ (LL.out.step (X.out.low.trans ((mJ w2 _).mono X.out.low.size))) HK.out.1 HK.out.2 (fun h=>absurd rfl h) rfl zBH).mono ?_;rintro e w3 ⟨rfl,b3⟩;have X:=zW ((X.out.step (mJ w2 _)).step b3);clear b3 mk HK;have s35:w3.cell? ⟨b,35,none⟩=some (.pointer (some ⟨m,0,none⟩)):=(X.out.rc.st.cell 35).trans (nJ _ m g zBY);have s601:w3.cell? ⟨b,601,none⟩=some (.pointer (some ⟨g,0,none⟩)):=(X.out.rc.st.cell 601).trans (nJ _ m g zBY);have s16:w3.cell? ⟨b,16,none⟩=some (.int .i64 0):=(X.out.rc.st.cell 16).trans (nJ _ m g zBY);have f16:=X.out.rc.st.frozen 16;go_upto_region 6 with fail;clear s35 s601 s16 f16;have X:=zW (X.out.put (a':=aw0) 16 (.int .i64 65535) (zGQ m g) rfl rfl rfl VW);generalize World.setCell _ _ _=w4 at X⊢;have s0:w4.cell? ⟨b,0,none⟩=some (.int .u8 0):=(X.out.rc.st.cell 0).trans (nJ _ m g zBY);have f0:=X.out.rc.st.frozen 0;go_upto_region 7 with fail;clear s0 f0;have X:=zW (X.out.put (a':=aw1) 0 (.int .u8 9) (zH9 m g) rfl rfl rfl VW);generalize World.setCell _ _ _=w5 at X⊢;go_wp2_with fail;refine(X.out.exec CC.out LL.out zYS zBH 33 1 0 0 0 0 2 qf zHF zBH zBH zBH zBH zBH zBH zBH zBH).mono ?_;rintro e w6 ⟨rfl,v1,x1,k1,_⟩;rw[aw_v1];rw[aw_st1]at x1;have X:=zW x1;clear x1 k1;simp only[];go_at_K
 iterate 1 go_step
 refine nY (ds:=#[.int .i64 4,.bool false,.bool false,.bool false]) fJ gH rfl rfl zR4 rfl rfl rfl (.tmp 5) (.tmp 45) rfl zBL zBL ?_;simp only[Act.put,zQ,zZ,zJ];have E5:=zW (Blk.new w6 51 #[.int .i64 4,.bool false,.bool false,.bool false]);have BA:=mJ w6 (.cells #[.int .i64 4,.bool false,.bool false,.bool false] 51);have X:=zW (X.out.step BA);clear BA;obtain⟨q5,hq5⟩:∃q,w6.heap.size=q:=⟨_,rfl⟩;rw[hq5]at E5⊢;generalize World.alloc _ _=w7 at*;clear hq5;go_wp2_with fail;refine(X.out.exec CC.out LL.out zYS zBH 33 0 0 0 0 0 2 qf zHD zBH zBH zBH zBH zBH zBH zBH zBH).mono ?_;rintro e w8 ⟨rfl,v2,x2,k2,_⟩;rw[aw_v2];rw[zYD]at x2;have E5:=zW (X.out.blk E5.out ⟨by decide,by decide,by decide,by decide⟩ k2);have X:=zW x2;clear x2 k2;simp only[];go_at_K
 iterate 1 go_step
 refine nY (ds:=#[.int .i64 0,.bool false,.bool false,.bool false]) fJ gH rfl rfl zR4 rfl rfl rfl (.tmp 6) (.tmp 49) rfl zBL zBL ?_;simp only[Act.put,zQ,zZ,zJ];have E6:=zW (Blk.new w8 51 #[.int .i64 0,.bool false,.bool false,.bool false]);have BA:=mJ w8 (.cells #[.int .i64 0,.bool false,.bool false,.bool false] 51);have E5:=zW (E5.out.step BA);have X:=zW (X.out.step BA);clear BA;obtain⟨q6,hq6⟩:∃q,w8.heap.size=q:=⟨_,rfl⟩;rw[hq6]at E6⊢;generalize World.alloc _ _=w9 at*;clear hq6;go_wp2_with fail;refine(X.out.exec CC.out LL.out (zYF N) zBH 38 0 0 0 0 0 2 qe zHT zBH zBH zBH zBH zBH zBH zBH zBH).mono ?_;rintro e w10 ⟨rfl,v3,x3,k3,_⟩;rw[aw_v3];rw[aw_st3]at x3;have E5:=zW (X.out.blk E5.out ⟨by decide,by decide,by decide,by decide⟩ k3);have E6:=zW (X.out.blk E6.out ⟨by decide,by decide,by decide,by decide⟩ k3);have X:=zW x3;clear x3 k3;simp only[];go_at_K
 iterate 1 go_step
 refine nY (ds:=#[.int .i64 0,.bool true,.bool false,.bool false]) fJ gH rfl rfl zR4 rfl rfl rfl (.tmp 7) (.tmp 53) rfl zBL zBL ?_;simp only[Act.put,zQ,zZ,zJ];have E7:=zW (Blk.new w10 51 #[.int .i64 0,.bool true,.bool false,.bool false]);have BA:=mJ w10 (.cells #[.int .i64 0,.bool true,.bool false,.bool false] 51);have E5:=zW (E5.out.step BA);have E6:=zW (E6.out.step BA);have X:=zW (X.out.step BA);clear BA;obtain⟨q7,hq7⟩:∃q,w10.heap.size=q:=⟨_,rfl⟩;rw[hq7]at E7⊢;generalize World.alloc _ _=w11 at*;clear hq7;have e5_0:w11.cell? ⟨q5,0,none⟩=some (.int .i64 4):=(E5.out.cell 0).trans rfl;have e5_1:w11.cell? ⟨q5,1,none⟩=some (.bool false):=(E5.out.cell 1).trans rfl;have e5_2:w11.cell? ⟨q5,2,none⟩=some (.bool false):=(E5.out.cell 2).trans rfl;have e5_3:w11.cell? ⟨q5,3,none⟩=some (.bool false):=(E5.out.cell 3).trans rfl;have e6_0:w11.cell? ⟨q6,0,none⟩=some (.int .i64 0):=(E6.out.cell 0).trans rfl;have e6_1:w11.cell? ⟨q6,1,none⟩=some (.bool false):=(E6.out.cell 1).trans rfl;have e6_2:w11.cell? ⟨q6,2,none⟩=some (.bool false):=(E6.out.cell 2).trans rfl;have e6_3:w11.cell? ⟨q6,3,none⟩=some (.bool false):=(E6.out.cell 3).trans rfl;have e7_0:w11.cell? ⟨q7,0,none⟩=some (.int .i64 0):=(E7.out.cell 0).trans rfl;have e7_1:w11.cell? ⟨q7,1,none⟩=some (.bool true):=(E7.out.cell 1).trans rfl;have e7_2:w11.cell? ⟨q7,2,none⟩=some (.bool false):=(E7.out.cell 2).trans rfl;have e7_3:w11.cell? ⟨q7,3,none⟩=some (.bool false):=(E7.out.cell 3).trans rfl;have s17:w11.cell? ⟨b,17,none⟩=some (.int .i64 514):=(X.out.rc.st.cell 17).trans (nJ _ m g zBY);have s16:w11.cell? ⟨b,16,none⟩=some (.int .i64 0):=(X.out.rc.st.cell 16).trans (nJ _ m g zBY);have s35:w11.cell? ⟨b,35,none⟩=some (.pointer (some ⟨m,0,none⟩)):=(X.out.rc.st.cell 35).trans (nJ _ m g zBY);go_wp2_with fail;refine(KG m _ _ 65535 9 65535 _ (zYF N).o.M X.out.rc.mem zBH aw_rd).mono ?_;rintro e w12 ⟨rfl,n12,hw⟩;have b12:Below w11.heap.size w11 w12:=by rw[hw];exact below_drewN (by go_grown) _
 have X:=zW (X.out.step b12);clear b12 hw s17 s16 s35;have s549:w12.cell? ⟨b,549,none⟩=some (.int .i64 1):=(X.out.rc.st.cell 549).trans (nJ _ m g zBY);have s584:w12.cell? ⟨b,584,none⟩=some (.int .u8 64):=(X.out.rc.st.cell 584).trans (nJ _ m g zBY);go_wp2_with fail;refine(CC.out.none_ _).mono ?_;rintro e w13 ⟨rfl,b13⟩;have X:=zW (X.out.step b13);go_wp2;go_ret;exact⟨rfl,X.out.low⟩
structure UW(w:World)(u:US)(R L:List Int)(S:List Nat)(ks:List Ev)(FL:List Int):Prop where
 rom:Rd w u.rom.A R∧R.length=u.rom.n
 lst:Rd w u.lst.A L∧L.length=u.lst.n
 stk:gK w u.stk.A S∧S.length=u.stk.n
 keys:Evs w u.keys.A u.keys.n ks
 fl:Rd w u.fl.A FL∧FL.length=u.fl.n
 rb:Bts R
 lb:Bts L
 fb:Bts FL
 s2:∀x∈S,x≤65535
 sc:u.stk.n≤u.stk.c
 i:u.i≤65535
 pc:u.pc≤65535
 dl:u.dl<256
 sd:u.sd<256
 msk:u.msk<256
 v:OkV u.v
def uok(u:US):Prop:=u.rom.n≤2000∧u.lst.n≤100∧u.stk.n≤16∧u.keys.n≤20∧u.fl.n≤16
instance(u:US):Decidable (uok u):=by unfold uok;infer_instance
section
variable {w w':World} {u:US} {R L:List Int} {S:List Nat} {ks:List Ev} {FL:List Int}
theorem UW.step(h:UW w u R L S ks FL)(b:Below w.heap.size w w'):UW w' u R L S ks FL:=
 ⟨⟨h.rom.1.below b,h.rom.2⟩,⟨h.lst.1.below b,h.lst.2⟩,⟨h.stk.1.below b,h.stk.2⟩,h.keys.step b,⟨h.fl.1.below b,h.fl.2⟩,h.rb,h.lb,h.fb,h.s2,h.sc,h.i,h.pc,h.dl,h.sd,h.msk,h.v⟩
theorem UW.ur(h:UW w u R L S ks FL)(o:uok u):UR w u R L S ks FL:=by
 obtain⟨o1,o2,o3,o4,o5⟩:=o;exact⟨h.rom,h.lst,h.stk,h.keys,h.fl,by rw[h.rom.2];exact o1,by rw[h.lst.2];exact o2,by rw[h.stk.2];exact o3,by have:=h.keys.len;omega,by rw[h.fl.2];exact o5,h.s2,h.sc,h.i,h.pc,h.dl,h.sd,h.msk,h.v⟩
theorem UW.okB(h:UW w u R L S ks FL)(o:uok u):OkB (ofA u R L S ks FL):=by
 have U:=h.ur o;refine⟨⟨h.v,⟨qG _,by have:=h.i;show(u.i:Int)≤65535;omega⟩,⟨qG _,by have:=h.pc;show(u.pc:Int)≤65535;omega⟩,?_,dK R,PJ h.rb,Nat.le_of_lt_succ (kC _ zBH),?_,h.dl,h.sd,nV _,(show 64<256 by decide),?_,?_,h.lb,(show 0≤1000000000 by decide)⟩,?_⟩
 ·show(wZ S).length≤16;unfold wZ;rw[jQ];exact U.s1
 ·show ks.length≤1000;have:=U.k1;omega
 ·intro j hj;show 0≤ov mU FL j∧ov mU FL j≤255;by_cases hl:j<FL.length
  ·rw[QH _ _ _ hl];exact h.fb j hl
  ·rw[pD _ _ _ hl];unfold mU;decide
 ·show L.length≤100000;have:=U.l1;omega
 ·intro x hx;have hx:x∈wZ S:=hx;unfold wZ at hx;obtain⟨y,hy,rfl⟩:=jR.1 hx;have:=h.s2 y hy;omega
end
theorem rG(u:US)(w:World):Calls Tryz.prog 14 #[.agg (usc u)] w fun e w'=>e=.returned (.bool (decide (uok u)))∧Below w.heap.size w w':=by
 have U0:=zW (Blk.new w 28 (usc u));have B0:=zW (mJ w (.cells (usc u) 28));go_enter Tryz.func14,Tryz.ntmps14;go_upto_region 0 with fail;refine zN ?_;refine mZ rfl _ (.tmp 0) rfl (usc u) rfl ?_;simp only[Act.put,zQ,zZ,zJ];obtain⟨g0,hg0⟩:∃g,w.heap.size=g:=⟨_,rfl⟩;rw[hg0]at U0⊢;generalize World.alloc _ _=w1 at U0 B0⊢;have GE:=zW hg0;clear hg0;have u0:w1.cell? ⟨g0,0,none⟩=some (.slice u.rom.A u.rom.n u.rom.c):=(U0.out.cell 0).trans rfl;have u1:w1.cell? ⟨g0,1,none⟩=some (.slice u.lst.A u.lst.n u.lst.c):=(U0.out.cell 1).trans rfl;have u20:w1.cell? ⟨g0,20,none⟩=some (.slice u.stk.A u.stk.n u.stk.c):=(U0.out.cell 20).trans (bI u 2);have u21:w1.cell? ⟨g0,21,none⟩=some (.slice u.keys.A u.keys.n u.keys.c):=(U0.out.cell 21).trans (bI u 3);have u26:w1.cell? ⟨g0,26,none⟩=some (.slice u.fl.A u.fl.n u.fl.c):=(U0.out.cell 26).trans (bI u 8);by_cases h0:(u.rom.n:Int)≤2000
 rotate_left
 ·exact zD7
 by_cases h1:(u.lst.n:Int)≤100
 rotate_left
 ·exact zD7
 by_cases h2:(u.stk.n:Int)≤16
 rotate_left
 ·exact zD7
 by_cases h3:(u.keys.n:Int)≤20
 rotate_left
 ·exact zD7
 by_cases h4:(u.fl.n:Int)≤16
 rotate_left
 ·exact zD7
 go_wp2;go_ret;exact⟨by rw[zO zTK];rfl,GE.out▸B0.out⟩
def bc4(x0 x1 x2 x3:Nat):Array Value:=#[.int .u8 (x0:Int),.int .u8 (x1:Int),.int .u8 (x2:Int),.int .u8 (x3:Int)]
theorem aD:xX Tryz.prog 29 4:=⟨⟨_,Tryz.underlying29,rfl⟩,by kernel_rfl⟩
structure L19(g0 c0 q0:Nat)(u:US)(B P:Array Value)(w0 w:World):Prop where
 u:Blk g0 28 (usc u) w
 b:Blk c0 29 B w
 q:Blk q0 31 P w
 low:Below w0.heap.size w0 w
 g1:w0.heap.size≤g0
 c1:w0.heap.size≤c0
 q1:w0.heap.size≤q0
theorem L19.step{g0 c0 q0:Nat}{u:US}{B P:Array Value}{w0 w w':World}(h:L19 g0 c0 q0 u B P w0 w)(b:Below w.heap.size w w'):L19 g0 c0 q0 u B P w0 w':=⟨h.u.step b,h.b.step b,h.q.step b,h.low.trans (b.mono h.low.size),h.g1,h.c1,h.q1⟩
theorem L19.kept{g0 c0 q0:Nat}{u:US}{B P:Array Value}{w0 w w' wb:World}{lg b m g:Nat}{v:Value}{a:AS}(h:L19 g0 c0 q0 u B P w0 w)(hc:CpB lg b m g v a wb w)(hb:w0.heap.size≤wb.heap.size)(k:xN (yR b m g v) w w'):L19 g0 c0 q0 u B P w0 w':=
 ⟨hc.blk h.u ⟨by decide,by decide,by decide,by decide⟩ k,hc.blk h.b ⟨by decide,by decide,by decide,by decide⟩ k,hc.blk h.q ⟨by decide,by decide,by decide,by decide⟩ k,h.low.trans (k.below h.low.size fun j hj=>zD hb (hc.rc.lt j hj).1),h.g1,h.c1,h.q1⟩
theorem xY{b c:Nat}{T U:TypeId}{cs ds:Array Value}{w:World}(h:Blk b T cs w)(k:Blk c U ds w)(e:T≠U):b≠c:=fun hb=>by
 have h:w.heap[b]?=some (.cells cs T (0,0)):=h;have k:w.heap[c]?=some (.cells ds U (0,0)):=k;rw[hb,k]at h;injection h with h
 injection h with _ h
 exact e h.symm
theorem L19.away{g0 c0 q0 p:Nat}{T:TypeId}{cs ds:Array Value}{u:US}{B P:Array Value}{w0 w:World}(h:L19 g0 c0 q0 u B P w0 w)(hp:Blk p T cs w)(hT:28≠T∧29≠T∧31≠T)(hl:w0.heap.size≤p):L19 g0 c0 q0 u B P w0 (w.setRow p ds):=
 ⟨h.u.otherRow (xY h.u hp hT.1) _,h.b.otherRow (xY h.b hp hT.2.1) _,h.q.otherRow (xY h.q hp hT.2.2) _,lU h.low hl _,h.g1,h.c1,h.q1⟩
theorem L19.set{g0 c0 q0 p o:Nat}{x:Value}{u:US}{B P:Array Value}{w0 w:World}(h:L19 g0 c0 q0 u B P w0 w)(h1:g0≠p)(h2:c0≠p)(h3:q0≠p)(hl:w0.heap.size≤p):L19 g0 c0 q0 u B P w0 (w.setCell ⟨p,o,none⟩ x):=
 ⟨h.u.other h1 _ _,h.b.other h2 _ _,h.q.other h3 _ _,h.low.setCell (p:=⟨p,o,none⟩) hl x,h.g1,h.c1,h.q1⟩
theorem zXS:cY Tryz.prog 31 (prc ⟨0,false,false,false,false,false,false,false⟩):=by unfold cY;kernel_rfl
theorem CpB.away{p:Nat}{T:TypeId}{cs ds:Array Value}{w w0:World}{lg b m g:Nat}{v:Value}{a:AS}(h:CpB lg b m g v a w0 w)(hp:Blk p T cs w)(hT:T≠84∧T≠213∧T≠236∧T≠254∧T≠5)(hl:w0.heap.size≤p):CpB lg b m g v a w0 (w.setRow p ds):=
 ⟨h.rc.away hp hT zBD (fun k hk=>zA _ _ _ _ hk),lU h.low hl _⟩
theorem CpB.other{lg b m g lg2 b2 m2 g2:Nat}{v v2:Value}{a a2:AS}{wb wc w w':World}(h:CpB lg b m g v a wb w)(h2:CpB lg2 b2 m2 g2 v2 a2 wc w)(k:xN (yR b m g v) w w')(hd:∀j,yR b2 m2 g2 v2 j→¬yR b m g v j)(hl:wc.heap.size≤wb.heap.size):CpB lg2 b2 m2 g2 v2 a2 wc w':=
 ⟨h.rc.other h2.rc k hd,h2.low.trans (k.below h2.low.size fun j hj=>zD hl (h.rc.lt j hj).1)⟩
theorem bF{P:Program}{c:Code}{Q:Exit→Act→World→Prop}{a:Act}{w:World}(Mid:Act→Act→World→Prop)(h1:c.wp P (fun x a' w'=>x=.normal∧Mid a a' w') a w)(h2:∀a' w',Mid a a' w'→Q .normal a' w'):c.wp P Q a w:=
 Code.wp_mono (fun e a' w' h=>by obtain⟨rfl,h⟩:=h;exact h2 a' w' h) h1
theorem sN{N:Nat}{w:World}{z:Sls}{a:AS}(R:RS N w z a):z.G.n=4:=by obtain⟨A,cap,gs,e,_⟩:=R.G;rw[e]
theorem RS.low{N:Nat}{w:World}{z:Sls}{a:AS}(R:RS N w z a):sE (fun k=>w.heap.size≤k) z:=by
 have key:∀s:Sl,(∀ad,s.A=some ad→0<s.n→ad.block<w.heap.size)→iL (fun k=>w.heap.size≤k) s:=fun s h ad e hp c=>by
  have h1:=h ad e hp;have c:w.heap.size≤ad.block:=c;omega
 have rdl:∀(A:Option Addr) (L:List Int) (n:Nat),Rd w A L→L.length=n→∀ad,A=some ad→0<n→ad.block<w.heap.size:=fun A L n h hl ad e hp=>by
  obtain⟨ad2,e2,hb,_⟩:=h (by intro c;rw[c]at hl;simp at hl;omega);rw[e]at e2;cases e2
  exact hb
 refine⟨key _ ?_,key _ ?_,key _ ?_,key _ ?_,key _ (rdl _ _ _ R.P.1 R.P.2),key _ (rdl _ _ _ R.fl.2 zTN),key _ (rdl _ _ _ R.L.1 R.L.2)⟩
 ·exact zFR
 ·intro ad e _;obtain⟨ad2,c,e2,r⟩:=R.M;rw[e2]at e;cases e
  exact r.1
 ·exact zFZ
 ·exact zF2
theorem sE.sub{O O':Nat→Prop}{z:Sls}(h:sE O z)(hs:∀k,O' k→O k):sE O' z:=by
 have key:∀s:Sl,iL O s→iL O' s:=fun s h ad e hp c=>h ad e hp (hs _ c);exact⟨key _ h.sk,key _ h.M,key _ h.G,key _ h.K,key _ h.P,key _ h.fl,key _ h.L⟩
theorem RS.off{N:Nat}{w w':World}{z:Sls}{a:AS}{O:Nat→Prop}(R:RS N w z a)(f:sE O z)(hp:∀p f,Pxs p f w→¬O p)(k:xN O w w'):RS N w' z a:=by
 refine⟨?_,?_,?_,?_,⟨d8 R.P.1 R.P.2 k f.P,R.P.2⟩,⟨R.fl.1,d8 R.fl.2 zTN k f.fl⟩,⟨d8 R.L.1 R.L.2 k f.L,R.L.2⟩⟩
 ·exact zDA
 ·exact zFW
 ·obtain⟨A,cap,gs,e,p⟩:=R.G;refine⟨A,cap,gs,e,p.len,fun hne=>?_,fun i hi=>?_⟩
  ·exact zFV
  ·have P:=p.px i hi;have hk:=k.block _ P.lt (hp _ _ P);exact zFC
 ·exact zD3
theorem GO{b:Nat}{cs:Array Value}{w:World}:xN (fun k=>k=b) w (w.setRow b cs):=⟨rfl,rfl,rfl,by simp[World.setRow],fun k _ hn=>zA _ _ _ _ hn⟩
theorem RS.st{N:Nat}{w:World}{z:Sls}{a:AS}{p:Nat}{s:CS}{ds:Array Value}(R:RS N w z a)(f:sE (fun k=>k=p) z)(H:Blk p 43 (cst s) w):RS N (w.setRow p ds) z a:=R.off f (fun k g P c=>by
 have c:k=p:=c;have h0:=P.at_ 0 zBH;rw[c,H.cell]at h0;cases h0) GO
theorem RS.ef{N:Nat}{w:World}{z:Sls}{a:AS}{p:Nat}{e:Ef}{ds:Array Value}(R:RS N w z a)(f:sE (fun k=>k=p) z)(H:Blk p 54 (efc e) w):RS N (w.setRow p ds) z a:=R.off f (fun k g P c=>by
 have c:k=p:=c;have h0:=P.at_ 0 zBH;rw[c,H.cell]at h0;cases h0) GO
theorem iA{w wc:World}{u:US}{z:Sls}{R L:List Int}{S:List Nat}{ks:List Ev}{FL:List Int}{p:Nat}(nz:zGC wc u z)(h:UR w u R L S ks FL)(hp:w.heap.size≤p)(hc:p<wc.heap.size):sE (fun k=>k=p) z:=by
 have new:∀s:Sl,FrS wc s→iL (fun k=>k=p) s:=fun s fs ad e _ c=>by
  have h1:=fs ad e;have c:ad.block=p:=c;omega
 refine⟨new _ nz.sk,new _ nz.M,new _ nz.G,?_,new _ nz.P,new _ nz.fl,?_⟩
 ·rw[nz.K];intro ad e hn c;have c:ad.block=p:=c;obtain⟨b',o,e2,hb,_⟩:=h.keys.at_ 0 (by have:=h.keys.len;omega);rw[e]at e2;cases e2
  simp only at c
  omega
 ·rw[nz.L];intro ad e hn c;have c:ad.block=p:=c;exact zFE
theorem LW{w wc:World}{u:US}{z:Sls}{R L:List Int}{S:List Nat}{ks:List Ev}{FL:List Int}{O:Nat→Prop}(nz:zGC wc u z)(h:UR w u R L S ks FL)(hO:∀k,O k→w.heap.size≤k∧k<wc.heap.size):sE O z:=by
 have new:∀s:Sl,FrS wc s→iL O s:=fun s fs ad e _ c=>by
  have h1:=fs ad e;have h2:=(hO _ c).2;omega
 refine⟨new _ nz.sk,new _ nz.M,new _ nz.G,?_,new _ nz.P,new _ nz.fl,?_⟩
 ·rw[nz.K];intro ad e hn c;have h2:=(hO _ c).1;obtain⟨b',o,e2,hb,_⟩:=h.keys.at_ 0 (by have:=h.keys.len;omega);rw[e]at e2;cases e2
  simp only at h2
  omega
 ·rw[nz.L];intro ad e hn c;have h2:=(hO _ c).1;exact zFE
theorem V5(N:Nat)(a:AS)(op:Int)(x y n nn:Nat)(addr len:Int)(q:Pr):(efA a op x y n q).c=0∨((efA a op x y n q).c≠0∧stA N a op x y n nn addr len q=a∧(efA a op x y n q).halt=false∧(efA a op x y n q).wait=false∧(efA a op x y n q).drew=false):=by
 unfold efA stA;by_cases h:caA a op x y n q=0
 ·left
  rw[zG h];split<;>rfl
 ·right
  rw[zL h,zL h];exact⟨h,rfl,rfl,rfl,rfl⟩
theorem iR(q:Pr)(w:World):Calls Tryz.prog 15 #[.agg (prc q)] w fun e w'=>e=.returned (.bool (decide (1≤q.lv∧q.lv≤3)))∧Below w.heap.size w w':=by
 obtain⟨l,b0,b1,b2,b3,b4,b5,b6⟩:=q;unfold prc;by_cases h:1≤l∧l≤3
 ·rw[zO h];obtain rfl|rfl|rfl:l=1∨l=2∨l=3:=by omega
  all_goals
   go_enter Tryz.func15,Tryz.ntmps15
   go_wp2
   go_returns
   exact⟨rfl,by go_grown⟩
 ·rw[zC h];have e1:(l==1)=false:=beq_eq_false_iff_ne.2 zBY;have e2:(l==2)=false:=beq_eq_false_iff_ne.2 zBY;have e3:(l==3)=false:=beq_eq_false_iff_ne.2 zBY;go_enter Tryz.func15,Tryz.ntmps15;go_wp2;go_returns;exact zDU
def rnc(b:Nat)(i:Ins)(q:Pr)(pc:Int)(f:Ef):Array Value:=#[.pointer (some ⟨b,0,none⟩),.int .i64 i.op,.int .i64 i.x,.int .i64 i.y,.int .i64 i.n,.int .i64 i.nn,.int .i64 i.addr,.int .i64 i.len,.int .i64 q.lv,.bool q.sh,.bool q.ki,.bool q.jx,.bool q.lr,.bool q.cl,.bool q.dw,.bool q.fa,.int .i64 pc,.int .i64 f.c,.bool f.halt,.bool f.wait,.bool f.drew]
theorem U6:xX Tryz.prog 47 7:=⟨⟨_,Tryz.underlying47,rfl⟩,by kernel_rfl⟩
theorem zY0:xX Tryz.prog 31 8:=⟨⟨_,Tryz.underlying31,rfl⟩,by kernel_rfl⟩
theorem ZI:xX Tryz.prog 51 4:=⟨⟨_,Tryz.underlying51,rfl⟩,by kernel_rfl⟩
theorem zYI:xX Tryz.prog 23 16:=⟨⟨_,Tryz.underlying23,rfl⟩,by kernel_rfl⟩
theorem wM:xX Tryz.prog 62 17:=⟨⟨_,Tryz.underlying62,rfl⟩,by kernel_rfl⟩
theorem yM:xX Tryz.prog 72 514:=⟨⟨_,Tryz.underlying72,rfl⟩,by kernel_rfl⟩
theorem zGH:xX Tryz.prog 75 16:=⟨⟨_,Tryz.underlying75,rfl⟩,by kernel_rfl⟩
theorem oR:xX Tryz.prog 79 17:=⟨⟨_,Tryz.underlying79,rfl⟩,by kernel_rfl⟩
theorem U8:xX Tryz.prog 81 16:=⟨⟨_,Tryz.underlying81,rfl⟩,by kernel_rfl⟩
theorem zXQ(b:Nat)(i:Ins)(q:Pr)(pc:Int):Tryz.prog.built 148 [(0,.pointer (some ⟨b,0,none⟩)),(1,.agg (lI i)),(2,.agg (prc q)),(3,.int .i64 pc)]=some (rnc b i q pc ⟨0,false,false,false⟩):=by kernel_rfl
section
variable {base lg b m g rb:Nat} {v v':Value} {a a':AS} {i:Ins} {q:Pr} {pc pc':Int} {f f':Ef} {w w' w1 w2:World}
theorem zK6:(rnc b i q pc f).extract 1 (1+7)=lI i:=rfl
theorem rnc_q:(rnc b i q pc f).extract 8 (8+8)=prc q:=rfl
theorem rnc_ef:(rnc b i q pc f).extract 17 (17+4)=efc f:=rfl
structure XR(base lg b m g rb:Nat)(v:Value)(a:AS)(i:Ins)(q:Pr)(pc:Int)(f:Ef)(w:World):Prop where
 rc:RC base lg b m g v a w
 r:Blk rb 148 (rnc b i q pc f) w
def Kp(b m g:Nat)(v:Value)(rb k:Nat):Prop:=yR b m g v k∨k=rb
theorem XR.step(X:XR base lg b m g rb v a i q pc f w)(hb:Below w.heap.size w w'):XR base lg b m g rb v a i q pc f w':=⟨X.rc.step hb,X.r.step hb⟩
theorem XR.off(X:XR base lg b m g rb v a i q pc f w):¬yR b m g v rb:=fun c=>by
 obtain⟨cs',T',fr,hh,hT'⟩:=X.rc.tag rb c;have hq:w.heap[rb]?=some (.cells (rnc b i q pc f) 148 (0,0)):=X.r;rw[hq]at hh;exact zD9
theorem XR.ne(X:XR base lg b m g rb v a i q pc f w):rb≠b:=fun e=>X.off (.inl e)
theorem XR.rk(X:XR base lg b m g rb v a i q pc f w)(k:Nat)(z:Value)(h:(rnc b i q pc f)[k]?=some z):∀u:mH w,u.w.cell? ⟨rb,k,none⟩=some z:=mH.cell ((X.r.cell k).trans h) X.r.lt
theorem XR.sk(X:XR base lg b m g rb v a i q pc f w)(k:Nat)(z:Value)(h:(stC a m g)[k]?=some z):∀u:mH w,u.w.cell? ⟨b,k,none⟩=some z:=mH.cell ((X.rc.st.cell k).trans h) X.rc.st.lt
theorem XR.vk(X:XR base lg b m g rb v a i q pc f w){k:Nat}(h:k<16):∀u:mH w,u.w.cell? ⟨b,k,none⟩=some (.int .u8 (a.v k:Int)):=X.sk k _ (by rw[nJ _ _ _ zBY,dY _ _ _ h])
theorem XR.vc(X:XR base lg b m g rb v a i q pc f w){k:Nat}(h:k<16):w.cell? ⟨b,k,none⟩=some (.int .u8 (a.v k:Int)):=(X.rc.st.cell k).trans (by rw[nJ _ _ _ zBY,dY _ _ _ h])
theorem XR.put(X:XR base lg b m g rb v a i q pc f w)(k:Nat)(x:Value)(e:(stC a m g).setIfInBounds k x=stC a' m g)(eM:a'.M=a.M)(eL:a'.L=a.L)(eR:a'.rd=a.rd)(hres:∀i,i<4→uD (a'.F i) (wid a'.hi) (hei a'.hi)):XR base lg b m g rb v a' i q pc f (w.setCell ⟨b,k,none⟩ x):=
 ⟨X.rc.put k x e eM eL eR hres,X.r.other X.ne _ _⟩
theorem XR.row(X:XR base lg b m g rb v a i q pc f w){cs:Array Value}(e:cs=stC a' m g)(eM:a'.M=a.M)(eL:a'.L=a.L)(eR:a'.rd=a.rd)(hres:∀i,i<4→uD (a'.F i) (wid a'.hi) (hei a'.hi)):XR base lg b m g rb v a' i q pc f (w.setRow b cs):=
 ⟨X.rc.row e eM eL eR hres,X.r.otherRow X.ne _⟩
theorem XR.rput(X:XR base lg b m g rb v a i q pc f w)(k:Nat)(x:Value)(e:(rnc b i q pc f).setIfInBounds k x=rnc b i q pc' f'):XR base lg b m g rb v a i q pc' f' (w.setCell ⟨rb,k,none⟩ x):=
 ⟨X.rc.away X.r ⟨by decide,by decide,by decide,by decide,by decide⟩ zB3 (fun j hj=>qQ _ _ _ _ hj),(X.r.put k x).eq e⟩
theorem XR.away(X:XR base lg b m g rb v a i q pc f w){p:Nat}{T:TypeId}{cs:Array Value}(hp:Blk p T cs w)(hT:T≠84∧T≠213∧T≠236∧T≠254∧T≠5)(hr:T≠148)(hs:w.heap.size≤w'.heap.size)(hk:∀k,k≠p→w'.heap[k]?=w.heap[k]?):XR base lg b m g rb v a i q pc f w':=
 ⟨X.rc.away hp hT hs hk,(hk rb (fun e=>by
  have h1:w.heap[rb]?=some (.cells _ 148 (0,0)):=X.r;have h2:w.heap[p]?=some (.cells _ T (0,0)):=hp;rw[e,h2]at h1;injection h1 with h1
  injection h1 with _ h1
  exact hr h1)).trans X.r⟩
theorem eV{O:Nat→Prop}{p k:Nat}{x:Value}(h:O p):xN O w (w.setCell ⟨p,k,none⟩ x):=⟨rfl,rfl,rfl,by simp[World.setCell],fun j _ hn=>qQ _ _ _ _ (fun e=>hn (e▸h))⟩
theorem pP{O:Nat→Prop}{p:Nat}{cs:Array Value}(h:O p):xN O w (w.setRow p cs):=⟨rfl,rfl,rfl,by simp[World.setRow],fun j _ hn=>zA _ _ _ _ (fun e=>hn (e▸h))⟩
structure DD(base lg b m g rb:Nat)(v v':Value)(i:Ins)(q:Pr)(w:World)(a':AS)(pc':Int)(f':Ef)(w':World):Prop where
 x:XR base lg b m g rb v' a' i q pc' f' w'
 k:xN (Kp b m g v rb) w w'
 o:v'.ownBlock=v.ownBlock∨∃k,v'.ownBlock=some k∧w.heap.size≤k
theorem DD.refl(X:XR base lg b m g rb v a i q pc f w):DD base lg b m g rb v v i q w a pc f w:=⟨X,xN.refl,.inl rfl⟩
theorem DD.grew(D:DD base lg b m g rb v v' i q w a pc f w1):Z7 (Kp b m g v rb) (Kp b m g v' rb) w.heap.size:=fun k hk=>by
 rcases hk with(h|h|h|h)|h
 ·exact .inl (.inl (.inl h))
 ·exact .inl (.inl (.inr (.inl h)))
 ·exact .inl (.inl (.inr (.inr (.inl h))))
 ·rcases D.o with e|⟨j,e,hj⟩
  ·exact .inl (.inl (.inr (.inr (.inr (e▸h)))))
  ·rw[e]at h;cases h
   exact .inr hj
 ·exact .inl (.inr h)
theorem DD.to(D:DD base lg b m g rb v v' i q w a pc f w1)(X:XR base lg b m g rb v' a' i q pc' f' w2)(k:xN (Kp b m g v' rb) w1 w2):DD base lg b m g rb v v' i q w a' pc' f' w2:=⟨X,D.k.trans k D.grew,D.o⟩
theorem DD.step(D:DD base lg b m g rb v v' i q w a pc f w1)(hb:Below w1.heap.size w1 w2):DD base lg b m g rb v v' i q w a pc f w2:=D.to (D.x.step hb) (xN.of_below hb)
theorem DD.put(D:DD base lg b m g rb v v' i q w a pc f w1)(k:Nat)(x:Value)(e:(stC a m g).setIfInBounds k x=stC a' m g)(eM:a'.M=a.M)(eL:a'.L=a.L)(eR:a'.rd=a.rd)(hres:∀i,i<4→uD (a'.F i) (wid a'.hi) (hei a'.hi)):DD base lg b m g rb v v' i q w a' pc f (w1.setCell ⟨b,k,none⟩ x):=
 D.to (D.x.put k x e eM eL eR hres) (eV (.inl (.inl rfl)))
theorem DD.row(D:DD base lg b m g rb v v' i q w a pc f w1){cs:Array Value}(e:cs=stC a' m g)(eM:a'.M=a.M)(eL:a'.L=a.L)(eR:a'.rd=a.rd)(hres:∀i,i<4→uD (a'.F i) (wid a'.hi) (hei a'.hi)):DD base lg b m g rb v v' i q w a' pc f (w1.setRow b cs):=
 D.to (D.x.row e eM eL eR hres) (pP (.inl (.inl rfl)))
theorem DD.rput(D:DD base lg b m g rb v v' i q w a pc f w1)(k:Nat)(x:Value)(e:(rnc b i q pc f).setIfInBounds k x=rnc b i q pc' f'):DD base lg b m g rb v v' i q w a pc' f' (w1.setCell ⟨rb,k,none⟩ x):=
 D.to (D.x.rput k x e) (eV (.inr rfl))
theorem DD.then{lg2:Nat}{v2:Value}{a2:AS}{pc2:Int}{f2:Ef}(D:DD base lg b m g rb v v' i q w a pc f w1)(E:DD base lg2 b m g rb v' v2 i q w1 a2 pc2 f2 w2):DD base lg2 b m g rb v v2 i q w a2 pc2 f2 w2:=
 ⟨E.x,D.k.trans E.k D.grew,by
  rcases E.o with e|⟨k,e,hk⟩
  ·rw[e];exact D.o
  ·exact .inr ⟨k,e,zD D.k.size hk⟩⟩
theorem RC.more{lg2:Nat}(h:RC base lg b m g v a w)(hl:lg≤lg2):RC base lg2 b m g v a w:=⟨h.st,h.mem,let⟨n,xs,o,hn,r⟩:=h.log;⟨n,xs,o,zD hn hl,r⟩,h.rnd,h.res,h.bb,h.bm⟩
theorem XR.more{lg2:Nat}(X:XR base lg b m g rb v a i q pc f w)(hl:lg≤lg2):XR base lg2 b m g rb v a i q pc f w:=⟨X.rc.more hl,X.r⟩
theorem DD.more{lg2:Nat}(D:DD base lg b m g rb v v' i q w a pc f w1)(hl:lg≤lg2):DD base lg2 b m g rb v v' i q w a pc f w1:=⟨D.x.more hl,D.k,D.o⟩
end
def Did(base lg b m g rb:Nat)(v:Value)(i:Ins)(q:Pr)(w:World)(a':AS)(pc':Int)(f':Ef)(e:Ending)(w':World):Prop:=e=.returned (.tuple #[])∧∃v',DD base lg b m g rb v v' i q w a' pc' f' w'
def pan(c:Int):List PanicEntry:=[{v:=.iface 143 (.agg #[.int .i64 c]),recovered:=false}]
def Z8(c:Int)(w:World)(e:Ending)(w':World):Prop:=e=.panicked (pan c)∧Below w.heap.size w w'
theorem tP{P:Program}{Q:Exit→Act→World→Prop}{a:Act}{w:World}{o:Oper}{g:Nat}{caps args:Array Value}{K:Act→World→Prop}(x:Operand)(xs:Array Operand)(ts:Array TypeId)(ho:o.op=.call {callee:=.value x,args:=xs,argTypes:=ts})(eg:∀args w,(callFunc g args).run P w=.ok (.enter g args) w)(hx:a.eval x=.func (.func g) #[] caps)(ha:xs.map a.eval++caps=args)
  (h:Calls P g args w fun e w'=>∃c,e=.panicked c∧Q (.panic c) a w'):o.wp P a w K Q:=by
 exact zFS
theorem xW(n:Nat)(hn:n<16)(w:World):Calls Tryz.prog 196 #[.int .i64 (n:Int)] w fun e w'=>e=.returned (.int .i64 (n:Int))∧w=w':=by
 have hb:=zQI hn;go_enter Tryz.func196,Tryz.ntmps196;go_wp2_with fail;go_ret;exact⟨rfl,rfl⟩
theorem fU(w:World):Calls Tryz.prog 61 #[.int .i64 0] w fun e w'=>e=.returned (.tuple #[])∧w=w':=by
 go_enter Tryz.func61,Tryz.ntmps61;go_wp2_with fail;go_end0
 exact⟨rfl,rfl⟩
theorem eN(c:Int)(hc:c≠0)(w:World):Calls Tryz.prog 61 #[.int .i64 c] w fun e w'=>e=.panicked (pan c)∧w=w':=by
 have h0:(c !=0)=true:=by simpa using hc
 go_enter Tryz.func61,Tryz.ntmps61;go_wp2_with fail;exact⟨rfl,rfl,rfl⟩
theorem zX1{base lg b m g rb:Nat}{v v1 v':Value}{i:Ins}{q:Pr}{w w1 w2:World}{a a':AS}{pc:Int}{f:Ef}{n:Nat}{xs:List Value}{y z:Int}(D:DD base lg b m g rb v v1 i q w a pc f w1)(hn:n≤lg)(hi:∀x∈xs,∃j,x=.int .i64 j)
  (hm:vC m a'.M v' w2) (ho:w2.ownsRow base 254 2 v' (n+1) (xs++[.int .i64 y,.int .i64 z])) (ha:nC m v1.ownBlock w1 w2) (hv:v'.ownBlock=v1.ownBlock∨∃k,v'.ownBlock=some k∧w1.heap.size≤k) (hst:stC a' m g=stC a m g) (hr:a'.L=a.L∧a'.rd=a.rd∧a'.F=a.F∧a'.hi=a.hi):DD base (lg+1) b m g rb v v' i q w a' pc f w2:=by
 obtain⟨n1,n2,n3,n4,n5,n6⟩:=D.x.rc.ne;have kk:xN (fun k=>k=m∨some k=v1.ownBlock) w1 w2:=xN.of_apart ha;have no:∀p,p<w1.heap.size→p≠m→v1.ownBlock≠some p→w2.heap[p]?=w1.heap[p]?:=fun p h1 h2 h3=>kk.block p h1 (fun c=>by rcases c with c|c;exact h2 c;exact h3 c.symm);have X:XR base (lg+1) b m g rb v' a' i q pc f w2:=by
  refine⟨⟨?_,hm,⟨n+1,_,ho,by omega,fun h=>absurd h zBY,?_⟩,?_,?_,D.x.rc.bb,D.x.rc.bm⟩,?_⟩
  ·rw[hst];exact(no b D.x.rc.st.lt n1 n4).trans D.x.rc.st
  ·intro x hx;rcases List.mem_append.1 hx with h|h
   ·exact hi x h
   ·simp only[List.mem_cons,j6,or_false]at h;rcases h with rfl|rfl<;>exact⟨_,rfl⟩
  ·rw[hr.1,hr.2.1];obtain⟨A,c,hg,o⟩:=D.x.rc.rnd.held;exact⟨D.x.rc.rnd.low,A,c,(no g D.x.rc.rnd.lt (fun e=>n3 e.symm) n6).trans hg,tA o kk fun k ek c=>D.x.rc.row_off o ⟨by decide,by decide,by decide,by decide⟩ k ek (by rcases c with c|c;exact .inr (.inl c);exact .inr (.inr (.inr c.symm)))⟩
  ·rw[hr.2.2.1,hr.2.2.2];exact D.x.rc.res
  ·exact(no rb D.x.r.lt (fun e=>D.x.off (.inr (.inl e))) (fun e=>D.x.off (.inr (.inr (.inr e))))).trans D.x.r
 exact⟨X,D.k.trans (kk.mono (O':=Kp b m g v1 rb) fun k _ c=>by rcases c with c|c;exact .inl (.inr (.inl c));exact .inl (.inr (.inr (.inr c.symm)))) D.grew,by
  rcases hv with e|⟨k,e,hk⟩
  ·rw[e];exact D.o
  ·exact .inr ⟨k,e,zD D.k.size hk⟩⟩
theorem dT{i:Int}{n:Nat}{t:Bool}(h:chk i n t≠0):chk i n t=4:=by unfold chk at h⊢;split at h<;>simp_all
section
variable {base lg b m g rb:Nat} {v:Value} {a:AS} {op:Int} {x y n nn:Nat} {ad ln:Int} {q:Pr} {pc:Int} {f:Ef} {w:World}
theorem oA(X:XR base lg b m g rb v a ⟨op,x,y,n,nn,ad,ln⟩ q pc f w)(hx:x<16):Calls Tryz.prog 189 #[.pointer (some ⟨rb,0,none⟩)] w fun e w'=>e=.returned (.pointer (some ⟨b,x,none⟩))∧Below w.heap.size w w':=by
 have r0:=X.rk 0 (.pointer (some ⟨b,0,none⟩)) rfl;have r2:=X.rk 2 (.int .i64 (x:Int)) rfl;have xi:(x:Int)<16:=zBY;have RG:=zW (fun w=>xW x hx w);clear X;go_enter Tryz.func189,Tryz.ntmps189;exact zD2
theorem vy19(X:XR base lg b m g rb v a ⟨op,x,y,n,nn,ad,ln⟩ q pc f w)(hy:y<16):Calls Tryz.prog 202 #[.pointer (some ⟨rb,0,none⟩)] w fun e w'=>e=.returned (.pointer (some ⟨b,y,none⟩))∧Below w.heap.size w w':=by
 have r0:=X.rk 0 (.pointer (some ⟨b,0,none⟩)) rfl;have r3:=X.rk 3 (.int .i64 (y:Int)) rfl;have xi:(y:Int)<16:=zBY;have RG:=zW (fun w=>xW y hy w);clear X;go_enter Tryz.func202,Tryz.ntmps202;exact zD2
theorem P7(X:XR base lg b m g rb v a ⟨op,x,y,n,nn,ad,ln⟩ q pc f w)(k:Int)(O:OkA a)(k0:0≤k)(k1:k≤300):Calls Tryz.prog 191 #[.pointer (some ⟨rb,0,none⟩),.int .i64 k] w (Did base lg b m g rb v ⟨op,x,y,n,nn,ad,ln⟩ q w ({a with i:=(a.i+k)%65536}) (pc) (f)):=by
 have D:=zW (DD.refl X);have SB:=zW (mR X.rc.st);have RB:=zW (mR X.r);have r0:=X.rk 0 (.pointer (some ⟨b,0,none⟩)) rfl;have s16:=X.sk 16 _ (nJ _ m g zBY);rw[dL]at s16;have wr:IntKind.i64.wrap (a.i+k)=a.i+k:=by rw[zU];have:=O.i;omega
 have WR:=zW (fun w=>sC (a.i+k) w);clear X;go_enter Tryz.func191,Tryz.ntmps191;refine mX (C:=fun w'=>∃u:mH w,w'=u.w) 16 [([0,1,2,3,4,5,6,7,8,9,10,11,12],13,true)] [14,15] [] zBM zBM ?_ ?_ ⟨⟨w.drew,(zB _ _).drew⟩,rfl⟩ ?_
 ·exact zT8
 ·exact zT0
 intro wd hwd;clear hwd;refine m4 zBN zBG ?_;iterate 13 (go_big_quiet_step (fail))
 refine zM ?_;refine m5 (v:=.int .i64 ((a.i+k)%65536)) (nN (g:=59) (caps:=#[]) (args:=#[.int .i64 (a.i+k)]) (.func 59) _ _ rfl rfl (enters_of Tryz.func59 zBM rfl) (fun w' hw=>by obtain⟨u,rfl⟩:=hw;exact(WR.out u.w).mono fun e w'' h=>⟨h.1,by rw[←h.2];exact Gr.refl _⟩) rfl zBL) ?_;simp only[Act.put,zQ,zZ,zJ];refine mE zBN zBG ?_;iterate 2 (go_big_quiet_step (fail))
 refine zM ?_;refine mC rfl ?_;intro w5 g5 C5 K hK;obtain⟨u5,rfl⟩:=C5;have D5:=zW (D.out.step u5.below);have cc:=(D5.out.x.rc.st.cell 16).trans (nJ _ m g zBY);have fc:=D5.out.x.rc.st.frozen 16;go_wp2_with fail;have D:=zW (D5.out.put (a':={a with i:=(a.i+k)%65536}) 16 (.int .i64 ((a.i+k)%65536)) (dC a m g ((a.i+k)%65536)) rfl rfl rfl D5.out.x.rc.res);exact zSX
theorem zQM(X:XR base lg b m g rb v a ⟨op,x,y,n,nn,ad,ln⟩ q pc f w)(k:Int)(O:OkA a)(k0:0≤k)(k1:k≤300):Calls Tryz.prog 197 #[.pointer (some ⟨rb,0,none⟩),.int .i64 k] w (Did base lg b m g rb v ⟨op,x,y,n,nn,ad,ln⟩ q w (if q.ki=true then a else{a with i:=(a.i+k)%65536}) (pc) (f)):=by
 have D:=zW (DD.refl X);have r0:w.cell? ⟨rb,0,none⟩=some (.pointer (some ⟨b,0,none⟩)):=(X.r.cell 0).trans rfl;have r10:w.cell? ⟨rb,10,none⟩=some (.bool q.ki):=(X.r.cell 10).trans rfl;have AI:=zW (P7 X k O k0 k1);obtain⟨lv,sh,ki,jx,lr,cl,dw,fa⟩:=q;clear X;cases ki
 ·go_enter Tryz.func197,Tryz.ntmps197;go_wp2_with fail;refine AI.out.mono ?_;rintro e w' ⟨rfl,v',D'⟩;go_wp2_with fail;go_end0
  exact⟨rfl,v',D'⟩
 ·go_enter Tryz.func197,Tryz.ntmps197;go_wp2_with fail;go_end0
  exact⟨rfl,_,D.out⟩
theorem VN(X:XR base lg b m g rb v a ⟨op,x,y,n,nn,ad,ln⟩ q pc f w)(k:Nat)(O:OkA a)(hk:k≤128)(hc:chk a.i k q.fa=0):Calls Tryz.prog 198 #[.pointer (some ⟨rb,0,none⟩),.int .i64 (k:Int)] w (Gave k (seg a.M a.i k) w):=by
 have XX:=zW X;have r0:=X.rk 0 (.pointer (some ⟨b,0,none⟩)) rfl;have r15:=X.rk 15 (.bool q.fa) rfl;have s16:=X.sk 16 _ (nJ _ m g zBY);rw[dL]at s16;have CK:=zW (fun w=>aQ a.i k q.fa w O.i.1 O.i.2 (qG k) zBY);have k1:(k:Int)≤65536:=zBY;rw[hc]at CK;have OO:=zW O;clear X O hk hc;go_enter Tryz.func198,Tryz.ntmps198;go_upto_region 1 with fail;refine m8 zBM zBM ?_;repeat(go_big_quiet_step ((first|(go_at_call 173;exact yV (CK.out _))|(go_at_call 61;exact yV (fU _)))))
 refine zM ?_;intro _ hw';obtain⟨x',rfl⟩:=hw';have b1:=zW x'.below;generalize x'.w=w1 at*;have XX:=zW (XX.out.step b1.out);clear r0 r15 s16 CK;have r0:=XX.out.rk 0 (.pointer (some ⟨b,0,none⟩)) rfl;have s16:=XX.out.sk 16 _ (nJ _ m g zBY);rw[dL]at s16;have s35:=XX.out.sk 35 _ (nJ _ m g zBY);rw[aJ]at s35;go_upto_region 2 with fail;refine mX (C:=fun w'=>∃u:mH w1,w'=u.w) 15 [] [0,1,2,3,4,5,6,7,8,9,10,11,12,13,14] [16] zBM zBM ?_ ?_ ⟨⟨w1.drew,(zB _ _).drew⟩,rfl⟩ ?_
 ·exact zT8
 ·exact zT0
 intro wd hwd;clear hwd;refine mE zBN zBG ?_;iterate 15 (go_big_quiet_step (fail))
 refine zM ?_;refine mC rfl ?_;intro w5 g5 C5 K hK;obtain⟨u5,rfl⟩:=C5;refine mF (g:=77) (caps:=#[]) (args:=#[.pointer (some ⟨m,0,none⟩),.int .i64 a.i,.int .i64 (k:Int)]) (.func 77) _ _ rfl (enters_of Tryz.func77 zBM rfl) rfl zBL ?_;refine(YK m a.M v a.i a.i.toNat k u5.w OO.out.M (XX.out.step u5.below).rc.mem (by have:=OO.out.i;omega) zBY).mono ?_;rintro e w7 ⟨gg,rfl,hg,hR,b7⟩;have B7:=zW (u5.below.trans (b7.mono u5.below.size));have G7:=zW (show w.heap.size≤gg by have h1:=b1.out.size;have h2:=u5.below.size;omega);have R7:=zW hR;clear hg hR b7;refine⟨_,rfl,?_⟩;refine hK _ _ ?_;clear hK K;simp only[Act.put,zQ,zZ,zJ];try simp only[lA,zX,zK,zV]
 iterate 1 (go_big_quiet_step (fail))
 refine zM ?_;intro w8 g8;have B8:=zW ((b1.out.trans (B7.out.mono b1.out.size)).trans (g8.mono (zD b1.out.size B7.out.size)));have R8:=zW (R7.out.below g8);clear g8 g5 s35 s16 r0;go_wp2_with fail;go_ret;exact⟨gg,rfl,G7.out,R8.out,B8.out⟩
theorem fH(X:XR base lg b m g rb v a ⟨op,x,y,n,nn,ad,ln⟩ q pc f w)(k:Nat)(O:OkA a)(hk:k≤128)(hc:chk a.i k q.fa≠0):Calls Tryz.prog 198 #[.pointer (some ⟨rb,0,none⟩),.int .i64 (k:Int)] w (Z8 4 w):=by
 have r0:=X.rk 0 (.pointer (some ⟨b,0,none⟩)) rfl;have r15:=X.rk 15 (.bool q.fa) rfl;have s16:=X.sk 16 _ (nJ _ m g zBY);rw[dL]at s16;have CK:=zW (fun w=>aQ a.i k q.fa w O.i.1 O.i.2 (qG k) zBY);have k1:(k:Int)≤65536:=zBY;rw[dT hc]at CK;clear X O hk hc;go_enter Tryz.func198,Tryz.ntmps198;go_upto_region 1 with fail;refine mX (C:=fun w'=>∃u:mH w,w'=u.w) 14 [([0,1,2,3,4,5,6,7,8,9,10,11,12],13,true)] [] [] zBM zBM ?_ ?_ ⟨⟨w.drew,(zB _ _).drew⟩,rfl⟩ ?_
 ·exact zT8
 ·exact zT0
 intro wd hwd;clear hwd;refine m4 zBN zBG ?_;iterate 13 (go_big_quiet_step (fail))
 exact zDY
theorem YF(X:XR base lg b m g rb v a ⟨op,x,y,n,nn,ad,ln⟩ q pc f w)(A:Option Addr)(k c:Nat)(L:List Int)(O:OkA a)(hb:base≤w.heap.size)(hg:lg≤950)(k0:0<k)(hk:k≤128)(hkc:k≤c)(hL:L.length=k)(hR:Rd w A L)(hA:∀ad,A=some ad→ad.block≠m)(hc:chk a.i k q.fa=0):Calls Tryz.prog 195 #[.pointer (some ⟨rb,0,none⟩),.slice A k c] w (Did base (lg+1) b m g rb v ⟨op,x,y,n,nn,ad,ln⟩ q w ({a with M:=put a.M a.i L}) (pc) (f)):=by
 have XX:=zW X;have r0:=X.rk 0 (.pointer (some ⟨b,0,none⟩)) rfl;have r15:=X.rk 15 (.bool q.fa) rfl;have s16:=X.sk 16 _ (nJ _ m g zBY);rw[dL]at s16;have CK:=zW (fun w=>aQ a.i k q.fa w O.i.1 O.i.2 (qG k) zBY);have k1:(k:Int)≤65536:=zBY;rw[hc]at CK;have OO:=zW O;have RR:=zW hR;have DZ:=zW (DD.refl X);have HB:=zW (zY hb (zY hg (zY k0 (zY hkc (zY hL hA)))));clear X O hk hc hR hb hg k0 hkc hL hA;go_enter Tryz.func195,Tryz.ntmps195;go_upto_region 0 with fail;refine m8 zBM zBM ?_;repeat(go_big_quiet_step ((first|(go_at_call 173;exact yV (CK.out _))|(go_at_call 61;exact yV (fU _)))))
 refine zM ?_;intro _ hw';obtain⟨x',rfl⟩:=hw';have b1:=zW x'.below;generalize x'.w=w1 at*;have XX:=zW (XX.out.step b1.out);have DZ:=zW (DZ.out.step b1.out);have RR:=zW (RR.out.below b1.out);clear r0 r15 s16 CK;have r0:=XX.out.rk 0 (.pointer (some ⟨b,0,none⟩)) rfl;have s16:=XX.out.sk 16 _ (nJ _ m g zBY);rw[dL]at s16;have s35:=XX.out.sk 35 _ (nJ _ m g zBY);rw[aJ]at s35;go_upto_region 1 with fail;refine mX (C:=fun w'=>∃u:mH w1,w'=u.w) 15 [] [0,1,2,3,4,5,6,7,8,9,10,11,12,13,14] [] zBM zBM ?_ ?_ ⟨⟨w1.drew,(zB _ _).drew⟩,rfl⟩ ?_
 ·exact zT8
 ·exact zT0
 intro wd hwd;clear hwd;refine mE zBN zBG ?_;iterate 15 (go_big_quiet_step (fail))
 refine zM ?_;refine mC rfl ?_;intro w5 g5 C5 K hK;obtain⟨u5,rfl⟩:=C5;have X5:=zW (XX.out.step u5.below);have D5:=zW (DZ.out.step u5.below);obtain⟨nl,xs,o,hn,h0,hi⟩:=X5.out.rc.log;refine mF (g:=228) (caps:=#[]) (args:=#[.pointer (some ⟨m,0,none⟩),.int .i64 a.i,.slice A k c]) (.func 228) _ _ rfl (enters_of Tryz.func228 zBM rfl) rfl zBL ?_;refine(zQ7 m a.M v nl base xs a.i a.i.toNat A k c L u5.w OO.out.M X5.out.rc.mem o (zD HB.out.1 (zD b1.out.size u5.below.size)) (by have:=HB.out.2.1;omega) (by have:=OO.out.i;omega) HB.out.2.2.2.2.1 HB.out.2.2.1 zBY HB.out.2.2.2.1 (RR.out.below u5.below) HB.out.2.2.2.2.2).mono ?_;rintro e w7 ⟨rfl,v',hm,hown,hap,hv⟩;have W7:=zW (zX1 D5.out (a':={a with M:=put a.M a.i L}) hn hi hm hown hap hv (rfl) ⟨rfl,rfl,rfl,rfl⟩);clear hm hown hap hv o hn h0 hi;refine⟨_,rfl,?_⟩;refine hK _ _ ?_;clear hK K;simp only[Act.put,zQ,zZ,zJ];try simp only[lA,zX,zK,zV]
 refine zM ?_;intro w8 g8;have D:=zW (W7.out.step g8);clear g8 g5 s35 s16 r0;go_wp2_with fail;go_end0
 exact⟨rfl,_,D.out⟩
theorem aF(X:XR base lg b m g rb v a ⟨op,x,y,n,nn,ad,ln⟩ q pc f w)(A:Option Addr)(k c:Nat)(O:OkA a)(hk:k≤128)(hc:chk a.i k q.fa≠0):Calls Tryz.prog 195 #[.pointer (some ⟨rb,0,none⟩),.slice A k c] w (Z8 4 w):=by
 have r0:=X.rk 0 (.pointer (some ⟨b,0,none⟩)) rfl;have r15:=X.rk 15 (.bool q.fa) rfl;have s16:=X.sk 16 _ (nJ _ m g zBY);rw[dL]at s16;have CK:=zW (fun w=>aQ a.i k q.fa w O.i.1 O.i.2 (qG k) zBY);have k1:(k:Int)≤65536:=zBY;rw[dT hc]at CK;clear X O hk hc;go_enter Tryz.func195,Tryz.ntmps195;go_upto_region 0 with fail;refine mX (C:=fun w'=>∃u:mH w,w'=u.w) 15 [([0,1,2,3,4,5,6,7,8,9,10,11,12,13],14,true)] [] [] zBM zBM ?_ ?_ ⟨⟨w.drew,(zB _ _).drew⟩,rfl⟩ ?_
 ·exact zT8
 ·exact zT0
 intro wd hwd;clear hwd;refine m4 zBN zBG ?_;iterate 14 (go_big_quiet_step (fail))
 exact zDY
end
end
section
open Go.RowKit Num Dec Cpu Go.Maps
def fnV(f:Nat):Value:=.func (.func f) #[] #[]
def vlk:List (Int×Value)→Int→Option Value
 |[],_=>none
 |(k,v)::L,l=>if l=k then some v else vlk L l
def zYV(v:Value):Option (DataW Value×List MemPlace):=some (.held v,[])
structure JV(m n:Nat)(L:List (Int×Value))(w:World)(D:DataW Value):Prop where
 own:w.ownsMap Tryz.prog 3 zYV m n D
 is:IsMap D
 at_:∀l zd,D.atKey (.int .i64 l) zd=match vlk L l with|some v=> .held v|none=>zd
 has_:∀l,has D (.int .i64 l)=(vlk L l).isSome
theorem zWL(l:Int):WideAt.IsKeyLit (.int .i64 l):=by first|trivial|simp[WideAt.IsKeyLit]
theorem JV.new(w:World):JV w.heap.size 0 [] (w.alloc (.map #[] 0)) (.map []):=⟨World.ownsMap_made w _ _ _,⟨_,rfl⟩,fun _ _=>rfl,fun _=>rfl⟩
theorem mB{ops:Array Oper}{rest:List Oper}{o:Oper}{a:Act}{Q:Exit→Act→World→Prop}{w:World}{m n:Nat}{L:List (Int×Value)}{D:DataW Value}(H:JV m n L w D)(hn:n<1000)
  (hg:o.guard=none) (mx xx vx:Operand) (hop:o.op=Op.insert 151 mx xx vx) (hm:a.eval mx=.map (some m)) (k:Int) (f:Value) (hx:a.eval xx=.int .i64 k) (hv:a.eval vx=f) (hk:(Lit.int .i64 k).wf=true)
  {w0:World} (hb:Below w0.heap.size w0 w) (hge:w0.heap.size≤m)
  (h:∀w' D',JV m (n+1) ((k,f)::L) w' D'→Below w0.heap.size w0 w'→w.grownBy w' (some m)→wpList Tryz.prog ops Q rest (a.put o.dst undef) w'):wpList Tryz.prog ops Q (o::rest) a w:=by
 refine bU w hg mx xx vx 151 hop 3 149 iO Tryz.underlying151 zYV m n D hm H.own zB6 _ _ (.int .i64 k) hx hv (JB k hk) (.held f) [] rfl ?_;intro w' o' g';refine h w' _ ⟨o',H.is.put _ _,fun l zd=>?_,fun l=>?_⟩ (hb.grown g' hb.size (fun j hj=>by cases hj;exact hge)) g'
 ·unfold vlk;by_cases hl:l=k
  ·subst hl;rw[zG rfl,atKey_put_same H.is (zWL l)]
  ·rw[zL hl,atKey_put_other zRC,H.at_]
 ·unfold vlk;by_cases hl:l=k
  ·subst hl;rw[zG rfl,has_put_same H.is (zWL l)];rfl
  ·rw[zL hl,has_put_other zRC,H.has_]
theorem mA{b m:Nat}{T:TypeId}{cs:Array Value}{w w':World}(h:Blk b T cs w)(g:w.grownBy w' (some m))(hn:b≠m):Blk b T cs w':=(g.block b h.lt (fun e=>hn (qU e))).trans h
theorem zQR{m n:Nat}{L:List (Int×Value)}{w:World}{D:DataW Value}(h:JV m n L w D):m<w.heap.size:=h.own.lt
theorem XH{m n:Nat}{L:List (Int×Value)}{w:World}{D:DataW Value}(h:JV m n L w D)(o:Obj):JV m n L (w.alloc o) D:=⟨h.own.alloc o,h.is,h.at_,h.has_⟩
theorem zLW(w:World):(zeroValue 149).run Tryz.prog w=.ok .nilFunc w:=by kernel_rfl
def JA(L:List (Int×Value))(op:Int):Value:=match vlk L op with|some f=>f|none=> .nilFunc
theorem FX{P:Program}(hP:P=Tryz.prog){o:Oper}{a:Act}{K:Act→World→Prop}{Q:Exit→Act→World→Prop}{w:World}{m n:Nat}{L:List (Int×Value)}{D:DataW Value}(H:JV m n L w D)(mx xx:Operand)(hop:o.op=Op.lookup 151 mx xx true)(hm:a.eval mx=.map (some m))(op:Int)(hx:a.eval xx=.int .i64 op)(hk:(Lit.int .i64 op).wf=true)
  (h:K (a.put o.dst (.tuple #[JA L op,.bool (vlk L op).isSome])) w):o.wp P a w K Q:=by
 subst hP;obtain⟨v,ps,hrun,hv⟩:=H.own.look_ok iO Tryz.underlying151 (zLW w) (zd:=.held .nilFunc) (zp:=[]) rfl (JB op hk);have e:v=JA L op:=by
  rw[H.at_]at hv;unfold zYV JA at*;cases hc:vlk L op with
  |none=>rw[hc]at hv;simp only[kR,jC,DataW.held.injEq]at hv;exact hv.1
  |some f=>rw[hc]at hv;simp only[kR,jC,DataW.held.injEq]at hv;exact hv.1
 rw[e,H.has_]at hrun;unfold Oper.wp;simp[execOp,hop,hm,hx,hrun,Result.andThen];exact h
def cW(gs gb:Nat):List (Int×Value):=[(51,fnV 146),(50,fnV 145),(29,fnV 144),(28,fnV 143),(26,fnV 142),(44,fnV 141),(43,fnV 140),(22,fnV 139),(37,fnV 138),(36,fnV 138),(45,fnV 138),(35,fnV 138),(49,fnV 137),(41,fnV 136),(23,fnV 136),(40,fnV 135),(39,fnV 135),(1,fnV 134),(47,fnV 133),(46,fnV 132),(34,fnV 131),(33,fnV 130),(32,fnV 129),(42,.func (.func 192) #[] #[.pointer (some ⟨gb,0,none⟩)]),(31,.func (.func 192) #[] #[.pointer (some ⟨gs,0,none⟩)]),(30,fnV 125),(48,fnV 124),(20,fnV 124),(27,fnV 123),(38,fnV 122),(2,fnV 121),(4,fnV 120),(21,fnV 119),(3,fnV 118),(25,fnV 117),(24,fnV 117),(19,fnV 116),(7,fnV 116),(6,fnV 116),(5,fnV 116),(18,fnV 115),(16,fnV 115),(17,fnV 115),(15,fnV 115),(14,fnV 115),(13,fnV 115),(12,fnV 115),(11,fnV 115),(10,fnV 115),(9,fnV 115),(8,fnV 115)]
theorem zNZ(F:Nat)(w:World):Calls Tryz.prog 126 #[.func (.func F) #[] #[]] w fun e w'=>e=.returned (.func (.func 192) #[] #[.pointer (some ⟨w.heap.size,0,none⟩)])∧w'=w.alloc (.cells #[.func (.func F) #[] #[]] 146):=by
 have hmf:∀(fn:Fn) (first cap:Array Value) (w:World),(Instr.makeFunc fn first cap).run Tryz.prog w=.ok (.func fn first cap) w:=fun _ _ _ _=>rfl;go_enter Tryz.func126,Tryz.ntmps126;exact zDP
theorem zWT(w:World):Calls Tryz.prog 60 #[] w fun e w'=>∃m D gs gb,e=.returned (.map (some m))∧JV m 51 (cW gs gb) w' D∧Below w.heap.size w w'∧Blk gs 146 #[.func (.func 127) #[] #[]] w'∧Blk gb 146 #[.func (.func 128) #[] #[]] w':=by
 have hmm:= @run_makeMap Tryz.prog;have GL:=zW zNZ;go_enter Tryz.func60,Tryz.ntmps60;go_upto_region 1 with fail;refine zN ?_;iterate 3 go_step
 have M:=zW (JV.new w);have B:=zW (show Below w.heap.size w (w.alloc (.map #[] 0))from(zB _ _).alloc (zH _) _);obtain⟨m,hm⟩:∃m,w.heap.size=m:=⟨_,rfl⟩;have ML:=zW (jT hm);rw[hm]at M⊢;clear hmm hm;generalize w.alloc (.map #[] 0)=w0 at*;refine mB M.out zBY rfl (.tmp 1) (.const (.int .i64 8)) (.func 115) rfl rfl 8 (fnV 115) rfl rfl zBH B.out ML.out ?_;simp only[Act.put];clear M B;intro w1 D1 mm bb gg;have M:=zW mm;have B:=zW bb;clear mm bb gg;refine mB M.out zBY rfl (.tmp 1) (.const (.int .i64 9)) (.func 115) rfl rfl 9 (fnV 115) rfl rfl zBH B.out ML.out ?_;simp only[Act.put];clear M B;intro w2 D2 mm bb gg;have M:=zW mm;have B:=zW bb;clear mm bb gg;refine mB M.out zBY rfl (.tmp 1) (.const (.int .i64 10)) (.func 115) rfl rfl 10 (fnV 115) rfl rfl zBH B.out ML.out ?_;simp only[Act.put];clear M B;intro w3 D3 mm bb gg;have M:=zW mm;have B:=zW bb;clear mm bb gg;refine mB M.out zBY rfl (.tmp 1) (.const (.int .i64 11)) (.func 115) rfl rfl 11 (fnV 115) rfl rfl zBH B.out ML.out ?_;simp only[Act.put];clear M B;intro w4 D4 mm bb gg;have M:=zW mm;have B:=zW bb;clear mm bb gg;refine mB M.out zBY rfl (.tmp 1) (.const (.int .i64 12)) (.func 115) rfl rfl 12 (fnV 115) rfl rfl zBH B.out ML.out ?_;simp only[Act.put];clear M B;intro w5 D5 mm bb gg;have M:=zW mm;have B:=zW bb;clear mm bb gg;refine mB M.out zBY rfl (.tmp 1) (.const (.int .i64 13)) (.func 115) rfl rfl 13 (fnV 115) rfl rfl zBH B.out ML.out ?_;simp only[Act.put];clear M B;intro w6 D6 mm bb gg;have M:=zW mm;have B:=zW bb;clear mm bb gg;refine mB M.out zBY rfl (.tmp 1) (.const (.int .i64 14)) (.func 115) rfl rfl 14 (fnV 115) rfl rfl zBH B.out ML.out ?_;simp only[Act.put];clear M B;intro w7 D7 mm bb gg;have M:=zW mm;have B:=zW bb;clear mm bb gg;refine mB M.out zBY rfl (.tmp 1) (.const (.int .i64 15)) (.func 115) rfl rfl 15 (fnV 115) rfl rfl zBH B.out ML.out ?_;simp only[Act.put];clear M B;intro w8 D8 mm bb gg;have M:=zW mm;have B:=zW bb;clear mm bb gg;refine mB M.out zBY rfl (.tmp 1) (.const (.int .i64 17)) (.func 115) rfl rfl 17 (fnV 115) rfl rfl zBH B.out ML.out ?_;simp only[Act.put];clear M B;intro w9 D9 mm bb gg;have M:=zW mm;have B:=zW bb;clear mm bb gg;refine mB M.out zBY rfl (.tmp 1) (.const (.int .i64 16)) (.func 115) rfl rfl 16 (fnV 115) rfl rfl zBH B.out ML.out ?_;simp only[Act.put];clear M B;intro w10 D10 mm bb gg;have M:=zW mm;have B:=zW bb;clear mm bb gg;refine mB M.out zBY rfl (.tmp 1) (.const (.int .i64 18)) (.func 115) rfl rfl 18 (fnV 115) rfl rfl zBH B.out ML.out ?_;simp only[Act.put];clear M B;intro w11 D11 mm bb gg;have M:=zW mm;have B:=zW bb;clear mm bb gg;refine mB M.out zBY rfl (.tmp 1) (.const (.int .i64 5)) (.func 116) rfl rfl 5 (fnV 116) rfl rfl zBH B.out ML.out ?_;simp only[Act.put];clear M B;intro w12 D12 mm bb gg;have M:=zW mm;have B:=zW bb;clear mm bb gg;refine mB M.out zBY rfl (.tmp 1) (.const (.int .i64 6)) (.func 116) rfl rfl 6 (fnV 116) rfl rfl zBH B.out ML.out ?_;simp only[Act.put];clear M B;intro w13 D13 mm bb gg;have M:=zW mm;have B:=zW bb;clear mm bb gg;refine mB M.out zBY rfl (.tmp 1) (.const (.int .i64 7)) (.func 116) rfl rfl 7 (fnV 116) rfl rfl zBH B.out ML.out ?_;simp only[Act.put];clear M B;intro w14 D14 mm bb gg;have M:=zW mm;have B:=zW bb;clear mm bb gg;refine mB M.out zBY rfl (.tmp 1) (.const (.int .i64 19)) (.func 116) rfl rfl 19 (fnV 116) rfl rfl zBH B.out ML.out ?_;simp only[Act.put];clear M B;intro w15 D15 mm bb gg;have M:=zW mm;have B:=zW bb;clear mm bb gg;refine mB M.out zBY rfl (.tmp 1) (.const (.int .i64 24)) (.func 117) rfl rfl 24 (fnV 117) rfl rfl zBH B.out ML.out ?_;simp only[Act.put];clear M B;intro w16 D16 mm bb gg;have M:=zW mm;have B:=zW bb;clear mm bb gg;refine mB M.out zBY rfl (.tmp 1) (.const (.int .i64 25)) (.func 117) rfl rfl 25 (fnV 117) rfl rfl zBH B.out ML.out ?_;simp only[Act.put];clear M B;intro w17 D17 mm bb gg;have M:=zW mm;have B:=zW bb;clear mm bb gg;refine mB M.out zBY rfl (.tmp 1) (.const (.int .i64 3)) (.func 118) rfl rfl 3 (fnV 118) rfl rfl zBH B.out ML.out ?_;simp only[Act.put];clear M B;intro w18 D18 mm bb gg;have M:=zW mm;have B:=zW bb;clear mm bb gg;refine mB M.out zBY rfl (.tmp 1) (.const (.int .i64 21)) (.func 119) rfl rfl 21 (fnV 119) rfl rfl zBH B.out ML.out ?_;simp only[Act.put];clear M B;intro w19 D19 mm bb gg;have M:=zW mm;have B:=zW bb;clear mm bb gg;refine mB M.out zBY rfl (.tmp 1) (.const (.int .i64 4)) (.func 120) rfl rfl 4 (fnV 120) rfl rfl zBH B.out ML.out ?_;simp only[Act.put];clear M B;intro w20 D20 mm bb gg;have M:=zW mm;have B:=zW bb;clear mm bb gg;refine mB M.out zBY rfl (.tmp 1) (.const (.int .i64 2)) (.func 121) rfl rfl 2 (fnV 121) rfl rfl zBH B.out ML.out ?_;simp only[Act.put];clear M B;intro w21 D21 mm bb gg;have M:=zW mm;have B:=zW bb;clear mm bb gg;refine mB M.out zBY rfl (.tmp 1) (.const (.int .i64 38)) (.func 122) rfl rfl 38 (fnV 122) rfl rfl zBH B.out ML.out ?_;simp only[Act.put];clear M B;intro w22 D22 mm bb gg;have M:=zW mm;have B:=zW bb;clear mm bb gg;refine mB M.out zBY rfl (.tmp 1) (.const (.int .i64 27)) (.func 123) rfl rfl 27 (fnV 123) rfl rfl zBH B.out ML.out ?_;simp only[Act.put];clear M B;intro w23 D23 mm bb gg;have M:=zW mm;have B:=zW bb;clear mm bb gg;refine mB M.out zBY rfl (.tmp 1) (.const (.int .i64 20)) (.func 124) rfl rfl 20 (fnV 124) rfl rfl zBH B.out ML.out ?_;simp only[Act.put];clear M B;intro w24 D24 mm bb gg;have M:=zW mm;have B:=zW bb;clear mm bb gg;refine mB M.out zBY rfl (.tmp 1) (.const (.int .i64 48)) (.func 124) rfl rfl 48 (fnV 124) rfl rfl zBH B.out ML.out ?_;simp only[Act.put];clear M B;intro w25 D25 mm bb gg;have M:=zW mm;have B:=zW bb;clear mm bb gg;refine mB M.out zBY rfl (.tmp 1) (.const (.int .i64 30)) (.func 125) rfl rfl 30 (fnV 125) rfl rfl zBH B.out ML.out ?_;simp only[Act.put];clear M B;intro w26 D26 mm bb gg;have M:=zW mm;have B:=zW bb;clear mm bb gg;go_wp2_with fail;refine(GL.out 127 _).mono ?_;rintro e w' ⟨rfl,rfl⟩;have S:=zW (Blk.new w26 146 #[.func (.func 127) #[] #[]]);have bz:=mJ w26 (.cells #[.func (.func 127) #[] #[]] 146);have Sn:=zW (show w26.heap.size≠m from fun e=>by have:=zQR M.out;omega);have M:=zW (XH M.out (.cells #[.func (.func 127) #[] #[]] 146));have B:=zW (B.out.trans (bz.mono B.out.size));clear bz;obtain⟨gs,hgs⟩:∃g,w26.heap.size=g:=⟨_,rfl⟩;rw[hgs]at S Sn⊢;clear hgs;generalize World.alloc w26 _=w26a at*;simp only[];go_at_K
 iterate 1 go_step
 refine mB M.out zBY rfl (.tmp 1) (.const (.int .i64 31)) (.tmp 2) rfl rfl 31 (.func (.func 192) #[] #[.pointer (some ⟨gs,0,none⟩)]) rfl rfl zBH B.out ML.out ?_;simp only[Act.put];clear M B;intro w27 D27 mm bb gg;have M:=zW mm;have B:=zW bb;have S:=zW (mA S.out gg Sn.out);clear mm bb gg;go_wp2_with fail;refine(GL.out 128 _).mono ?_;rintro e w' ⟨rfl,rfl⟩;have T:=zW (Blk.new w27 146 #[.func (.func 128) #[] #[]]);have bz:=mJ w27 (.cells #[.func (.func 128) #[] #[]] 146);have Tn:=zW (show w27.heap.size≠m from fun e=>by have:=zQR M.out;omega);have M:=zW (XH M.out (.cells #[.func (.func 128) #[] #[]] 146));have B:=zW (B.out.trans (bz.mono B.out.size));have S:=zW (S.out.step bz);clear bz;obtain⟨gb,hgb⟩:∃g,w27.heap.size=g:=⟨_,rfl⟩;rw[hgb]at T Tn⊢;clear hgb;generalize World.alloc w27 _=w27a at*;simp only[];go_at_K
 iterate 1 go_step
 refine mB M.out zBY rfl (.tmp 1) (.const (.int .i64 42)) (.tmp 3) rfl rfl 42 (.func (.func 192) #[] #[.pointer (some ⟨gb,0,none⟩)]) rfl rfl zBH B.out ML.out ?_;simp only[Act.put];clear M B;intro w28 D28 mm bb gg;have M:=zW mm;have B:=zW bb;have S:=zW (mA S.out gg Sn.out);have T:=zW (mA T.out gg Tn.out);clear mm bb gg;refine mB M.out zBY rfl (.tmp 1) (.const (.int .i64 32)) (.func 129) rfl rfl 32 (fnV 129) rfl rfl zBH B.out ML.out ?_;simp only[Act.put];clear M B;intro w29 D29 mm bb gg;have M:=zW mm;have B:=zW bb;have S:=zW (mA S.out gg Sn.out);have T:=zW (mA T.out gg Tn.out);clear mm bb gg;refine mB M.out zBY rfl (.tmp 1) (.const (.int .i64 33)) (.func 130) rfl rfl 33 (fnV 130) rfl rfl zBH B.out ML.out ?_;simp only[Act.put];clear M B;intro w30 D30 mm bb gg;have M:=zW mm;have B:=zW bb;have S:=zW (mA S.out gg Sn.out);have T:=zW (mA T.out gg Tn.out);clear mm bb gg;refine mB M.out zBY rfl (.tmp 1) (.const (.int .i64 34)) (.func 131) rfl rfl 34 (fnV 131) rfl rfl zBH B.out ML.out ?_;simp only[Act.put];clear M B;intro w31 D31 mm bb gg;have M:=zW mm;have B:=zW bb;have S:=zW (mA S.out gg Sn.out);have T:=zW (mA T.out gg Tn.out);clear mm bb gg;refine mB M.out zBY rfl (.tmp 1) (.const (.int .i64 46)) (.func 132) rfl rfl 46 (fnV 132) rfl rfl zBH B.out ML.out ?_;simp only[Act.put];clear M B;intro w32 D32 mm bb gg;have M:=zW mm;have B:=zW bb;have S:=zW (mA S.out gg Sn.out);have T:=zW (mA T.out gg Tn.out);clear mm bb gg;refine mB M.out zBY rfl (.tmp 1) (.const (.int .i64 47)) (.func 133) rfl rfl 47 (fnV 133) rfl rfl zBH B.out ML.out ?_;simp only[Act.put];clear M B;intro w33 D33 mm bb gg;have M:=zW mm;have B:=zW bb;have S:=zW (mA S.out gg Sn.out);have T:=zW (mA T.out gg Tn.out);clear mm bb gg;refine mB M.out zBY rfl (.tmp 1) (.const (.int .i64 1)) (.func 134) rfl rfl 1 (fnV 134) rfl rfl zBH B.out ML.out ?_;simp only[Act.put];clear M B;intro w34 D34 mm bb gg;have M:=zW mm;have B:=zW bb;have S:=zW (mA S.out gg Sn.out);have T:=zW (mA T.out gg Tn.out);clear mm bb gg;refine mB M.out zBY rfl (.tmp 1) (.const (.int .i64 39)) (.func 135) rfl rfl 39 (fnV 135) rfl rfl zBH B.out ML.out ?_;simp only[Act.put];clear M B;intro w35 D35 mm bb gg;have M:=zW mm;have B:=zW bb;have S:=zW (mA S.out gg Sn.out);have T:=zW (mA T.out gg Tn.out);clear mm bb gg;refine mB M.out zBY rfl (.tmp 1) (.const (.int .i64 40)) (.func 135) rfl rfl 40 (fnV 135) rfl rfl zBH B.out ML.out ?_;simp only[Act.put];clear M B;intro w36 D36 mm bb gg;have M:=zW mm;have B:=zW bb;have S:=zW (mA S.out gg Sn.out);have T:=zW (mA T.out gg Tn.out);clear mm bb gg;refine mB M.out zBY rfl (.tmp 1) (.const (.int .i64 23)) (.func 136) rfl rfl 23 (fnV 136) rfl rfl zBH B.out ML.out ?_;simp only[Act.put];clear M B;intro w37 D37 mm bb gg;have M:=zW mm;have B:=zW bb;have S:=zW (mA S.out gg Sn.out);have T:=zW (mA T.out gg Tn.out);clear mm bb gg;refine mB M.out zBY rfl (.tmp 1) (.const (.int .i64 41)) (.func 136) rfl rfl 41 (fnV 136) rfl rfl zBH B.out ML.out ?_;simp only[Act.put];clear M B;intro w38 D38 mm bb gg;have M:=zW mm;have B:=zW bb;have S:=zW (mA S.out gg Sn.out);have T:=zW (mA T.out gg Tn.out);clear mm bb gg;refine mB M.out zBY rfl (.tmp 1) (.const (.int .i64 49)) (.func 137) rfl rfl 49 (fnV 137) rfl rfl zBH B.out ML.out ?_;simp only[Act.put];clear M B;intro w39 D39 mm bb gg;have M:=zW mm;have B:=zW bb;have S:=zW (mA S.out gg Sn.out);have T:=zW (mA T.out gg Tn.out);clear mm bb gg;refine mB M.out zBY rfl (.tmp 1) (.const (.int .i64 35)) (.func 138) rfl rfl 35 (fnV 138) rfl rfl zBH B.out ML.out ?_;simp only[Act.put];clear M B;intro w40 D40 mm bb gg;have M:=zW mm;have B:=zW bb;have S:=zW (mA S.out gg Sn.out);have T:=zW (mA T.out gg Tn.out);clear mm bb gg;refine mB M.out zBY rfl (.tmp 1) (.const (.int .i64 45)) (.func 138) rfl rfl 45 (fnV 138) rfl rfl zBH B.out ML.out ?_;simp only[Act.put];clear M B;intro w41 D41 mm bb gg;have M:=zW mm;have B:=zW bb;have S:=zW (mA S.out gg Sn.out);have T:=zW (mA T.out gg Tn.out);clear mm bb gg;refine mB M.out zBY rfl (.tmp 1) (.const (.int .i64 36)) (.func 138) rfl rfl 36 (fnV 138) rfl rfl zBH B.out ML.out ?_;simp only[Act.put];clear M B;intro w42 D42 mm bb gg;have M:=zW mm;have B:=zW bb;have S:=zW (mA S.out gg Sn.out);have T:=zW (mA T.out gg Tn.out);clear mm bb gg;refine mB M.out zBY rfl (.tmp 1) (.const (.int .i64 37)) (.func 138) rfl rfl 37 (fnV 138) rfl rfl zBH B.out ML.out ?_;simp only[Act.put];clear M B;intro w43 D43 mm bb gg;have M:=zW mm;have B:=zW bb;have S:=zW (mA S.out gg Sn.out);have T:=zW (mA T.out gg Tn.out);clear mm bb gg;refine mB M.out zBY rfl (.tmp 1) (.const (.int .i64 22)) (.func 139) rfl rfl 22 (fnV 139) rfl rfl zBH B.out ML.out ?_;simp only[Act.put];clear M B;intro w44 D44 mm bb gg;have M:=zW mm;have B:=zW bb;have S:=zW (mA S.out gg Sn.out);have T:=zW (mA T.out gg Tn.out);clear mm bb gg;refine mB M.out zBY rfl (.tmp 1) (.const (.int .i64 43)) (.func 140) rfl rfl 43 (fnV 140) rfl rfl zBH B.out ML.out ?_;simp only[Act.put];clear M B;intro w45 D45 mm bb gg;have M:=zW mm;have B:=zW bb;have S:=zW (mA S.out gg Sn.out);have T:=zW (mA T.out gg Tn.out);clear mm bb gg;refine mB M.out zBY rfl (.tmp 1) (.const (.int .i64 44)) (.func 141) rfl rfl 44 (fnV 141) rfl rfl zBH B.out ML.out ?_;simp only[Act.put];clear M B;intro w46 D46 mm bb gg;have M:=zW mm;have B:=zW bb;have S:=zW (mA S.out gg Sn.out);have T:=zW (mA T.out gg Tn.out);clear mm bb gg;refine mB M.out zBY rfl (.tmp 1) (.const (.int .i64 26)) (.func 142) rfl rfl 26 (fnV 142) rfl rfl zBH B.out ML.out ?_;simp only[Act.put];clear M B;intro w47 D47 mm bb gg;have M:=zW mm;have B:=zW bb;have S:=zW (mA S.out gg Sn.out);have T:=zW (mA T.out gg Tn.out);clear mm bb gg;refine mB M.out zBY rfl (.tmp 1) (.const (.int .i64 28)) (.func 143) rfl rfl 28 (fnV 143) rfl rfl zBH B.out ML.out ?_;simp only[Act.put];clear M B;intro w48 D48 mm bb gg;have M:=zW mm;have B:=zW bb;have S:=zW (mA S.out gg Sn.out);have T:=zW (mA T.out gg Tn.out);clear mm bb gg;refine mB M.out zBY rfl (.tmp 1) (.const (.int .i64 29)) (.func 144) rfl rfl 29 (fnV 144) rfl rfl zBH B.out ML.out ?_;simp only[Act.put];clear M B;intro w49 D49 mm bb gg;have M:=zW mm;have B:=zW bb;have S:=zW (mA S.out gg Sn.out);have T:=zW (mA T.out gg Tn.out);clear mm bb gg;refine mB M.out zBY rfl (.tmp 1) (.const (.int .i64 50)) (.func 145) rfl rfl 50 (fnV 145) rfl rfl zBH B.out ML.out ?_;simp only[Act.put];clear M B;intro w50 D50 mm bb gg;have M:=zW mm;have B:=zW bb;have S:=zW (mA S.out gg Sn.out);have T:=zW (mA T.out gg Tn.out);clear mm bb gg;refine mB M.out zBY rfl (.tmp 1) (.const (.int .i64 51)) (.func 146) rfl rfl 51 (fnV 146) rfl rfl zBH B.out ML.out ?_;simp only[Act.put];clear M B;intro w51 D51 mm bb gg;have M:=zW mm;have B:=zW bb;have S:=zW (mA S.out gg Sn.out);have T:=zW (mA T.out gg Tn.out);clear mm bb gg;go_wp2_with fail;go_ret;exact⟨m,_,gs,gb,rfl,M.out,B.out,S.out,T.out⟩
end
section
open Go.RowKit Num Dec Cpu
section
variable {P:Program} {ops:Array Oper} {Q:Exit→Act→List Frame→World→Prop} {cs cs':List Frame}
theorem eQ(hno:¬LetsOut (fun e a w=>Q e a cs w)):∀(l:List Nat) (a:Act) (w:World),wpList P ops (fun e a w=>Q e a cs w) (lA ops l) a w→wpOpsS P ops Q l a cs w
 |[],a,w,h=>h
 |i::rest,a,w,h=>by
  unfold wpOpsS;cases ho:ops[i]? with
  |none=>simp only[lA,ho]at h;exact eQ hno rest a w h
  |some o=>
   simp only[lA,ho,wpList]at h
   simp only
   by_cases hw:Region.wanted o (yielded ops a.tmps)=true
   ·rw[zG hw]at h⊢
    rcases h with h|h
    ·have h:=Oper.wp_mono (K':=fun a' w'=>wpOpsS P ops Q rest a' cs w') (fun a' w' h=>eQ hno rest a' w' h) h
     unfold Oper.wp at h
     generalize (execOp a.eval o).run P w=r at h⊢
     split
     ·exact absurd h (by simp[Oper.upon])
     ·exact h
    ·exact absurd h.2 hno
   ·rw[zL hw]at h⊢
    exact eQ hno rest _ w h
theorem VF{i:Nat}{rest:List Nat}{o:Oper}{a:Act}{w:World}{v:Value}(ho:ops[i]?=some o)(hop:o.op=.call {callee:=.builtin .recover,args:=#[],argTypes:=#[]})(hw:Region.wanted o (yielded ops a.tmps)=true)(hr:recoverD cs=some (v,cs'))
  (h:wpOpsS P ops Q rest (a.put o.dst v) cs' w):wpOpsS P ops Q (i::rest) a cs w:=by
 exact zFY
theorem zZU{i:Nat}{rest:List Nat}{o:Oper}{a:Act}{w:World}(ho:ops[i]?=some o)(hop:o.op=.call {callee:=.builtin .recover,args:=#[],argTypes:=#[]})(hw:Region.wanted o (yielded ops a.tmps)=true)(hr:recoverD cs=none)
  (h:wpOpsS P ops Q rest (a.put o.dst .nilIface) cs w):wpOpsS P ops Q (i::rest) a cs w:=by
 exact zFY
end
theorem zQ1:xX Tryz.prog 143 1:=⟨⟨_,Tryz.underlying143,rfl⟩,by kernel_rfl⟩
theorem WO:cY Tryz.prog 143 #[.int .i64 0]:=by unfold cY;kernel_rfl
theorem UE(v:Value)(w:World):(Instr.typeAssert (.iface 143 v) 20 143 true).run Tryz.prog w=.ok (.tuple #[v,.bool true]) w:=by kernel_rfl
theorem UC(w:World):(Instr.typeAssert .nilIface 20 143 true).run Tryz.prog w=.ok (.tuple #[.agg #[.int .i64 0],.bool false]) w:=by kernel_rfl
theorem zYY(c:Int):Tryz.prog.built 51 [(0,.int .i64 c)]=some (efc ⟨c,false,false,false⟩):=by kernel_rfl
def WV(c:Int)(older:List PanicEntry):FrameMode:=.panicking ({v:=.iface 143 (.agg #[.int .i64 c]),recovered:=true}::older)
theorem zL8{c₀:Frame}{cs:List Frame}{c:Int}(hu:c₀.mode=.panicking (pan c)):recoverD (c₀::cs)=some (.iface 143 (.agg #[.int .i64 c]),{c₀ with mode:=WV c []}::cs):=by simp[recoverD,hu,pan,WV]
theorem rec_no{c₀:Frame}{cs:List Frame}(hu:c₀.mode=.returning):recoverD (c₀::cs)=none:=by simp[recoverD,hu]
theorem zH0(ge:Nat)(c:Int)(f0:Ef)(w:World)(he:Blk ge 51 (efc f0) w):
  CallsD Tryz.prog 58 #[.pointer (some ⟨ge,0,none⟩)] (.panicking (pan c)) w fun e u' w'=>e=.returned (.tuple #[])∧u'=WV c []∧Blk ge 51 (efc ⟨c,false,false,false⟩) w'∧xN (fun k=>k=ge) w w':=by
 refine callsD_of_wpS Tryz.func58 rfl fun c₀ cs hu=>?_;have E:=zW he;have hay:=fun w=>UE (.agg #[.int .i64 c]) w;have hr:=zL8 (cs:=cs) hu;simp only[Tryz.ntmps58,kD,jH,kQ,Nat.reduceAdd,Nat.reduceSub,kZ,kJ,kF,kY,jP,jF];apply wpS_seq
 apply wpS_region
 show wpOpsS _ _ _ [0,1,2,3,4,5,6,7] _ _ _
 refine VF zBG zBB zBB hr ?_;refine eQ (fun h=>?_) _ _ _ ?_
 ·obtain⟨a,w,h⟩:=h;obtain⟨u,h⟩:=h;exact absurd h.1 zBT
 simp only[lA,zX,zK,zV,Act.put,zQ,zZ,zJ];iterate 12 go_step
 refine nY (ds:=#[.int .i64 c]) zQ1 WO rfl rfl (by simp[cL,Value.oneCell']) rfl rfl rfl (.tmp 1) (.tmp 6) rfl zBL zBL ?_;simp only[Act.put,zQ,zZ,zJ];have F:=Blk.new w 143 #[.int .i64 c];have B:=zW (mJ w (.cells #[.int .i64 c] 143));have E:=zW (E.out.step B.out);have NE:=zW (show ge<w.heap.size from he.lt);obtain⟨gf,hgf⟩:∃gf,w.heap.size=gf:=⟨_,rfl⟩;rw[hgf]at F NE⊢;clear hgf hu hay hr;generalize World.alloc w _=w1 at*;have c1:w1.cell? ⟨gf,0,none⟩=some (.int .i64 c):=(F.cell 0).trans rfl;iterate 4 go_step
 show Code.wpS _ _ _ _ _ _;refine wpS_of_wp ?_;go_upto_region 2 with fail;refine zN ?_;iterate 6 go_step
 refine nU rfl rfl (by simpa [Act.eval]using zYY c) ?_;simp only[Act.put,zQ,zZ,zJ];refine lE (ds:=efc ⟨c,false,false,false⟩) ZI E.out rfl rfl (yT _) rfl (.tmp 0) (.tmp 11) rfl zBL zBL ?_;simp only[Act.put,zQ,zZ,zJ];have E2:=zW (E.out.store (efc ⟨c,false,false,false⟩));have K:=zW (show xN (fun k=>k=ge) w (w1.setRow ge (efc ⟨c,false,false,false⟩))from(xN.of_below B.out).trans (pP (O:=fun k=>k=ge) rfl) Z7.refl);generalize World.setRow w1 ge _=w2 at E2 K⊢;clear c1;go_wp2_with fail;exact⟨rfl,WV c [],rfl,_,results_none rfl _ _ _,rfl,rfl,E2.out,K.out⟩
theorem WW(ge:Nat)(w:World):
  CallsD Tryz.prog 58 #[.pointer (some ⟨ge,0,none⟩)] .returning w fun e u' w'=>e=.returned (.tuple #[])∧u'=.returning∧Below w.heap.size w w':=by
 refine callsD_of_wpS Tryz.func58 rfl fun c₀ cs hu=>?_;have hay:=UC;have hr:=rec_no (cs:=cs) hu;have HU:=zW hu;simp only[Tryz.ntmps58,kD,jH,kQ,Nat.reduceAdd,Nat.reduceSub,kZ,kJ,kF,kY,jP,jF];apply wpS_seq
 apply wpS_region
 show wpOpsS _ _ _ [0,1,2,3,4,5,6,7] _ _ _
 refine zZU zBG zBB zBB hr ?_;refine eQ (fun h=>?_) _ _ _ ?_
 ·obtain⟨a,w,h⟩:=h;obtain⟨u,h⟩:=h;exact absurd h.1 zBT
 simp only[lA,zX,zK,zV,Act.put,zQ,zZ,zJ];iterate 12 go_step
 refine nY (ds:=#[.int .i64 0]) zQ1 WO rfl rfl (by simp[cL,Value.oneCell']) rfl rfl rfl (.tmp 1) (.tmp 6) rfl zBL zBL ?_;simp only[Act.put,zQ,zZ,zJ];have B:=zW (mJ w (.cells #[.int .i64 0] 143));clear hu hay hr;generalize World.alloc w _=w1 at*;iterate 4 go_step
 show Code.wpS _ _ _ _ _ _;refine wpS_of_wp ?_;go_wp2_with fail;exact⟨rfl,.returning,by have h:=HU.out;cases c₀;simp at h⊢;exact h,_,results_none rfl _ _ _,rfl,rfl,B.out⟩
end
section
open Go.RowKit Go.ChangeShapes Go.WideShapes Num Cpu
section
variable {H:Type} {enc:TypeId×Value→H} {W:World} {r:Reach} {base:Nat}
theorem iV{fuel:Nat}{cs:List Value}{x:DataW H×List MemPlace}(h:DataW.trod enc Tryz.prog W 0 (fun _=>true) true fuel 22 cs=some x):∃(s:Sl) (L:List Int),cs=[s.v]∧(Rd W s.A L∧L.length=s.n)∧Bts L:=by
 have h':=h;rcases open_ints Tryz.underlying22 Tryz.underlying5 zBM h with⟨hcs,_⟩|⟨a,len,cap,zs,hcs,_⟩
 all_goals
  subst hcs
  obtain⟨L,hL⟩:=zJ9 h'
  exact⟨⟨_,_,_⟩,L,rfl,⟨hL.rd,hL.len⟩,fun k hk=>hL.bd _ (lS hk)⟩
theorem FU{fuel:Nat}{cs:List Value}{x:DataW H×List MemPlace}(h:DataW.trod enc Tryz.prog W 0 (fun _=>true) true fuel 25 cs=some x):∃(s:Sl) (L:List Nat),cs=[s.v]∧(gK W s.A L∧L.length=s.n)∧(∀x∈L,x≤65535)∧s.n≤s.c:=by
 rcases open_ints Tryz.underlying25 Tryz.underlying24 zBM h with⟨hcs,_⟩|⟨a,n,c,zs,hcs,hb,hl,hm,hz,_,hcell,hw⟩
 ·exact⟨⟨none,0,0⟩,[],hcs,⟨gK.nil,rfl⟩,by simp,zH _⟩
 ·simp only[if_true]at hz;have hget:∀i,i<zs.length→0≤zs.getD i 0∧zs.getD i 0≤65535:=fun i hi=>by
   rw[qJ,zP hi];exact Num.bd_u16 (hw _ (lS hi))
  refine⟨⟨some a,n,c⟩,(zs.take n).map Int.toNat,hcs,⟨fun hne=>?_,by rw[jQ,qV];show min n zs.length=n;omega⟩,fun x hx=>?_,hl⟩
  ·have h0:0<n:=by
    rcases Nat.eq_zero_or_pos n with e|e
    ·subst e;exact absurd rfl hne
    ·exact e
   have hlt:=lT W _ (hcell 0 zBY);rw[gQ]at hlt;refine⟨a,rfl,hlt,fun j hj=>?_⟩;rw[jQ,qV]at hj;have hj2:j<zs.length:=zBY;rw[hcell j hj2,List.getElem_map,jU];have hb:=(hget j hj2).1;rw[qJ,zP hj2]at hb⊢;simp only[Option.getD_some]at hb⊢;rw[Int.toNat_of_nonneg hb]
  ·obtain⟨z,hz1,rfl⟩:=jR.1 hx;have:=Num.bd_u16 (hw z (List.mem_of_mem_take hz1));omega
theorem DU{fuel:Nat}{cs:List Value}{x:DataW H×List MemPlace}(h:DataW.trod enc Tryz.prog W 0 (fun _=>true) true fuel 26 cs=some x):∃(s:Sl) (l:List Ev),cs=[s.v]∧Evs W s.A s.n l:=by
 have ce:Tryz.prog.cellsOf 103=2:=zBM;rcases Go.Deep.open_slice Tryz.underlying26 h with⟨hcs,_⟩|⟨a,n,c,m,k,D,Pl,hcs,hb,hl,hm,hmm,_,hi⟩
 ·exact⟨⟨none,0,0⟩,[],hcs,⟨rfl,qE _,fun i hi=>absurd hi (Nat.not_lt_zero i)⟩⟩
 ·simp only[if_true]at hmm;have each:∀i,i<n→∃e:Ev,(∀j v,(ec e).toList[j]?=some v→W.cell? ((a.add (i*2)).add j)=some v)∧e.ok:=by
   intro i hin;obtain⟨cs',h1,h2⟩:=hi i zBY;rw[ce]at h1;obtain⟨_,hlen,hcell⟩:=World.cells?_some h1;obtain⟨e,he,ok⟩:=zWO h2;refine⟨e,fun j v hv=>?_,ok⟩;have hj:j<2:=by
    have:=(kE.1 hv).1;simpa [ec]using this
   rw[hcell j hj,he];exact hv
  obtain⟨f,hf⟩:=Go.Deep.choose_lt each
  refine⟨⟨some a,n,c⟩,(List.range n).map f,hcs,⟨by simp,by show n≤maxLen;omega,fun i hin=>?_⟩⟩;simp only[jQ,List.length_range]at hin;simp only[List.getElem_map,List.getElem_range];obtain⟨hc,ok⟩:=hf i hin;have h0:=(hf 0 zBY).1 0 _ rfl;rw[show(a.add (0*2)).add 0=a from rfl]at h0;have hlt:=lT W _ h0;have hsp:a.spot=none:=by
   cases hq:a.spot with
   |none=>rfl
   |some z=>
    unfold World.cell? at h0
    rw[hq]at h0
    split at h0<;>simp at h0
  obtain⟨b,o,s⟩:=a;simp only at hsp;subst hsp;have c0:=hc 0 _ rfl;have c1:=hc 1 _ rfl;rw[Addr.add_mid,Addr.add_mid]at c0 c1;exact⟨b,o,rfl,hlt,c0,c1,ok⟩
theorem zYP{fuel:Nat}{cs:List Value}{x:DataW H×List MemPlace}(h:DataW.trod enc Tryz.prog W 0 (fun _=>true) true fuel 23 cs=some x):∃f:Nat→Nat,cs=(List.range 16).map (fun j=>Value.int .u8 (f j:Int))∧OkV f:=by
 have hc:Tryz.prog.cellsOf 23=16:=zBM;have hc0:Tryz.prog.cellsOf 5=1:=zBM;obtain⟨xs,n,_,hx,hcl,hlen,hg⟩:=DataW.trod_array Tryz.underlying23 h;rw[hc]at hcl;have each:∀i,i<16→∃b:Nat,cs[i]?=some (.int .u8 (b:Int))∧b<256:=by
  intro i hi;have g:=hg i hi;rw[hc0,Nat.mul_one,zP zBY]at g;obtain⟨a,e,_,s⟩:=jO Tryz.underlying5 g;have t:=bd_u8 s;obtain⟨b,rfl⟩:=qR t.1;refine⟨b,?_,by omega⟩;have e2:=congrArg (fun l:List Value=>l[0]?) e;simpa using e2
 obtain⟨f,hf⟩:=Go.Deep.choose_lt each;refine⟨f,kT fun i=>?_,fun j hj=>(hf j hj).2⟩;by_cases hi:i<16
 ·rw[(hf i hi).1];simp[hi]
 ·rw[qD zBY,qD zBS]
theorem sM(cs:List Value)(a n b:Nat)(hb:a+n=b){l:List Value}(h:(cs.drop a).take n=l):cs.drop a=l++cs.drop b:=by
 rw[←h,←hb,←List.drop_drop];exact(List.take_append_drop _ _).symm
theorem zKD{fuel:Nat}{cs:List Value}{x:DataW H×List MemPlace}(h:DataW.trod enc Tryz.prog W 0 (fun _=>true) true fuel 28 cs=some x):∃(u:US) (R L:List Int) (S:List Nat) (ks:List Ev) (FL:List Int),cs=(usc u).toList∧UW W u R L S ks FL:=by
 have hc:Tryz.prog.cellsOf 28=27:=zBM;have hy:Tryz.prog.cellsOf 22=1:=zBM;have ha:Tryz.prog.cellsOf 23=16:=zBM;have hw:Tryz.prog.cellsOf 24=1:=zBM;have hs:Tryz.prog.cellsOf 25=1:=zBM;have hk:Tryz.prog.cellsOf 26=1:=zBM;have hu:Tryz.prog.cellsOf 5=1:=zBM;have hb:Tryz.prog.cellsOf 4=1:=zBM;obtain⟨xs,n,_,hx,hcl,hlen,hg⟩:=DataW.trod_struct Tryz.underlying28 h;rw[hc]at hcl;match xs,hlen with
 |[y0,y1,y2,y3,y4,y5,y6,y7,y8,y9,y10,y11],_=>
  have g0:DataW.trod enc Tryz.prog W 0 (fun _=>true) true n 22 ((cs.drop 0).take (Tryz.prog.cellsOf 22))=some y0:=hg 0 _ rfl
  rw[hy]at g0
  have g1:DataW.trod enc Tryz.prog W 0 (fun _=>true) true n 22 ((cs.drop 1).take (Tryz.prog.cellsOf 22))=some y1:=hg 1 _ rfl
  rw[hy]at g1
  have g2:DataW.trod enc Tryz.prog W 0 (fun _=>true) true n 23 ((cs.drop 2).take (Tryz.prog.cellsOf 23))=some y2:=hg 2 _ rfl
  rw[ha]at g2
  have g3:DataW.trod enc Tryz.prog W 0 (fun _=>true) true n 24 ((cs.drop 18).take (Tryz.prog.cellsOf 24))=some y3:=hg 3 _ rfl
  rw[hw]at g3
  have g4:DataW.trod enc Tryz.prog W 0 (fun _=>true) true n 24 ((cs.drop 19).take (Tryz.prog.cellsOf 24))=some y4:=hg 4 _ rfl
  rw[hw]at g4
  have g5:DataW.trod enc Tryz.prog W 0 (fun _=>true) true n 25 ((cs.drop 20).take (Tryz.prog.cellsOf 25))=some y5:=hg 5 _ rfl
  rw[hs]at g5
  have g6:DataW.trod enc Tryz.prog W 0 (fun _=>true) true n 26 ((cs.drop 21).take (Tryz.prog.cellsOf 26))=some y6:=hg 6 _ rfl
  rw[hk]at g6
  have g7:DataW.trod enc Tryz.prog W 0 (fun _=>true) true n 5 ((cs.drop 22).take (Tryz.prog.cellsOf 5))=some y7:=hg 7 _ rfl
  rw[hu]at g7
  have g8:DataW.trod enc Tryz.prog W 0 (fun _=>true) true n 5 ((cs.drop 23).take (Tryz.prog.cellsOf 5))=some y8:=hg 8 _ rfl
  rw[hu]at g8
  have g9:DataW.trod enc Tryz.prog W 0 (fun _=>true) true n 4 ((cs.drop 24).take (Tryz.prog.cellsOf 4))=some y9:=hg 9 _ rfl
  rw[hb]at g9
  have g10:DataW.trod enc Tryz.prog W 0 (fun _=>true) true n 5 ((cs.drop 25).take (Tryz.prog.cellsOf 5))=some y10:=hg 10 _ rfl
  rw[hu]at g10
  have g11:DataW.trod enc Tryz.prog W 0 (fun _=>true) true n 22 ((cs.drop 26).take (Tryz.prog.cellsOf 22))=some y11:=hg 11 _ rfl
  rw[hy]at g11
  obtain⟨s0,R,e0,r0,b0⟩:=iV g0
  obtain⟨s1,L,e1,r1,b1⟩:=iV g1
  obtain⟨f,e2,vf⟩:=zYP g2
  obtain⟨i,e3,_,w3⟩:=jO Tryz.underlying24 g3
  obtain⟨pc,e4,_,w4⟩:=jO Tryz.underlying24 g4
  obtain⟨s5,S,e5,r5,b5,c5⟩:=FU g5
  obtain⟨s6,ks,e6,r6⟩:=DU g6
  obtain⟨dl,e7,_,w7⟩:=jO Tryz.underlying5 g7
  obtain⟨sd,e8,_,w8⟩:=jO Tryz.underlying5 g8
  obtain⟨hr,e9,_⟩:=kM Tryz.underlying4 g9
  obtain⟨mk,e10,_,w10⟩:=jO Tryz.underlying5 g10
  obtain⟨s11,FL,e11,r11,b11⟩:=iV g11
  have t3:=bd_u16 w3
  have t4:=bd_u16 w4
  have t7:=bd_u8 w7
  have t8:=bd_u8 w8
  have t10:=bd_u8 w10
  obtain⟨i,rfl⟩:=qR t3.1
  obtain⟨pc,rfl⟩:=qR t4.1
  obtain⟨dl,rfl⟩:=qR t7.1
  obtain⟨sd,rfl⟩:=qR t8.1
  obtain⟨mk,rfl⟩:=qR t10.1
  refine⟨⟨s0,s1,f,i,pc,s5,s6,dl,sd,hr,mk,s11⟩,R,L,S,ks,FL,?_,⟨r0,r1,r5,r6,r11,b0,b1,b11,b5,c5,by show i≤65535;omega,by show pc≤65535;omega,by show dl<256;omega,by show sd<256;omega,by show mk<256;omega,vf⟩⟩
  have E:cs=cs.drop 0:=rfl
  rw[E,sM cs 0 1 1 rfl e0,sM cs 1 1 2 rfl e1,sM cs 2 16 18 rfl e2,sM cs 18 1 19 rfl e3,sM cs 19 1 20 rfl e4,sM cs 20 1 21 rfl e5,sM cs 21 1 22 rfl e6,sM cs 22 1 23 rfl e7,sM cs 23 1 24 rfl e8,sM cs 24 1 25 rfl e9,sM cs 25 1 26 rfl e10,sM cs 26 1 27 rfl e11,List.drop_eq_nil_of_le (by omega:cs.length≤27)]
  rfl
theorem bM{v:Value}{d:DataW H}{p:List MemPlace}(hv:Value.okWide Tryz.prog W r base 28 v)(h:DataW.Trod enc Tryz.prog W 0 (fun _=>true) true 28 v d p):∃(u:US) (R L:List Int) (S:List Nat) (ks:List Ev) (FL:List Int),v=.agg (usc u)∧UW W u R L S ks FL:=by
 obtain⟨cs,rfl,hsz⟩:=okWide_struct Tryz.underlying28 hv;obtain⟨fuel,hf⟩:=h;obtain⟨u,R,L,S,ks,FL,he,hu⟩:=zKD hf;exact⟨u,R,L,S,ks,FL,by rw[←Array.toArray_toList (xs:=usc u),←he];rfl,hu⟩
end
end
section
open Go.RowKit Num Dec Cpu
def bq(X:Nat→Nat→Nat)(i:Nat):Array Value:=bc4 (X i 0) (X i 1) (X i 2) (X i 3)
def l3q(X:Nat→Nat→Nat):Array Value:=#[.int .u8 (X 0 0:Int),.int .u8 (X 0 1:Int),.int .u8 (X 0 2:Int),.int .u8 (X 0 3:Int),.int .u8 (X 1 0:Int),.int .u8 (X 1 1:Int),.int .u8 (X 1 2:Int),.int .u8 (X 1 3:Int),.int .u8 (X 2 0:Int),.int .u8 (X 2 1:Int),.int .u8 (X 2 2:Int),.int .u8 (X 2 3:Int)]
theorem zWY(X:Nat→Nat→Nat)(k:Nat)(hk:k<3):(l3q X).extract (k*4) (k*4+4)=bq X k:=by
 obtain rfl|rfl|rfl:k=0∨k=1∨k=2:=by omega
 all_goals rfl
theorem zeroB4:cY Tryz.prog 29 #[.int .u8 0,.int .u8 0,.int .u8 0,.int .u8 0]:=by unfold cY;kernel_rfl
theorem CJ(X:Nat→Nat→Nat)(w:World):(Instr.buildSlice 45 3 #[(0,.agg (bq X 0)),(1,.agg (bq X 1)),(2,.agg (bq X 2))]).run Tryz.prog w=.ok (.slice (some ⟨w.heap.size,0,none⟩) 3 3) (w.alloc (.cells (l3q X) 29)):=by
 have hu:(underlying 45).run Tryz.prog w=.ok (.slice 29) w:=kL Tryz.underlying45 w;have hz:(zeroValue 29).run Tryz.prog w=.ok (.agg #[.int .u8 0,.int .u8 0,.int .u8 0,.int .u8 0]) w:=tK zeroB4;have hs:(sizeOf 29).run Tryz.prog w=.ok 4 w:=by
  have hi:=aD.i;cases hq:Tryz.prog.info? 29 with
  |none=>simp[hq]at hi
  |some i=>
   have hs:i.size=4:=zRI
   simp[sizeOf,typeInfo,hq,hs]
 have hf:Instr.fill (fun i=>some (i*4,4)) ((Array.range (3*4)).map ((#[.int .u8 0,.int .u8 0,.int .u8 0,.int .u8 0]:Array Value)[·%4]!)) [(0,.agg (bq X 0)),(1,.agg (bq X 1)),(2,.agg (bq X 2))]=some (l3q X):=by
  have hr:Array.range (3*4)=#[0,1,2,3,4,5,6,7,8,9,10,11]:=zBH;rw[hr];simp[Instr.fill,bq,bc4,l3q,Value.cells]
 unfold Instr.buildSlice;rw[qW,hu,qX];simp only[qW,hs,qX,jW];simp only[show¬(3*4>2^24) by decide,if_false,qW,jW,qX,show¬(3*4=0) by decide,hz,Value.cells];simp only[show(#[.int .u8 0,.int .u8 0,.int .u8 0,.int .u8 0]:Array Value).size=4 from rfl,hf,newRow,newObj,qW,jW,qX];rfl
theorem GS{ops:Array Oper}{Q:Exit→Act→World→Prop}{rest:List Oper}{op:Oper}{a:Act}{w:World}(X:Nat→Nat→Nat)(x y z:Operand)(hgd:op.guard=none)(ho:op.op=.buildSlice 45 3 #[(0,x),(1,y),(2,z)])(hx:a.eval x=.agg (bq X 0))(hy:a.eval y=.agg (bq X 1))(hz:a.eval z=.agg (bq X 2))
  (h:wpList Tryz.prog ops Q rest (a.put op.dst (.slice (some ⟨w.heap.size,0,none⟩) 3 3)) (w.alloc (.cells (l3q X) 29))):wpList Tryz.prog ops Q (op::rest) a w:=
 qL hgd fun K hK=>by
  have e:(#[(0,x),(1,y),(2,z)]:Array (Nat×Operand)).map (fun(i,x)=>(i,a.eval x))=#[(0,.agg (bq X 0)),(1,.agg (bq X 1)),(2,.agg (bq X 2))]:=by simp[hx,hy,hz]
  unfold Oper.wp execOp;simp only[ho,e,qW,CJ,qX,jW];exact hK _ _ h
end
end Go.Proofs.YtcjldabaekbdlaaGreatDoor
