/- ScrOps, ScrChunk, ScrBits, ScrDraw1, ScrDraw, ScrDo, ScrScr, ScrSame, ScrLawD, ScrOne, ScrRefD, AluDoL, ScrRel. -/
import Derived.Test.YtbpniahcjbagmaaGreatDoorMk1a
import Derived.Test.YtbpniahcjbagmaaGreatDoorMAluSpL
set_option maxRecDepth 400000
set_option maxHeartbeats 64000000
set_option linter.unusedVariables false
set_option linter.unusedSimpArgs false
namespace Go.Proofs.YtbpniahcjbagmaaGreatDoor
section
open Go.RowKit Go.Shelf Num
def yE(f:Nat→Pl→Pl)(M:Nat)(S:Sc):Sc:=⟨fun i=>if onB M i then f i (S.P i)else S.P i,S.hi,S.M⟩
theorem eI(step:Nat→Pl→Pl):∀(l:List (Fin 4)) (n:Nat) (S:Sc),(gO step n S l).hi=S.hi∧(gO step n S l).M=S.M
 |[],n,S=>⟨rfl,rfl⟩
 |x::xs,n,S=>eI step xs (n+1) _
theorem Y6(step:Nat→Pl→Pl)(S:Sc)(M k:Nat)(hk:k≤4):∀j,(gO step 0 S (nC M k)).P j=if j<k∧onB M j=true then step (nC M j).length (S.P j)else S.P j:=by
 induction k with
 |zero=>intro j;rw[uI,zL zGX];rfl
 |succ k ih=>
  intro j
  rw[cU M k zGX]
  have ih:=ih zGX
  cases h:onB M k
  ·rw[zL zGL,kK,ih j]
   by_cases e:j<k∧onB M j=true
   ·rw[zN e,zN ⟨by omega,e.2⟩]
   ·rw[zL e,zL]
    rintro⟨h1,h2⟩
    rcases(show j<k∨j=k by omega)with h3|rfl
    ·exact e ⟨h3,h2⟩
    ·rw[h]at h2;cases h2
  ·rw[zN rfl,fK,qL]
   unfold Sc.put
   simp only
   by_cases e:j=k
   ·subst e
    rw[zN rfl,zN ⟨by omega,h⟩,ih j,zL zGX]
   ·rw[zL e,ih j]
    by_cases e2:j<k∧onB M j=true
    ·rw[zN e2,zN ⟨by omega,e2.2⟩]
    ·rw[zL e2,zL (fun h=>e2 ⟨by omega,h.2⟩)]
theorem BX(step:Nat→Pl→Pl)(S:Sc)(M k:Nat)(hk:k≤4):uM step 0 S (nC M k)=(nC M k).map fun i=>S.P i.val:=by
 induction k with
 |zero=>rw[uI];rfl
 |succ k ih=>
  rw[cU M k zGX]
  split
  ·rw[bB,ih zGX,kY,Y6 step S M k zGX k,zL zGX]
   rfl
  ·rw[kK,ih zGX]
theorem eO(step:Nat→Pl→Pl)(S:Sc)(M:Nat):lK (gO step 0 S (nC M 4))=lK (yE (fun i p=>step (nC M i).length p) M S):=by
 refine gJ (fun i hi y hy=>?_) (eI _ _ _ _).1 (eI _ _ _ _).2;rw[Y6 step S M 4 zGX i];unfold yE;simp only;by_cases h:onB M i=true
 ·rw[zN ⟨hi,h⟩,zN h]
 ·rw[zL (fun e=>h e.2),zL h]
theorem U0:(match Tryz.prog.underlying 80 with|some (.struct fields)=>fields.toList.mapM (fun f=>(Tryz.prog.info? f.type).map fun i=>(f.offset,i.size))|_=>none)=some [(0,512),(512,1),(513,1)]:=by kernel_rfl
theorem KM(parts:List (Nat×Value)):Tryz.prog.built 80 parts=Instr.fill ([(0,512),(512,1),(513,1)].toArray[·]?) (lK (mQ false 0)) parts:=by
 obtain⟨it,hit,hz⟩:=kT.1 WV;simp only[kQ]at hz;have hp:=U0;rw[Tryz.underlying80]at hp;unfold Program.built;rw[hit,Tryz.underlying80];simp only at hp⊢;rw[hz.1,hp];rfl
theorem SM(m:Int):Tryz.prog.built 80 [(2,.int .i64 m)]=some (lK (mQ false m)):=by
 rw[KM];have e:lK (mQ false m)=(lK (mQ false 0)).setIfInBounds 513 (.int .i64 m):=by rw[MT];rfl
 rw[e];have hC:=lN (mQ false 0);generalize lK (mQ false 0)=C at*;simp[Instr.fill,Value.cells,hC]
theorem zJS(S:Sc)(v:Bool):(lK S).setIfInBounds 512 (.bool v)=lK ⟨S.P,v,S.M⟩:=by
 apply qH
 intro j
 rw[qB,lN];by_cases h1:512=j
 ·subst h1;rw[zN rfl,zN zGX,mA _ _ zGX];rfl
 ·rw[zL h1];by_cases h3:j<514
  ·rw[mA _ _ h3,mA _ _ h3];unfold yC;by_cases h5:j<512
   ·rw[zN h5,zN h5]
   ·rw[zL h5,zL h5,zL zGX,zL zGX]
  ·rw[zF zG1,zF zG1]
theorem SN(v:Bool)(m:Int):Tryz.prog.built 80 [(1,.bool v),(2,.int .i64 m)]=some (lK (mQ v m)):=by
 rw[KM];have e:lK (mQ v m)=((lK (mQ false 0)).setIfInBounds 512 (.bool v)).setIfInBounds 513 (.int .i64 m):=by rw[zJS,MT];rfl
 rw[e];have hC:=lN (mQ false 0);generalize lK (mQ false 0)=C at*;simp[Instr.fill,Value.cells,hC]
theorem zX5(w:World):Calls Tryz.prog 45 #[] w fun e w'=>e=.returned (.agg (lK (mQ false 1)))∧Below w.heap.size w w':=by
 have hz:=yB;go_enter Tryz.func45,Tryz.ntmps45;go_upto_region 1 with fail;refine zH ?_;have R:=zW (SB.new w (mQ false 0));have B:=zW (vL w (.cells (lK (mQ false 0)) 80));generalize w.alloc (.cells (lK (mQ false 0)) 80)=w1 at*;clear hz;refine lC (cs:=lK (mQ false 1)) rfl rfl (by simp[Act.eval];exact SM 1) ?_;refine lM (ds:=lK (mQ false 1)) cL R.out (lN _) (lN _) (nR _) rfl (.tmp 0) (.tmp 1) rfl zGK zGK ?_;have R2:=zW (R.out.store (mQ false 1));have B2:=zW (cF B.out (zG _) (lK (mQ false 1)));generalize w1.setRow w.heap.size (lK (mQ false 1))=w2 at*;iterate 4 go_step
 exact zP (zE rfl _ _ w.heap.size _ _ _ _ rfl R2.out Tryz.underlying80 rfl zBZ) rfl ⟨rfl,B2.out⟩
theorem YU(S:Sc)(m:Int)(w:World):Calls Tryz.prog 143 #[.agg (lK S),.int .i64 m] w fun e w'=>e=.returned (.agg (lK (S.mask m)))∧Below w.heap.size w w':=by
 have hz:=yB;go_enter Tryz.func143,Tryz.ntmps143;go_upto_region 1 with fail;have S0:=zW ((SB.new w S).alloc (.cells (lK (mQ false 0)) 80));have R:=zW (SB.new (w.alloc (.cells (lK S) 80)) (mQ false 0));have B:=zW ((vL w (.cells (lK S) 80)).alloc zGN (.cells (lK (mQ false 0)) 80));rw[zT]at R;generalize (w.alloc (.cells (lK S) 80)).alloc (.cells (lK (mQ false 0)) 80)=w1 at*;clear hz;have c1:=S0.out.maskc;have c2:=S0.out.fz 513;go_upto_region 2 with fail;refine zH ?_;have S1:=zW (S0.out.setMask m);have R1:=zW (R.out.other (g:=w.heap.size) zGX 513 (.int .i64 m));have B1:=zW (B.out.setCell (p:=⟨w.heap.size,513,none⟩) (zG _) (.int .i64 m));generalize w1.setCell ⟨w.heap.size,513,none⟩ (.int .i64 m)=w2 at*;clear c1 c2;refine lL cL S1.out (lN _) rfl (.tmp 2) rfl zGB ?_;refine lM (ds:=lK (S.mask m)) cL R1.out (lN _) (lN _) (nR _) rfl (.tmp 4) (.tmp 7) rfl zGK zGK ?_;have R2:=zW (R1.out.store (S.mask m));have B2:=zW (cF B1.out (jT _) (lK (S.mask m)));generalize w2.setRow (w.heap.size+1) (lK (S.mask m))=w3 at*;exact zRF
theorem zJ7(S:Sc)(v:Bool)(w:World):Calls Tryz.prog 139 #[.agg (lK S),.bool v] w fun e w'=>e=.returned (.agg (lK (mQ v S.M)))∧Below w.heap.size w w':=by
 have hz:=yB;obtain⟨m,hm⟩:∃m,S.M=m:=⟨_,rfl⟩;rw[hm];go_enter Tryz.func139,Tryz.ntmps139;go_upto_region 1 with fail;refine zH ?_;have S0:=zW ((SB.new w S).alloc (.cells (lK (mQ false 0)) 80));have R:=zW (SB.new (w.alloc (.cells (lK S) 80)) (mQ false 0));have B:=zW ((vL w (.cells (lK S) 80)).alloc zGN (.cells (lK (mQ false 0)) 80));rw[zT]at R;generalize (w.alloc (.cells (lK S) 80)).alloc (.cells (lK (mQ false 0)) 80)=w1 at*;clear hz;have c1:=S0.out.maskc;rw[hm]at c1;clear hm;iterate 9 go_step
 refine lC (cs:=lK (mQ v m)) rfl rfl (by simp[Act.eval];exact SN v m) ?_;refine lM (ds:=lK (mQ v m)) cL R.out (lN _) (lN _) (nR _) rfl (.tmp 4) (.tmp 8) rfl zGK zGK ?_;have R2:=zW (R.out.store (mQ v m));have B2:=zW (cF B.out (jT _) (lK (mQ v m)));generalize w1.setRow (w.heap.size+1) (lK (mQ v m))=w2 at*;exact zRF
theorem ED(p:Pl)(w:World):Calls Tryz.prog 170 #[.agg (lY p)] w fun e w'=>e=.returned (.agg (lY fun _=>0#128))∧Below w.heap.size w w':=by
 have hz:=yU;go_enter Tryz.func170,Tryz.ntmps170;go_upto_region 1 with fail;refine zH ?_;have R:=zW (nZ.new (w.alloc (.cells (lY p) 41)) (fun _=>0#128) 41);have B:=zW ((vL w (.cells (lY p) 41)).alloc zGN (.cells (lY fun _=>0#128) 41));rw[zT]at R;generalize (w.alloc (.cells (lY p) 41)).alloc (.cells (lY fun _=>0#128) 41)=w1 at*;clear hz;refine BU rfl rfl ?_;refine lM (ds:=lY fun _=>0#128) wP R.out (lH _) (lH _) (vI _) rfl (.tmp 2) (.tmp 3) rfl zGK zGK ?_;have R2:=zW (R.out.store fun _=>0#128);have B2:=zW (cF B.out (jT _) (lY fun _=>0#128));generalize w1.setRow (w.heap.size+1) (lY fun _=>0#128)=w2 at*;iterate 4 go_step
 exact zP (zE rfl _ _ (w.heap.size+1) _ _ _ _ rfl R2.out Tryz.underlying41 rfl (by rw[wP.i,lH])) rfl ⟨rfl,B2.out⟩
theorem ET(S:Sc)(M:Nat)(hM:S.M=(M:Int))(M1:M≤10000)(w:World):Calls Tryz.prog 138 #[.agg (lK S)] w fun e w'=>e=.returned (.agg (lK (yE (fun _ _ _=>0#128) M S)))∧Below w.heap.size w w':=by
 have hz:=yB;obtain⟨Z,hZ⟩:∃Z,yE (fun _ _ _=>0#128) M S=Z:=⟨_,rfl⟩;rw[hZ];have CH:=zW fun w=>sJ M (g:=170) (caps:=#[]) (enters_of Tryz.func170 zGV rfl) (fun _ _ _=>0#128) (fun _=>False) (fun _ _=>True) w (fun _ h=>h.elim) (fun _ _ _ _ _=>trivial)
  (fun n p W _ _ _=>(ED p W).mono fun e W' h=>⟨h.1,trivial,But.of_below h.2⟩) S hM M1 trivial
 have RC:=zW ((eO (fun _ _ _=>0#128) S M).trans (by rw[hZ]));clear hZ;go_enter Tryz.func138,Tryz.ntmps138;go_upto_region 1 with fail;refine zH ?_;have S0:=zW ((SB.new w S).alloc (.cells (lK (mQ false 0)) 80));have R:=zW (SB.new (w.alloc (.cells (lK S) 80)) (mQ false 0));have B:=zW ((vL w (.cells (lK S) 80)).alloc zGN (.cells (lK (mQ false 0)) 80));rw[zT]at R;generalize (w.alloc (.cells (lK S) 80)).alloc (.cells (lK (mQ false 0)) 80)=w1 at*;clear hz;refine lL cL S0.out (lN _) rfl (.tmp 1) rfl zGB ?_;simp only[Act.put,zQ,zZ,zJ];refine qZ rfl fun K hK=>?_;refine mK (g:=169) (caps:=#[]) (args:=#[.agg (lK S),.func (.func 170) #[] #[]]) (.func 169) #[.tmp 3,.func 170] #[80,272] rfl (enters_of Tryz.func169 zGV rfl) rfl zGB ?_;refine(CH.out w1).mono ?_;rintro e w2 ⟨rfl,-,b2⟩;have b2:=b2.all;have R2:=zW (R.out.step b2);have B2:=zW (B.out.trans (b2.mono B.out.size));refine⟨_,rfl,hK _ _ ?_⟩;clear hK K b2 S0 R B;rw[RC.out];simp only[Act.put,zQ,zZ,zJ];refine lM (ds:=lK Z) cL R2.out (lN _) (lN _) (nR _) rfl (.tmp 2) (.tmp 4) rfl zGK zGK ?_;have R3:=zW (R2.out.store Z);have B3:=zW (cF B2.out (jT _) (lK Z));generalize w2.setRow (w.heap.size+1) (lK Z)=w3 at*;iterate 4 go_step
 exact zP (zE rfl _ _ (w.heap.size+1) _ _ _ _ rfl R3.out Tryz.underlying80 rfl zBZ) rfl ⟨rfl,B3.out⟩
def ScG(bx bY bs:Nat)(dx dy:Int)(S:Sc)(W:World):Prop:=Boxed W bx 3 (.int .i64 dx)∧Boxed W bY 3 (.int .i64 dy)∧SB bs S W
theorem nM{w w':World}{b:Nat}{t:TypeId}{v:Value}(h:Boxed w b t v)(hb:Below w.heap.size w w'):Boxed w' b t v:=(hb.block b h.lt).trans h
theorem YI(bx bY bs:Nat)(dx dy:Int)(S:Sc)(m h:Nat)(hr:Res S.hi m h)(d0: -1000≤dx)(d1:dx≤1000)(e0: -1000≤dy)(e1:dy≤1000)(p:Pl)(w:World)(G:ScG bx bY bs dx dy S w):
  Calls Tryz.prog 178 #[.agg (lY p),.pointer (some ⟨bx,0,none⟩),.pointer (some ⟨bY,0,none⟩),.pointer (some ⟨bs,0,none⟩)] w fun e w'=>e=.returned (.agg (lY (m3 p dx dy m h)))∧Below w.heap.size w w':=by
 have hz:=yU;obtain⟨v,hv⟩:∃v,S.hi=v:=⟨_,rfl⟩;obtain⟨Q,hQ⟩:∃Q,m3 p dx dy m h=Q:=⟨_,rfl⟩;rw[hv]at hr;have SC:=zW fun w=>scW hr hQ d0 d1 e0 e1 w;rw[hQ];clear hQ d0 d1 e0 e1 hr;have P0:=zW ((nZ.new w p 41).alloc (.cells (lY fun _=>0#128) 41));have R:=zW (nZ.new (w.alloc (.cells (lY p) 41)) (fun _=>0#128) 41);have B:=zW ((vL w (.cells (lY p) 41)).alloc zGN (.cells (lY fun _=>0#128) 41));have cx:=(nM G.1 B.out).cell;have cy:=(nM G.2.1 B.out).cell;have cs:=(G.2.2.step B.out).hires;rw[hv]at cs;rw[zT]at R;clear G hv;go_enter Tryz.func178,Tryz.ntmps178;go_upto_region 1 with fail;refine zH ?_;generalize (w.alloc (.cells (lY p) 41)).alloc (.cells (lY fun _=>0#128) 41)=w1 at*;clear hz;refine lL wP P0.out (lH _) rfl (.tmp 4) rfl zGB ?_;simp only[Act.put,zQ,zZ,zJ];go_wp2_with fail;refine(SC.out _).mono ?_;rintro e w2 ⟨rfl,b2⟩;have R2:=zW (R.out.step b2);have B2:=zW (B.out.trans (b2.mono B.out.size));clear b2 P0 R B cx cy cs;simp only[];go_at_K
 go_step
 refine lM (ds:=lY Q) wP R2.out (lH _) (lH _) (vI _) rfl (.tmp 5) (.tmp 11) rfl zGK zGK ?_;have R3:=zW (R2.out.store Q);have B3:=zW (cF B2.out (jT _) (lY Q));generalize w2.setRow (w.heap.size+1) (lY Q)=w3 at*;iterate 4 go_step
 exact zP (zE rfl _ _ (w.heap.size+1) _ _ _ _ rfl R3.out Tryz.underlying41 rfl (by rw[wP.i,lH])) rfl ⟨rfl,B3.out⟩
theorem r9(S:Sc)(M:Nat)(hM:S.M=(M:Int))(M1:M≤10000)(dx dy:Int)(m h:Nat)(hr:Res S.hi m h)(d0: -64≤dx)(d1:dx≤64)(e0: -64≤dy)(e1:dy≤64)(w:World):
  Calls Tryz.prog 144 #[.agg (lK S),.int .i64 dx,.int .i64 dy] w fun e w'=>e=.returned (.agg (lK (yE (fun _ p=>m3 p dx dy m h) M S)))∧Below w.heap.size w w':=by
 have hz:=yB;obtain⟨Z,hZ⟩:∃Z,yE (fun _ p=>m3 p dx dy m h) M S=Z:=⟨_,rfl⟩;rw[hZ];have CH:=zW fun(bx bY bs:Nat) (w:World) (l1:bx<w.heap.size) (l2:bY<w.heap.size) (l3:bs<w.heap.size) (H:ScG bx bY bs dx dy S w)=>sJ M (g:=178) (caps:=#[.pointer (some ⟨bx,0,none⟩),.pointer (some ⟨bY,0,none⟩),.pointer (some ⟨bs,0,none⟩)]) (enters_of Tryz.func178 zGV rfl) (fun _ p=>m3 p dx dy m h) (fun _=>False) (fun _ W=>ScG bx bY bs dx dy S W∧w.heap.size≤W.heap.size) w (fun _ h=>h.elim)
  (fun _ W W' G b=>⟨⟨(b.block bx l1).trans G.1.1,(b.block bY l2).trans G.1.2.1,(b.block bs l3).trans G.1.2.2⟩,zR G.2 b.size⟩)
  (fun n p W _ G _=>(YI bx bY bs dx dy S m h hr zGX zGX zGX zGX p W G.1).mono fun e W' h=>⟨h.1,⟨⟨nM G.1.1 h.2,nM G.1.2.1 h.2,G.1.2.2.step h.2⟩,zR G.2 h.2.size⟩,But.of_below h.2⟩) S hM M1 ⟨H,zG _⟩
 have RC:=zW ((eO (fun _ p=>m3 p dx dy m h) S M).trans (by rw[hZ]));clear hZ;have S0:=zW ((((SB.new w S).alloc (.cells #[.int .i64 dx] 3)).alloc (.cells #[.int .i64 dy] 3)).alloc (.cells (lK (mQ false 0)) 80));have X0:=zW (((jC (w.alloc (.cells (lK S) 80)) 3 (.int .i64 dx)).alloc (.cells #[.int .i64 dy] 3)).alloc (.cells (lK (mQ false 0)) 80));have Y0:=zW ((jC ((w.alloc (.cells (lK S) 80)).alloc (.cells #[.int .i64 dx] 3)) 3 (.int .i64 dy)).alloc (.cells (lK (mQ false 0)) 80));have R:=zW (SB.new (((w.alloc (.cells (lK S) 80)).alloc (.cells #[.int .i64 dx] 3)).alloc (.cells #[.int .i64 dy] 3)) (mQ false 0));have B:=zW ((((vL w (.cells (lK S) 80)).alloc zGN (.cells #[.int .i64 dx] 3)).alloc zGH (.cells #[.int .i64 dy] 3)).alloc zGH (.cells (lK (mQ false 0)) 80));rw[zT]at X0;rw[zT,zT]at Y0;rw[zT,zT,zT]at R;go_enter Tryz.func144,Tryz.ntmps144;go_upto_region 1 with fail;generalize (((w.alloc (.cells (lK S) 80)).alloc (.cells #[.int .i64 dx] 3)).alloc (.cells #[.int .i64 dy] 3)).alloc (.cells (lK (mQ false 0)) 80)=w1 at*;clear hz;have cx:=X0.out.cell;have cy:=Y0.out.cell;have fx:=X0.out.frozen;have fy:=Y0.out.frozen;have mx:max dx (-128)=dx:=zGX;have mx2:min dx 128=dx:=zGX;have my:max dy (-64)=dy:=zGX;have my2:min dy 64=dy:=zGX;go_upto_region 3 with fail;have S1:=zW ((S0.out.other (g:=w.heap.size+1) zGX 0 (.int .i64 dx)).other (g:=w.heap.size+1+1) zGX 0 (.int .i64 dy));have X1:=zW ((X0.out.set (.int .i64 dx)).other (B':=w.heap.size+1+1) zGX (.int .i64 dy));have Y1:=zW ((Y0.out.other (B':=w.heap.size+1) zGX (.int .i64 dx)).set (.int .i64 dy));have R1:=zW ((R.out.other (g:=w.heap.size+1) zGX 0 (.int .i64 dx)).other (g:=w.heap.size+1+1) zGX 0 (.int .i64 dy));have B1:=zW ((B.out.setCell (p:=⟨w.heap.size+1,0,none⟩) (by show w.heap.size≤w.heap.size+1;omega) (.int .i64 dx)).setCell (p:=⟨w.heap.size+1+1,0,none⟩) (by show w.heap.size≤w.heap.size+1+1;omega) (.int .i64 dy));generalize (w1.setCell ⟨w.heap.size+1,0,none⟩ (.int .i64 dx)).setCell ⟨w.heap.size+1+1,0,none⟩ (.int .i64 dy)=w2 at*;clear cx cy fx fy mx mx2 my my2 S0 X0 Y0 R B;refine zH ?_;refine lL cL S1.out (lN _) rfl (.tmp 3) rfl zGB ?_;simp only[Act.put,zQ,zZ,zJ];iterate 3 go_step
 refine qZ rfl fun K hK=>?_;refine mK (g:=169) (caps:=#[]) (args:=#[.agg (lK S),.func (.func 178) #[] #[.pointer (some ⟨w.heap.size+1,0,none⟩),.pointer (some ⟨w.heap.size+1+1,0,none⟩),.pointer (some ⟨w.heap.size,0,none⟩)]]) (.func 169) #[.tmp 13,.tmp 14] #[80,272] rfl (enters_of Tryz.func169 zGV rfl) rfl zGB ?_;refine(CH.out _ _ _ w2 X1.out.lt Y1.out.lt S1.out.lt ⟨X1.out,Y1.out,S1.out⟩).mono ?_;rintro e w3 ⟨rfl,-,b2⟩;have b2:=b2.all;have R2:=zW (R1.out.step b2);have B2:=zW (B1.out.trans (b2.mono B1.out.size));refine⟨_,rfl,hK _ _ ?_⟩;clear hK K b2 S1 R1 B1 X1 Y1;rw[RC.out];simp only[Act.put,zQ,zZ,zJ];refine lM (ds:=lK Z) cL R2.out (lN _) (lN _) (nR _) rfl (.tmp 6) (.tmp 15) rfl zGK zGK ?_;have R3:=zW (R2.out.store Z);have B3:=zW (cF B2.out (show w.heap.size≤w.heap.size+1+1+1 by omega) (lK Z));generalize w3.setRow (w.heap.size+1+1+1) (lK Z)=w4 at*;iterate 4 go_step
 exact zP (zE rfl _ _ (w.heap.size+1+1+1) _ _ _ _ rfl R3.out Tryz.underlying80 rfl zBZ) rfl ⟨rfl,B3.out⟩
attribute [local go_sem] Oper.semAt_some
def yA(g o:Nat)(F:Nat→Nat)(n:Nat)(A:Option Addr)(w:World):Prop:=0<n→A=some ⟨g,o,none⟩∧g<w.heap.size∧∀j,j<n→w.cell? ⟨g,o+j,none⟩=some (.int .u8 (F j:Int))
theorem yA.step{g o:Nat}{F:Nat→Nat}{n:Nat}{A:Option Addr}{w w':World}(h:yA g o F n A w)(hb:Below w.heap.size w w'):yA g o F n A w':=fun hn=>by
 obtain⟨h1,h2,h3⟩:=h hn;exact⟨h1,zD h2 hb.size,fun j hj=>(hb.cell (p:=⟨g,o+j,none⟩) h2).trans (h3 j hj)⟩
def aU(b1 b2:Nat)(W W':World):Prop:=W'.heap[b1]?=W.heap[b1]?∧W'.heap[b2]?=W.heap[b2]?
theorem aU.trans{b1 b2:Nat}{u v w:World}(h:aU b1 b2 u v)(h':aU b1 b2 v w):aU b1 b2 u w:=⟨h'.1.trans h.1,h'.2.trans h.2⟩
theorem OA{b1 b2:Nat}{W:World}{l:Nat}{o':Obj}(h1:b1≠l)(h2:b2≠l):aU b1 b2 W (W.putObj l o'):=⟨jM h1,jM h2⟩
theorem zK7{n k:Nat}(hk:k<n):(List.finRange n).take (k+1)=(List.finRange n).take k++[⟨k,hk⟩]:=by
 rw[lQ (by simpa using hk)];simp
def fF(g o z k:Nat):Value:=.slice (some ⟨g,o+k*z,none⟩) z z
theorem zQA(m:Nat)(hm:1≤m)(l Bs Bz g o n z c:Nat)(A:Option Addr)(z0:0<z)(z1:z≤2)(n1:n≤16)(hc:n*z≤c)(c1:c≤1000)(hA:0<n→A=some ⟨g,o,none⟩)(J Jx:List (Fin n)→World→Prop)
  (hY:∀pre x W,J pre W→pre.length<n→YieldAt Fence.wide (m-1) Tryz.prog l #[fF g o z (x:Fin n).val] W fun e W'=>
   (e=.returned (.bool true)∧J (pre++[x]) W'∧aU Bs Bz W W')∨(e=.returned (.bool false)∧Jx (pre++[x]) W'))
  (W:World) (hS:Boxed W Bs 22 (.slice A (n*z) c)) (hZ:Boxed W Bz 3 (.int .i64 (z:Int))) (hJd:∀pre W,J pre W→J pre W.drew) (h0:J [] W):
  CallsIn Fence.wide m Tryz.prog 209 #[.func (.yield l) #[] #[],.pointer (some ⟨Bs,0,none⟩),.pointer (some ⟨Bz,0,none⟩)] W fun e W'=>(∃v,e=.returned v)∧
   ((∃ys,ys=List.finRange n∧J ys W')∨(∃pre,True∧Jx pre W')):=by
 obtain⟨t,ht⟩:∃t,n*z=t:=⟨_,rfl⟩;have t1:t≤32:=by rw[←ht];exact Nat.mul_le_mul n1 z1
 rw[ht]at hc hS;have HT:=zW ht;have zI:(0:Int)<(z:Int):=zGX;clear ht;refine callsIn_of_wp Tryz.func209 rfl trivial ?_ rfl;simp only[Tryz.ntmps209,jN,List.length_cons,List.length_nil,Nat.reduceAdd,Nat.reduceSub,jY,Array.replicate_zero,jR,jL,List.nil_append,List.cons_append];gi_wp2
 gi_loopw [4] (fun i wr=>∃k q:Nat,k≤n∧q=k*z∧i=.int .i64 (q:Int)∧Boxed wr Bs 22 (.slice A t c)∧Boxed wr Bz 3 (.int .i64 (z:Int))∧J ((List.finRange n).take k) wr) (fun i _=>t-(intOf i).toNat)
 case atStart=>exact⟨0,0,by omega,by simp,rfl,hS,hZ,by simpa using h0⟩
 case round=>
  clear h0 hS hZ
  obtain⟨k,q,hk,hq,rfl,hS,hZ,hJ⟩:=hrel
  by_cases hlt:k<n
  ·have q1:q+z≤t:=by
    rw[hq,←HT.out,←Nat.succ_mul];exact Nat.mul_le_mul_right z hlt
   have hqt:(q:Int)<(t:Int):=zGX
   have hA':=hA zGX
   subst hA'
   have cS:=hS.cell
   have cZ:=hZ.cell
   obtain⟨fn,tmps,assign,body,hy,hR⟩:=hY ((List.finRange n).take k) ⟨k,hlt⟩ wr.drew (hJd _ _ hJ) zGH
   unfold fF at hy
   dsimp only at hy
   rw[←hq]at hy
   have HQ:=zW hq
   clear hq
   have cq:¬c=q:=zGX
   have e1:min (z:Int) ((t:Int)-(q:Int))=(z:Int):=zGX
   have e1':min (z:Int) ((t-q:Nat):Int)=(z:Int):=zGX
   have e2:(q:Int)≤(t:Int):=zGX
   gi_wp2
   gi_region
   have e3:(q:Int)+(z:Int)≤(c:Int):=zGX
   have e4:¬z=0:=zGX
   gi_wp2
   refine hR.mono ?_
   rintro e W3 (⟨rfl,hJ3,hk3⟩|⟨rfl,hJx3⟩)
   ·have cZ3:=(show Boxed W3 Bz 3 (.int .i64 (z:Int))from hk3.2.trans hZ).cell
    gi_wp2
    go_roundw
    case rel=>exact⟨k+1,q+z,by omega,by rw[HQ.out,Nat.succ_mul],by go_num,hk3.1.trans hS,hk3.2.trans hZ,by rw[zK7 hlt];exact hJ3⟩
    case measure=>simp[intOf];omega
   ·gi_wp2
    refine zP (results_none rfl _ _ _) rfl ?_
    exact⟨⟨_,rfl⟩,.inr ⟨_,trivial,hJx3⟩⟩
  ·have hkn:k=n:=zGX
   have hqt:¬(q:Int)<(t:Int):=by rw[hq,←HT.out,hkn];omega
   have cS:=hS.cell
   clear hq
   gi_wp2
   go_end0
   rw[hkn,qV zGN]at hJ
   exact⟨⟨_,rfl⟩,.inl hJ⟩
theorem RQ(m:Nat)(hm:1≤m)(Bs Bz g o n z c:Nat)(A:Option Addr)(z0:0<z)(z1:z≤2)(n1:n≤16)(hc:n*z≤c)(c1:c≤1000)(hA:0<n→A=some ⟨g,o,none⟩)(w:World)(hS:Boxed w Bs 22 (.slice A (n*z) c))(hZ:Boxed w Bz 3 (.int .i64 (z:Int))):
  SeqStopsK Fence.wide m Tryz.prog 209 #[.pointer (some ⟨Bs,0,none⟩),.pointer (some ⟨Bz,0,none⟩)] (fun x:Fin n=> #[fF g o z x.val]) (aU Bs Bz) (fun ys=>ys=List.finRange n) (fun _=>True) n w:=fun l J Jx W hW hJ _ hY h0=>
 zQA m hm l Bs Bz g o n z c A z0 z1 n1 hc c1 hA J Jx hY W ((hW.block Bs hS.lt).trans hS) ((hW.block Bz hZ.lt).trans hZ) (fun pre W h=>hJ pre W W.drew none h ⟨rfl,rfl,rfl,zG _,fun _ _ _=>rfl⟩ (fun _ e=>by cases e)) h0
theorem zVF(m:Nat)(A:Option Addr)(t c z:Nat)(z0:0<z)(w:World):CallsIn Fence.wide m Tryz.prog 199 #[.slice A t c,.int .i64 (z:Int)] w fun e w'=>
   e=.returned (.func (.func 209) #[] #[.pointer (some ⟨w.heap.size,0,none⟩),.pointer (some ⟨w.heap.size+1,0,none⟩)])∧w'=(w.alloc (.cells #[.slice A t c] 22)).alloc (.cells #[.int .i64 (z:Int)] 3):=by
 have zI:¬(z:Int)<1:=zGX;refine callsIn_of_wp Tryz.func199 rfl trivial ?_ rfl;simp only[Tryz.ntmps199,jN,List.length_cons,List.length_nil,Nat.reduceAdd,Nat.reduceSub,jY,Array.replicate_zero,jR,jL,List.nil_append,List.cons_append];gi_wp2
 exact zRX
attribute [local go_sem] Oper.semAt_some
def TG(F:Nat→Nat)(q:Nat):Nat→Nat
 |0=>0
 |j+1=>TG F q j*256+F (q+j)
def MF(F:Nat→Nat)(z k:Nat):Nat:=TG F (k*z) z
theorem or16(x b:Nat)(hx:x≤255)(hb:b≤255):bits .or .u16 ((x*256:Nat):Int) (b:Int)=((x*256+b:Nat):Int):=by
 unfold bits;have e:(BitVec.ofInt IntKind.u16.bits ((x*256:Nat):Int)|||BitVec.ofInt IntKind.u16.bits (b:Int)).toNat=x*256+b:=by
  show(BitVec.ofInt 16 ((x*256:Nat):Int)|||BitVec.ofInt 16 (b:Int)).toNat=x*256+b;rw[BitVec.ofInt_natCast,BitVec.ofInt_natCast,BitVec.toNat_or,BitVec.toNat_ofNat,BitVec.toNat_ofNat,kR zGX,kR zGX];rw[show x*256=2^8*x by omega,Nat.two_pow_add_eq_or_of_lt (by omega:b<2^8) x]
 simp only[e];simp[IntKind.wrap,IntKind.bits,IntKind.signed];omega
theorem shl16(x:Nat)(hx:x≤255):IntKind.u16.wrap ((x:Int)*2^8)=((x*256:Nat):Int):=by
 simp[IntKind.wrap,IntKind.bits,IntKind.signed];omega
theorem wrap16(b:Nat)(hb:b≤65535):IntKind.u16.wrap (b:Int)=(b:Int):=by
 simp[IntKind.wrap,IntKind.bits,IntKind.signed];omega
theorem zYD{F:Nat→Nat}(hF:∀j,F j≤255)(z k:Nat)(hz:z≤2):MF F z k≤65535:=by
 unfold MF;rcases(show z=0∨z=1∨z=2 by omega)with rfl|rfl|rfl<;>simp only[TG]
 ·omega
 ·have:=hF (k*1+0);omega
 ·have h0:=hF (k*2+0);have h1:=hF (k*2+1);simp only[Nat.zero_mul,qL,Nat.add_zero]at*;omega
theorem zHY{F:Nat→Nat}(hF:∀j,F j≤255)(q j:Nat)(hj:j<2):TG F q j≤255:=by
 rcases(show j=0∨j=1 by omega)with rfl|rfl<;>simp only[TG]
 ·omega
 ·have:=hF (q+0);omega
theorem info16:(Tryz.prog.info? 291).map (fun i=>(i.zero,i.size,i.bytes))=some (some (.int .u16 0),1,2):=by kernel_rfl
theorem KH{W w1:World}{B B0 n1 k:Nat}{e:TypeId}{v v':Value}{xs:List Value}{tmp:Obj}(hrow:W.ownsRow n1 e 1 v k xs)(hB:B<n1)(hW:n1≤W.heap.size)(hne:B≠B0)
  (hgrow:(W.alloc tmp).grownBy w1 v.ownBlock):(w1.setCell ⟨B0,0,none⟩ v').heap[B]?=W.heap[B]?:=by
 have h1:(W.alloc tmp).heap[B]?=W.heap[B]?:=heap_alloc_old W tmp (by omega:B<W.heap.size);have h2:w1.heap[B]?=(W.alloc tmp).heap[B]?:=hgrow.block B zGH (fun e=>by have:=(hrow.lt B e.symm).1;omega);have h3:(w1.setCell ⟨B0,0,none⟩ v').heap[B]?=w1.heap[B]?:=qD w1 _ v' B hne;rw[h3,h2,h1]
theorem Y8(g o n z c:Nat)(A:Option Addr)(F:Nat→Nat)(z0:0<z)(z1:z≤2)(n1:n≤16)(hc:n*z≤c)(c1:c≤1000)(hF:∀j,F j≤255)(w:World)(hD:yA g o F (n*z) A w):
  Calls Tryz.prog 175 #[.slice A (n*z) c,.int .i64 (z:Int)] w fun e w'=>∃A' c',e=.returned (.slice A' n c')∧hE w' A' ((List.range n).map (MF F z))∧(∀ad,A'=some ad→w.heap.size≤ad.block)∧Below w.heap.size w w':=by
 refine(callsIn_wide (n:=6)).1 ?_;obtain⟨i0,hi,hz0,hz1,hz2⟩:=kA info16;have hA:0<n→A=some ⟨g,o,none⟩:=fun h=>(hD (Nat.mul_pos h z0)).1;have DD:=zW (zM hD hF);clear hD hF;refine callsIn_of_wp_marks Tryz.func175 rfl trivial ?_ rfl;simp only[Tryz.ntmps175,jN,List.length_cons,List.length_nil,Nat.reduceAdd,Nat.reduceSub,jY,Array.replicate_zero,jR,jL,List.nil_append,List.cons_append];gi_wp2_with fail
 refine⟨trivial,?_⟩;refine(zVF _ _ _ _ _ z0 _).mono ?_;rintro e w' ⟨rfl,rfl⟩;simp only[];gi_wp2_with fail
 have b5:=((jC w 279 (.slice none 0 0)).alloc (.cells #[.slice A (n*z) c] 22)).alloc (.cells #[.int .i64 (z:Int)] 3);have bS:=(jC (w.alloc (.cells #[.slice none 0 0] 279)) 22 (.slice A (n*z) c)).alloc (.cells #[.int .i64 (z:Int)] 3);have bZ:=jC ((w.alloc (.cells #[.slice none 0 0] 279)).alloc (.cells #[.slice A (n*z) c] 22)) 3 (.int .i64 (z:Int));have BB:=((((zB _ w).alloc (zG _) (.cells #[.slice none 0 0] 279)).alloc zGN (.cells #[.slice A (n*z) c] 22)).alloc zGH (.cells #[.int .i64 (z:Int)] 3));rw[zT]at bS;rw[zT,zT]at bZ;have Z3:(((w.alloc (.cells #[.slice none 0 0] 279)).alloc (.cells #[.slice A (n*z) c] 22)).alloc (.cells #[.int .i64 (z:Int)] 3)).heap.size=w.heap.size+3:=zGN;rw[zT];generalize ((w.alloc (.cells #[.slice none 0 0] 279)).alloc (.cells #[.slice A (n*z) c] 22)).alloc (.cells #[.int .i64 (z:Int)] 3)=w3 at*;refine wpIn_rangeFunc_ownG rfl zGX (gf:=209) (lb:=#[.pointer (some ⟨w.heap.size+1,0,none⟩),.pointer (some ⟨w.heap.size+1+1,0,none⟩)]) rfl trivial (enters_of Tryz.func209 zGV rfl)
  (RQ _ zGX (w.heap.size+1) (w.heap.size+1+1) g o n z c A z0 z1 n1 hc c1 hA w3 bS bZ) aU.trans (fun W l o o' hl _ _ _=>OA zGX zGX) (zB _ _) (fun _=>rfl)
  (fun pre W=>(∃v,Boxed W w.heap.size 279 v∧W.ownsRow (w.heap.size+3) 291 1 v pre.length (pre.map fun x:Fin n=>Value.int .u16 (MF F z x.val:Int))∧True)∧(w.heap.size+3≤W.heap.size∧Below w.heap.size w W))
  (fun _ _ _=>False)
  (OwnFrom.and (Own.from (holdsRow_own (w.heap.size+3) w.heap.size 279 291 1 (fun pre:List (Fin n)=>pre.length) (fun pre=>pre.map fun x:Fin n=>Value.int .u16 (MF F z x.val:Int)) (fun pre v=>True)) _) (OwnFrom.and (fun s A B row hs hg _=>zR hs hg.size) (ownFrom_below (zG _) zGX)))
  (fun _ _ _ _ _ hs _ _=>hs)
  ⟨⟨_,b5,kH _ _ _ _,trivial⟩,by omega,BB⟩
  (fun x=>{tmps:=#[.slice A (n*z) c,.int .i64 (z:Int),undef,undef,.slice none 0 0,.pointer (some ⟨w.heap.size,0,none⟩),fF g o z x.val,undef,undef,undef,.slice A (n*z) c,.int .i64 (z:Int),.func (.func 209) #[] #[.pointer (some ⟨w.heap.size+1,0,none⟩),.pointer (some ⟨w.heap.size+1+1,0,none⟩)],fF g o z x.val,undef,undef,undef,undef,undef,undef,undef,undef,undef,undef,undef,undef,undef,undef,undef,undef,undef],defers:=[]}) ?assign ?body ?done ?stop
 case assign=>
  intro l x W K hK
  gi_wp2
  exact hK
 case body=>
  rintro l pre ⟨k,hk⟩ W ⟨⟨v,hv,hrow,_⟩,hz,hB⟩ hlt
  have HH:=zW (zM hv (zM hrow (zM hz hB)))
  clear hv hrow hz hB
  unfold fF
  dsimp only
  obtain⟨q,hq⟩:∃q,k*z=q:=⟨_,rfl⟩
  have q1:q+z≤n*z:=by rw[←hq,←Nat.succ_mul];exact Nat.mul_le_mul_right z hk
  rw[hq]
  have HQ:=zW (zM hq (zM q1 hlt))
  clear hq q1 hlt
  gi_wp2
  gi_loop [7,16] (fun b i=>∃j X:Nat,j≤z∧b=.int .u16 (X:Int)∧i=.int .i64 (j:Int)∧X=TG F q j) (fun _ i=>z-(intOf i).toNat)
  case atStart=>exact⟨0,0,by omega,rfl,rfl,rfl⟩
  case round=>
   obtain⟨j,X,hj,rfl,rfl,hX⟩:=hrel
   have XX:=zW hX
   by_cases hlt:j<z
   ·have jI:(j:Int)<(z:Int):=zGX
    have X1:X≤255:=by rw[hX];exact zHY DD.out.2 q j zGX
    obtain⟨_,hgl,hcs⟩:=DD.out.1 (by have:=HQ.out.2.1;omega)
    obtain⟨b,hb⟩:∃b,F (q+j)=b:=⟨_,rfl⟩
    have b1:b≤255:=by rw[←hb];exact DD.out.2 _
    have cb:W.cell? ⟨g,o+q+j,none⟩=some (.int .u8 (b:Int)):=by
     rw[qP,HH.out.2.2.2.cell (p:=⟨g,o+(q+j),none⟩) hgl,hcs _ (by have:=HQ.out.2.1;omega),hb]
    have e1:=shl16 X X1
    have e2:=or16 X b X1 b1
    have e3:=wrap16 b zGX
    obtain⟨V,hV⟩:∃V,X*256+b=V:=⟨_,rfl⟩
    rw[hV]at e2
    have e2:bits .or .u16 ((X:Int)*256) (b:Int)=(V:Int):=by rw[←e2];simp
    have VV:=zW (show V=TG F q (j+1) by rw[←hV,TG,←hX,hb])
    clear hX hV hcs hb hgl e1 e3
    gi_wp2
    go_round
    case rel=>exact⟨j+1,V,by omega,by go_num,by go_num,VV.out⟩
    case measure=>simp[intOf];omega
   ·have je:j=z:=zGX
    subst je
    clear hlt
    have RV:=zW (show X=MF F j k by rw[hX,←HQ.out.1];rfl)
    clear hX
    have hc:=HH.out.1.cell
    gi_wp2_with (gi_at_builtin;refine wpListIn_append_own _ rfl _ _ 279 rfl (w.heap.size+3) 291 i0 (.int .u16 0) 1 2 Tryz.underlying279 hi hz0 hz1 hz2 rfl zGL _ _ _ rfl (HH.out.2.1.alloc _) ⟨W.heap.size,0,none⟩ 1 1 [.int .u16 (X:Int)] rfl rfl (cell_one_new _ _ _) zBW (by unfold maxLen;have:=HQ.out.2.2;omega) (by have:=HQ.out.2.2;omega) (by have:=HH.out.2.2.1;simp;omega) ?_;intro v' w1 hown' hgrow _;obtain⟨g',cap',rfl⟩:=ownsRow_succ hown';obtain⟨hv1,hv2,hr2,hk2,hb2⟩:=HH.out.1.appended zGL (bR HH.out.2.1 (by omega:w.heap.size≤w.heap.size+3)) HH.out.2.2.2.size (zG _) (bR hown' (by omega:w.heap.size≤w.heap.size+3)) hgrow;have hc1:=hv1.cell;have hf1:=hv1.frozen)
    have hr3:=hown'.kept (grownBy_setCell' w1 w.heap.size (.slice (some ⟨g',0,none⟩) (pre.length+1) cap')) (.inr (hv1.not_row zGL hown').symm)
    refine⟨hk2.from _,⟨KH HH.out.2.1 zGX HH.out.2.2.1 zGX hgrow,KH HH.out.2.1 zGX HH.out.2.2.1 zGX hgrow⟩,⟨_,hv2,by simpa [RV.out]using hr3⟩,zR HH.out.2.2.1 (zR zGN (zR hgrow.size zGN)),HH.out.2.2.2.trans hb2⟩
 case done=>
  rintro D ys W hD rfl ⟨⟨v,hv,hrow,_⟩,_,hB⟩ hK
  have hc:=hv.cell
  gi_wp2
  refine⟨by simp,.inl ⟨_,_,rfl,run_takeDeferred hK,?_⟩⟩
  obtain⟨A',c',rfl⟩:=uN hrow
  have hr:=ownsRow_putObj hrow (.deferred none) hK rfl
  rw[List.length_finRange]at hr⊢
  have hl:(List.finRange n).map (fun x:Fin n=>Value.int .u16 (MF F z x.val:Int))=((List.range n).map (MF F z)).map (fun x:Nat=>Value.int .u16 (x:Int)):=by
   apply List.ext_getElem
   ·simp
   ·intro i h1 h2;simp
  rw[hl]at hr
  refine⟨_,results_tmp rfl _ _ _,A',c',rfl,?_,fun ad had=>?_,hB.trans (belowK_b (w:=w) (zG _) W D _ _ zGX hK rfl rfl)⟩
  intro hne
  obtain⟨b,o',hA',hlt',hcs⟩:=Row.of_own hr hne
  refine⟨⟨b,o',none⟩,hA',hlt',fun j hj=>?_⟩
  rw[Addr.add_mid]
  exact hcs j hj
  ·rcases hr.2 with⟨h,_⟩|⟨g2,cp,cur,h,hg,_⟩
   ·cases h
    try cases had
   ·injection h with h1 h2 h3
    subst h1
    injection had with had
    subst had
    exact zR (Nat.le_add_right _ 3) hg
 case stop=>
  rintro D c pre W _ _ h _
  exact h.elim
theorem But.rowNew{T:Nat→Prop}{u w:World}(h:But T u w){b:Nat}(hb:u.heap.size≤b)(cs:Array Value):But T u (w.setRow b cs):=
 ⟨h.os,h.tape,h.output,by simpa [World.setRow]using h.size,fun k hk ht=>(qQ w b k cs zGX).trans (h.block k hk ht)⟩
structure DrD where
 g:Nat
 o:Nat
 F:Nat→Nat
 N:Nat
 r:Nat
 z:Nat
 x:Nat
 y:Nat
 m:Nat
 h:Nat
 clip:Bool
 S:Sc
def aW(F:Nat→Nat)(r z q:Nat):List Nat:=(List.range r).map (MF (fun j=>F (q+j)) z)
def DrD.sp(D:DrD)(k:Nat):Pl:=spr (nth (aW D.F D.r D.z (k*(D.r*D.z)))) D.r (D.z*8) (D.x%D.m) (D.y%D.h) D.m D.h D.clip
def DrD.coll(D:DrD):Nat→List Pl→Bool
 |_,[]=>false
 |k,p::ps=>gA p (D.sp k)||D.coll (k+1) ps
theorem fD(D:DrD)(p:Pl):∀(ps:List Pl) (k:Nat),D.coll k (ps++[p])=(D.coll k ps||gA p (D.sp (k+ps.length)))
 |[],k=>by simp[DrD.coll]
 |q::ps,k=>by
  rw[List.cons_append,DrD.coll,fD D p ps,DrD.coll,List.length_cons,Bool.or_assoc,show k+1+ps.length=k+(ps.length+1) by omega]
structure zHH(D:DrD):Prop where
 r1:D.r≤16
 z0:D.z=1∨D.z=2
 F1:∀j,D.F j≤255
 N1:D.N≤4
 x1:D.x≤1000
 y1:D.y≤1000
 res:Res D.S.hi D.m D.h
structure DrB(D:DrD)(s0:Nat)(W:World):Prop where
 rows:Boxed W (s0+6) 3 (.int .i64 (D.r:Int))
 size:Boxed W (s0+7) 3 (.int .i64 (D.z:Int))
 x:Boxed W (s0+1) 3 (.int .i64 (D.x:Int))
 y:Boxed W (s0+2) 3 (.int .i64 (D.y:Int))
 wd:Boxed W (s0+8) 3 (.int .i64 (D.m:Int))
 ht:Boxed W (s0+9) 3 (.int .i64 (D.h:Int))
 clip:Boxed W (s0+3) 4 (.bool D.clip)
 s:SB s0 D.S W
section
variable {D:DrD} {s0 b:Nat} {w w':World}
theorem yW{t:TypeId}{v:Value}{k:Nat}(h:Boxed w k t v)(hne:k≠b)(o:Nat)(u:Value):Boxed (w.setCell ⟨b,o,none⟩ u) k t v:=(qD w ⟨b,o,none⟩ u k hne).trans h
theorem uD{t:TypeId}{v:Value}{k:Nat}(h:Boxed w k t v)(hne:k≠b)(cs:Array Value):Boxed (w.setRow b cs) k t v:=(qQ w b k cs hne).trans h
theorem DrB.step(H:DrB D s0 w)(hb:Below w.heap.size w w'):DrB D s0 w':=⟨nM H.rows hb,nM H.size hb,nM H.x hb,nM H.y hb,nM H.wd hb,nM H.ht hb,nM H.clip hb,H.s.step hb⟩
theorem DrB.other(H:DrB D s0 w)(hb:b=s0+4∨s0+10≤b)(o:Nat)(u:Value):DrB D s0 (w.setCell ⟨b,o,none⟩ u):=
 ⟨yW H.rows zGX o u,yW H.size zGX o u,yW H.x zGX o u,yW H.y zGX o u,yW H.wd zGX o u,yW H.ht zGX o u,yW H.clip zGX o u,H.s.other zGX o u⟩
theorem DrB.row(H:DrB D s0 w)(hb:s0+10≤b)(cs:Array Value):DrB D s0 (w.setRow b cs):=
 ⟨uD H.rows zGX cs,uD H.size zGX cs,uD H.x zGX cs,uD H.y zGX cs,uD H.wd zGX cs,uD H.ht zGX cs,uD H.clip zGX cs,H.s.otherRow zGX cs⟩
theorem yA.other{g o n:Nat}{F:Nat→Nat}{A:Option Addr}(h:yA g o F n A w)(hb:0<n→g≠b)(k:Nat)(u:Value):yA g o F n A (w.setCell ⟨b,k,none⟩ u):=fun hn=>by
 obtain⟨h1,h2,h3⟩:=h hn;exact⟨h1,by simpa using h2,fun j hj=>by rw[qS _ _ _ _ (by simp[Ne.symm (hb hn)])];exact h3 j hj⟩
theorem yA.row{g o n:Nat}{F:Nat→Nat}{A:Option Addr}(h:yA g o F n A w)(hb:0<n→g≠b)(cs:Array Value):yA g o F n A (w.setRow b cs):=fun hn=>by
 obtain⟨h1,h2,h3⟩:=h hn;exact⟨h1,by simpa [World.setRow]using h2,fun j hj=>by rw[qU (a:=⟨g,o+j,none⟩) (qQ w b g cs (hb hn))];exact h3 j hj⟩
theorem hE.other{A:Option Addr}{L:List Nat}(h:hE w A L)(hb:∀ad,A=some ad→ad.block≠b)(o:Nat)(u:Value):hE (w.setCell ⟨b,o,none⟩ u) A L:=fun hne=>by
 obtain⟨ad,hA,hlt,hc⟩:=h hne;refine⟨ad,hA,by simpa using hlt,fun j hj=>?_⟩;rw[qU (a:=ad.add j) (qD w ⟨b,o,none⟩ u (ad.add j).block (by rw[aA];exact hb ad hA))];exact hc j hj
theorem yA.notBox{g o n:Nat}{F:Nat→Nat}{A:Option Addr}{t:TypeId}{v:Value}(h:yA g o F n A w)(hx:Boxed w b t v)(hv:∀x,v≠ .int .u8 x)(hn:0<n):g≠b:=fun e=>by
 obtain⟨_,_,h3⟩:=h hn;have h4:=h3 0 hn;rw[e,jO w b (o+0) #[v] t (0,0) hx]at h4;rcases(show o=0∨1≤o by omega)with rfl|h5
 ·simp at h4;exact hv _ h4
 ·rw[zF zGH]at h4;cases h4
theorem yA.notPl{g o n:Nat}{F:Nat→Nat}{A:Option Addr}{t:TypeId}{Q:Pl}(h:yA g o F n A w)(hx:nZ b t Q w)(hn:0<n):g≠b:=fun e=>by
 obtain⟨_,_,h3⟩:=h hn;have h4:=h3 0 hn;rw[e]at h4;by_cases h5:o+0<128
 ·rw[hx.cell _ h5]at h4;cases h4
 ·rw[jO w b (o+0) _ t (0,0) hx,zF zBX]at h4;cases h4
end
structure DrG(D:DrD)(s0:Nat)(ps:List Pl)(W:World):Prop where
 b:DrB D s0 W
 data:∃A c,Boxed W (s0+4) 22 (.slice A ((D.N-ps.length)*(D.r*D.z)) c)∧(D.N-ps.length)*(D.r*D.z)≤c∧c≤1000∧yA D.g (D.o+ps.length*(D.r*D.z)) (fun j=>D.F (ps.length*(D.r*D.z)+j)) ((D.N-ps.length)*(D.r*D.z)) A W
 coll:Boxed W (s0+10) 4 (.bool (D.coll 0 ps))
theorem DrG.step{D:DrD}{s0:Nat}{ps:List Pl}{w w':World}(G:DrG D s0 ps w)(hb:Below w.heap.size w w'):DrG D s0 ps w':=by
 obtain⟨A,c,d1,d2,d3,d4⟩:=G.data;exact⟨G.b.step hb,⟨A,c,nM d1 hb,d2,d3,d4.step hb⟩,nM G.coll hb⟩
def DrT(s0:Nat)(k:Nat):Prop:=k=s0+4∨k=s0+10
theorem yA.short{g o n k:Nat}{F:Nat→Nat}{A:Option Addr}{w:World}(h:yA g o F n A w)(hk:k≤n):yA g o F k A w:=fun h0=>by
 obtain⟨h1,h2,h3⟩:=h zGX;exact⟨h1,h2,fun j hj=>h3 j zGX⟩
theorem yA.rest{g o n k c:Nat}{F:Nat→Nat}{A:Option Addr}{w:World}(h:yA g o F (n+k) A w)(hc:n+k≤c):yA g (o+k) (fun j=>F (k+j)) n (if c=k then A else A.map fun a=>a.add k) w:=fun h0=>by
 obtain⟨h1,h2,h3⟩:=h zGX;subst h1;rw[zL zGX];exact⟨by simp[Addr.add_mid],h2,fun j hj=>by have:=h3 (k+j) zGX;rwa [←qP]at this⟩
theorem own_le(D:DrD)(ok:zHH D):D.r*D.z≤32:=by
 refine zR (Nat.mul_le_mul ok.r1 (show D.z≤2 by rcases ok.z0 with h|h<;>omega)) zGX
theorem zJQ{N n:Nat}(q:Nat)(hn:n<N):(N-n)*q=(N-(n+1))*q+q:=by
 rw[←Nat.succ_mul];congr 1;omega
theorem zQH(D:DrD)(ok:zHH D)(s0:Nat)(ps:List Pl)(hn:ps.length<D.N)(p:Pl)(w:World)(G:DrG D s0 ps w):
  Calls Tryz.prog 174 #[.agg (lY p),.pointer (some ⟨s0+6,0,none⟩),.pointer (some ⟨s0+7,0,none⟩),.pointer (some ⟨s0+4,0,none⟩),.pointer (some ⟨s0+1,0,none⟩),.pointer (some ⟨s0+8,0,none⟩),.pointer (some ⟨s0+2,0,none⟩),.pointer (some ⟨s0+9,0,none⟩),.pointer (some ⟨s0,0,none⟩),.pointer (some ⟨s0+3,0,none⟩),.pointer (some ⟨s0+10,0,none⟩)] w
   fun e w'=>e=.returned (.agg (lY (rR p (D.sp ps.length))))∧DrG D s0 (ps++[p]) w'∧But (DrT s0) w w':=by
 have hz:=yU;obtain⟨q,hq⟩:∃q,D.r*D.z=q:=⟨_,rfl⟩;have q1:=own_le D ok;rw[hq]at q1;obtain⟨m',hm'⟩:∃m',(D.N-(ps.length+1))*q=m':=⟨_,rfl⟩;have hm:(D.N-ps.length)*(D.r*D.z)=m'+q:=by rw[zJQ _ hn,hq,hm']
 obtain⟨Q,hQ⟩:∃Q,rR p (D.sp ps.length)=Q:=⟨_,rfl⟩;obtain⟨P,hP⟩:∃P,D.sp ps.length=P:=⟨_,rfl⟩;obtain⟨hv,hhv⟩:∃v,gA p P=v:=⟨_,rfl⟩;rw[hP]at hQ;have DR:=zW fun w=>drW hQ hhv w;have CO:=zW (show D.coll 0 (ps++[p])=(D.coll 0 ps||hv) by rw[fD,qL,hP,hhv]);rw[hP,hQ];have P0:=zW ((nZ.new w p 41).alloc (.cells (lY fun _=>0#128) 41));have R:=zW (nZ.new (w.alloc (.cells (lY p) 41)) (fun _=>0#128) 41);have B:=zW ((vL w (.cells (lY p) 41)).alloc zGN (.cells (lY fun _=>0#128) 41));rw[zT]at R;have G1:=zW (G.step B.out);have Z1:((w.alloc (.cells (lY p) 41)).alloc (.cells (lY fun _=>0#128) 41)).heap.size=w.heap.size+2:=zGN;have Gs:=zW (show s0+10<w.heap.size from G.coll.lt);have OK:=zW (zM ok (zM hn (zM hq (zM hm hP))));have HM:=zW hm';clear G ok hn hP hhv hQ hm';go_enter Tryz.func174,Tryz.ntmps174;go_upto_region 1 with fail;generalize (w.alloc (.cells (lY p) 41)).alloc (.cells (lY fun _=>0#128) 41)=w1 at*;clear hz;obtain⟨A,c,d1,d2,d3,d4⟩:=G1.out.data;rw[hm]at d1 d2 d4;have DD:=zW (zM d1 (zM d2 (zM d3 d4)));have c1:=G1.out.b.rows.cell;have c2:=G1.out.b.size.cell;have c3:=d1.cell;obtain⟨r,hr⟩:∃r,D.r=r:=⟨_,rfl⟩;obtain⟨z,hzz⟩:∃z,D.z=z:=⟨_,rfl⟩;rw[hr]at c1;rw[hzz]at c2;have e1:(r:Int)*(z:Int)=(q:Int):=by rw[←hq,hr,hzz];simp
 have e2:max (q:Int) 0=(q:Int):=zGX;have e3:min (q:Int) ((m':Int)+(q:Int))=(q:Int):=zGX;have RZ:=zW (zM hr hzz);clear d1 d2 d3 d4 hm hr hzz hq;go_upto_region 2 with fail;have RB:=zW (show∀w',Below w1.heap.size w1 w'→Calls Tryz.prog 175 #[.slice A q c,.int .i64 (z:Int)] w' fun e w''=>∃A' c',e=.returned (.slice A' r c')∧hE w'' A' (aW D.F r z (ps.length*(D.r*D.z)))∧(∀ad,A'=some ad→w'.heap.size≤ad.block)∧Below w'.heap.size w' w'' from fun w' hb=>by
  have h:=Y8 D.g (D.o+ps.length*(D.r*D.z)) r z c A (fun j=>D.F (ps.length*(D.r*D.z)+j)) zG0 zG0 (by have:=OK.out.1.r1;have:=RZ.out.1;omega) (by have h2:=DD.out.2.1;have h3:=OK.out.2.2.1;rw[RZ.out.1,RZ.out.2]at h3;omega) DD.out.2.2.1 (fun j=>OK.out.1.F1 _) w' (by
   have h3:=OK.out.2.2.1;rw[RZ.out.1,RZ.out.2]at h3;rw[h3];exact(DD.out.2.2.2.step hb).short zGX)
  have h3:=OK.out.2.2.1;rw[RZ.out.1,RZ.out.2]at h3;rw[h3]at h;exact h)
 have k3:∀x:lA w1,x.w.cell? ⟨s0+4,0,none⟩=some (.slice A (m'+q) c):=fun x=>(nM DD.out.1 x.below).cell;have k2:∀x:lA w1,x.w.cell? ⟨s0+7,0,none⟩=some (.int .i64 (z:Int)):=fun x=>by rw[←RZ.out.2];exact(nM G1.out.b.size x.below).cell
 have qc:(q:Int)≤(c:Int):=by have:=DD.out.2.1;omega
 have LL:=zW (zM P0.out (zM R.out (zM B.out G1.out)));refine mT (C:=fun w'=>∃x:lA w1,w'=x.w) [([0,1,2,3],4)] [5] zGV zGV (fun _ _ d _ _ h=>by cases d<;>exact h) ⟨⟨w1.drew,(zB _ _).drew⟩,rfl⟩ ?_;intro wd hwd;have bd:Below w1.heap.size w1 wd:=by rw[hwd];exact(zB _ _).drew
 clear hwd c1 c2 c3;refine mD zGW zGY ?_;repeat(go_big_quiet_step (rfl))
 refine zY ?_;refine mH zGM ?_;intro K hK;go_wp2_with fail;refine(RB.out _ bd).mono ?_;rintro e w2 ⟨A',c',rfl,hrd,hab,b2⟩;have hab:=zW fun ad h=>zR bd.size (hab ad h);have b2':=bd.trans (b2.mono bd.size);have L2:=zW (zM (P0.out.step b2') (zM (R.out.step b2') (zM (B.out.trans (b2'.mono B.out.size)) (zM (G1.out.step b2') (zM (nM DD.out.1 b2') (zM (DD.out.2.2.2.step b2') hrd))))));simp only[];refine hK _ _ ⟨⟨w2,b2'⟩,rfl⟩ ?_;clear hK K b2 hrd LL P0 R B G1 RB k3 k2;refine vW zGW ?_;repeat(go_big_quiet_step (rfl))
 refine zY ?_;have k3:=L2.out.2.2.2.2.1.cell;have f3:=L2.out.2.2.2.2.1.frozen;go_upto_region 4 with fail;have hcq:=DD.out.2.1;have DA:=zW (L2.out.2.2.2.2.2.1.rest hcq);obtain⟨A3,hA3⟩:∃A3,(if c=q then A else Option.map (fun x=>x.add q) A)=A3:=⟨_,rfl⟩;rw[hA3]at DA⊢;have nb:0<m'→D.g≠s0+4:=L2.out.2.2.2.2.2.1.short (by omega:m'≤m'+q)|>.notBox L2.out.2.2.2.2.1 (fun x h=>by cases h)
 have S3:=zW (show DrB D s0 (w2.setCell ⟨s0+4,0,none⟩ (.slice A3 m' (c-q)))∧Boxed (w2.setCell ⟨s0+4,0,none⟩ (.slice A3 m' (c-q))) (s0+4) 22 (.slice A3 m' (c-q))∧
   yA D.g (D.o+ps.length*(D.r*D.z)+q) (fun j=>D.F (ps.length*(D.r*D.z)+(q+j))) m' A3 (w2.setCell ⟨s0+4,0,none⟩ (.slice A3 m' (c-q)))∧Boxed (w2.setCell ⟨s0+4,0,none⟩ (.slice A3 m' (c-q))) (s0+10) 4 (.bool (D.coll 0 ps))∧
   nZ w.heap.size 41 p (w2.setCell ⟨s0+4,0,none⟩ (.slice A3 m' (c-q)))∧nZ (w.heap.size+1) 41 (fun _=>0#128) (w2.setCell ⟨s0+4,0,none⟩ (.slice A3 m' (c-q)))∧hE (w2.setCell ⟨s0+4,0,none⟩ (.slice A3 m' (c-q))) A' (aW D.F r z (ps.length*(D.r*D.z)))∧But (DrT s0) w (w2.setCell ⟨s0+4,0,none⟩ (.slice A3 m' (c-q)))∧w.heap.size+2≤(w2.setCell ⟨s0+4,0,none⟩ (.slice A3 m' (c-q))).heap.size from
  ⟨L2.out.2.2.2.1.b.other (.inl rfl) _ _,L2.out.2.2.2.2.1.set _,DA.out.other nb _ _,yW L2.out.2.2.2.1.coll zGX _ _,L2.out.1.other zGR _ _,L2.out.2.1.other zGR _ _,
   L2.out.2.2.2.2.2.2.other (fun ad h=>by have:=hab.out ad h;have:=Gs.out;omega) _ _,(But.of_below L2.out.2.2.1).trans (But.cell _ _ (.inl rfl)),by have:=b2'.size;simp;omega⟩)
 generalize w2.setCell ⟨s0+4,0,none⟩ (.slice A3 m' (c-q))=w3 at*;clear k3 f3 hA3 nb DA L2 bd b2' qc e1 e2 e3;obtain⟨x,hx⟩:∃x,D.x=x:=⟨_,rfl⟩;obtain⟨y,hy⟩:∃y,D.y=y:=⟨_,rfl⟩;obtain⟨m,hm⟩:∃m,D.m=m:=⟨_,rfl⟩;obtain⟨h,hh⟩:∃h,D.h=h:=⟨_,rfl⟩;obtain⟨hi,hhi⟩:∃hi,D.S.hi=hi:=⟨_,rfl⟩;obtain⟨cl,hcl⟩:∃cl,D.clip=cl:=⟨_,rfl⟩;have VV:=zW (zM hx (zM hy (zM hm (zM hh (zM hhi hcl)))));have res:=OK.out.1.res;rw[hm,hh,hhi]at res;obtain⟨m0,m1,h0,h1⟩:=res.bounds;have k2:∀u:lA w3,u.w.cell? ⟨s0+7,0,none⟩=some (.int .i64 (z:Int)):=fun u=>by rw[←RZ.out.2];exact(nM S3.out.1.size u.below).cell
 have k4:∀u:lA w3,u.w.cell? ⟨s0+1,0,none⟩=some (.int .i64 (x:Int)):=fun u=>by rw[←hx];exact(nM S3.out.1.x u.below).cell
 have k5:∀u:lA w3,u.w.cell? ⟨s0+8,0,none⟩=some (.int .i64 (m:Int)):=fun u=>by rw[←hm];exact(nM S3.out.1.wd u.below).cell
 have k6:∀u:lA w3,u.w.cell? ⟨s0+2,0,none⟩=some (.int .i64 (y:Int)):=fun u=>by rw[←hy];exact(nM S3.out.1.y u.below).cell
 have k7:∀u:lA w3,u.w.cell? ⟨s0+9,0,none⟩=some (.int .i64 (h:Int)):=fun u=>by rw[←hh];exact(nM S3.out.1.ht u.below).cell
 have k8:∀u:lA w3,u.w.cell? ⟨s0,512,none⟩=some (.bool hi):=fun u=>by rw[←hhi];exact(S3.out.1.s.step u.below).hires
 have k9:∀u:lA w3,u.w.cell? ⟨s0+3,0,none⟩=some (.bool cl):=fun u=>by rw[←hcl];exact(nM S3.out.1.clip u.below).cell
 have kp:=zW (fun(w':World) (hw:∃u:lA w3,w'=u.w)=>show Blk w.heap.size 41 (lY p) w' by obtain⟨u,rfl⟩:=hw;exact S3.out.2.2.2.2.1.step u.below);have z8:(z:Int)≤2:=by have:=OK.out.1.z0;have:=RZ.out.2;omega
 have mI:(0:Int)<(m:Int):=zGX;have hI:(0:Int)<(h:Int):=zGX;have RS:=zW res;clear hx hy hm hh hhi hcl res hcq;refine lT (C:=fun w'=>∃u:lA w3,w'=u.w) 18 [([0,1,2,3,4,5,6,7,8,9,10,11,12],13,true),([],14,true)] [15,16,17] [19] zGV zGV ?_ ?_ ⟨⟨w3.drew,(zB _ _).drew⟩,rfl⟩ ?_
 ·exact zBB
 ·exact zBN
 intro wd hwd;have bd:=zW (show Below w3.heap.size w3 wd by rw[hwd];exact(zB _ _).drew);clear hwd;refine mV zGW zGY ?_;refine mN wP kp.out (lH _) rfl (.tmp 11) rfl zGB ?_;simp only[Act.put,zQ,zZ,zJ];repeat(go_big_quiet_step (rfl))
 refine zY ?_;have HSP:spr (nth (aW D.F r z (ps.length*(D.r*D.z)))) r (z*8) (x%m) (y%h) m h cl=P:=by
  have e:=OK.out.2.2.2.2;unfold DrD.sp at e;obtain⟨v1,v2,v3,v4,v5,v6⟩:=VV.out;rw[v1,v2,v3,v4,v6]at e;rw[←e];rw[RZ.out.1,RZ.out.2]
 have SP:∀w',(∃u:lA w3,w'=u.w)→Calls Tryz.prog 177 #[.slice A' r c',.int .i64 ((z:Int)*8),.int .i64 ((x:Int)%(m:Int)),.int .i64 ((y:Int)%(h:Int)),.bool hi,.bool cl] w' fun e w''=>e=.returned (.agg (lY P))∧Gr w' w'':=by
  rintro w' ⟨u,rfl⟩;exact spW RS.out (S3.out.2.2.2.2.2.2.1.step u.below) (by
   intro v hv;unfold aW at hv;obtain⟨j,_,rfl⟩:=jG.1 hv;exact zYD (fun j=>OK.out.1.F1 _) z j zG0) (by simp[aW]) (by have:=OK.out.1.r1;have:=RZ.out.1;omega) zG0 (kU _ zGX) (kU _ zGX) zGN zGN zGN HSP
 refine mW (v:=.agg (lY P)) (mC (g:=177) (caps:=#[]) (args:=#[.slice A' r c',.int .i64 ((z:Int)*8),.int .i64 ((x:Int)%(m:Int)),.int .i64 ((y:Int)%(h:Int)),.bool hi,.bool cl]) (.func 177) #[.tmp 33,.tmp 35,.tmp 38,.tmp 41,.tmp 43,.tmp 44] #[279,3,3,3,4,4] rfl rfl (enters_of Tryz.func177 zGV rfl) SP rfl zGB) ?_;clear SP HSP k2 k4 k5 k6 k7 k8 k9;simp only[Act.put,zQ,zZ,zJ];refine mV zGW zGY ?_;refine zY ?_;refine mW (v:=.tuple #[.agg (lY Q),.bool hv]) (mC (g:=176) (caps:=#[]) (args:=#[.agg (lY p),.agg (lY P)]) (.func 176) #[.tmp 32,.tmp 45] #[41,41] rfl rfl (enters_of Tryz.func176 zGV rfl) (fun w' _=>DR.out w') rfl zGB) ?_;simp only[Act.put,zQ,zZ,zJ];refine mZ zGW zGY ?_;repeat(go_big_quiet_step (rfl))
 refine zY ?_;refine mJ rfl ?_;intro w4 g4 C4 K hK;have b4:=zW (bd.out.trans (g4.mono bd.out.size));refine nY (ds:=lY Q) wP (nZ.step S3.out.2.2.2.2.1 b4.out) (lH _) (lH _) (vI _) (.tmp 11) (.tmp 47) rfl zGK zGK ?_;refine hK _ _ ?_;clear hK K;simp only[Act.put,zQ,zZ,zJ];simp only[lW,zX,zK,zV];repeat(go_big_quiet_step (rfl))
 refine zY ?_;intro w5 g5;obtain⟨cv,hcv⟩:∃cv,D.coll 0 ps=cv:=⟨_,rfl⟩;rw[hcv]at S3 CO;have S4:=S3.out;obtain⟨s1,s2,s3,s4,s5,s6,-,s8,s9⟩:=S4;have ng:0<m'→D.g≠w.heap.size:=fun h0=>(s3.step b4.out).notPl (nZ.step s5 b4.out) h0;have S5:=zW (show DrB D s0 w5∧Boxed w5 (s0+4) 22 (.slice A3 m' (c-q))∧yA D.g (D.o+ps.length*(D.r*D.z)+q) (fun j=>D.F (ps.length*(D.r*D.z)+(q+j))) m' A3 w5∧Boxed w5 (s0+10) 4 (.bool cv)∧
   nZ w.heap.size 41 Q w5∧nZ (w.heap.size+1) 41 (fun _=>0#128) w5∧But (DrT s0) w w5 from
  ⟨((s1.step b4.out).row zGR _).step g5,nM (uD (nM s2 b4.out) zGR _) g5,((s3.step b4.out).row ng _).step g5,nM (uD (nM s4 b4.out) zGR _) g5,
   (nZ.store (nZ.step s5 b4.out) Q).step g5,((nZ.step s6 b4.out).otherRow zGX _).step g5,((s8.trans (But.of_below b4.out)).rowNew (zG _) _).trans (But.of_below g5)⟩)
 clear S3 s1 s2 s3 s4 s5 s6 s8 s9 ng b4 g4 C4 g5 bd kp VV m0 m1 h0 h1 z8 mI hI RS;have CB:=zW (zM DD.out.2.1 DD.out.2.2.1);clear DD;have k10:=S5.out.2.2.2.1.cell;have f10:=S5.out.2.2.2.1.frozen;obtain⟨nv,hnv⟩:∃nv,(cv||hv)=nv:=⟨_,rfl⟩;rw[hnv]at CO;have NV:=zW hnv;clear hnv hcv;have fin:∀(K:Act→World→Prop),True:=fun _=>trivial;clear fin;have stage:cv=true∧nv=true∨cv=false∧nv=hv:=by
  have:=NV.out;cases cv
  ·exact .inr ⟨rfl,by rw[←this];rfl⟩
  ·exact .inl ⟨rfl,by rw[←this];rfl⟩
 rcases stage with⟨rfl,rfl⟩|⟨rfl,rfl⟩
 ·go_upto_region 6 with fail;obtain⟨s1,s2,s3,s4,s5,s6,s8⟩:=S5.out;have ng:0<m'→D.g≠s0+10:=fun h0=>s3.notBox s4 (fun x h=>by cases h) h0;have ng2:0<m'→D.g≠w.heap.size+1:=fun h0=>s3.notPl s6 h0;have S6:=zW (show DrB D s0 (w5.setCell ⟨s0+10,0,none⟩ (.bool true))∧Boxed (w5.setCell ⟨s0+10,0,none⟩ (.bool true)) (s0+4) 22 (.slice A3 m' (c-q))∧yA D.g (D.o+ps.length*(D.r*D.z)+q) (fun j=>D.F (ps.length*(D.r*D.z)+(q+j))) m' A3 (w5.setCell ⟨s0+10,0,none⟩ (.bool true))∧Boxed (w5.setCell ⟨s0+10,0,none⟩ (.bool true)) (s0+10) 4 (.bool true)∧
    nZ w.heap.size 41 Q (w5.setCell ⟨s0+10,0,none⟩ (.bool true))∧nZ (w.heap.size+1) 41 (fun _=>0#128) (w5.setCell ⟨s0+10,0,none⟩ (.bool true))∧But (DrT s0) w (w5.setCell ⟨s0+10,0,none⟩ (.bool true))from
   ⟨s1.other (.inr (zG _)) _ _,yW s2 zGX _ _,s3.other ng _ _,s4.set _,s5.other zGR _ _,s6.other zGR _ _,s8.trans (But.cell _ _ (.inr rfl))⟩)
  generalize w5.setCell ⟨s0+10,0,none⟩ (.bool true)=w6 at*;exact zBT
 ·go_upto_region 6 with fail;obtain⟨s1,s2,s3,s4,s5,s6,s8⟩:=S5.out;have ng:0<m'→D.g≠s0+10:=fun h0=>s3.notBox s4 (fun x h=>by cases h) h0;have ng2:0<m'→D.g≠w.heap.size+1:=fun h0=>s3.notPl s6 h0;have S6:=zW (show DrB D s0 (w5.setCell ⟨s0+10,0,none⟩ (.bool nv))∧Boxed (w5.setCell ⟨s0+10,0,none⟩ (.bool nv)) (s0+4) 22 (.slice A3 m' (c-q))∧yA D.g (D.o+ps.length*(D.r*D.z)+q) (fun j=>D.F (ps.length*(D.r*D.z)+(q+j))) m' A3 (w5.setCell ⟨s0+10,0,none⟩ (.bool nv))∧Boxed (w5.setCell ⟨s0+10,0,none⟩ (.bool nv)) (s0+10) 4 (.bool nv)∧
    nZ w.heap.size 41 Q (w5.setCell ⟨s0+10,0,none⟩ (.bool nv))∧nZ (w.heap.size+1) 41 (fun _=>0#128) (w5.setCell ⟨s0+10,0,none⟩ (.bool nv))∧But (DrT s0) w (w5.setCell ⟨s0+10,0,none⟩ (.bool nv))from
   ⟨s1.other (.inr (zG _)) _ _,yW s2 zGX _ _,s3.other ng _ _,s4.set _,s5.other zGR _ _,s6.other zGR _ _,s8.trans (But.cell _ _ (.inr rfl))⟩)
  generalize w5.setCell ⟨s0+10,0,none⟩ (.bool nv)=w6 at*;exact zBT
theorem zYN(S:Sc)(x y:Nat)(clip:Bool)(A:Option Addr)(t c:Nat)(w:World):∃w1,w1=((((((w.alloc (.cells (lK S) 80)).alloc (.cells #[.int .i64 (x:Int)] 3)).alloc (.cells #[.int .i64 (y:Int)] 3)).alloc (.cells #[.bool clip] 4)).alloc (.cells #[.slice A t c] 22)).alloc (.cells (lK (mQ false 0)) 80))∧SB w.heap.size S w1∧Boxed w1 (w.heap.size+1) 3 (.int .i64 (x:Int))∧Boxed w1 (w.heap.size+2) 3 (.int .i64 (y:Int))∧Boxed w1 (w.heap.size+3) 4 (.bool clip)∧Boxed w1 (w.heap.size+4) 22 (.slice A t c)∧SB (w.heap.size+5) (mQ false 0) w1∧Below w.heap.size w w1∧w1.heap.size=w.heap.size+6:=by
 refine⟨_,rfl,?_,?_,?_,?_,?_,?_,?_,by simp⟩
 ·exact(((((SB.new w S).alloc _).alloc _).alloc _).alloc _).alloc _
 ·have h:=(((((jC (w.alloc (.cells (lK S) 80)) 3 (.int .i64 (x:Int))).alloc (.cells #[.int .i64 (y:Int)] 3)).alloc (.cells #[.bool clip] 4)).alloc (.cells #[.slice A t c] 22)).alloc (.cells (lK (mQ false 0)) 80));simpa using h
 ·have h:=((((jC ((w.alloc (.cells (lK S) 80)).alloc (.cells #[.int .i64 (x:Int)] 3)) 3 (.int .i64 (y:Int))).alloc (.cells #[.bool clip] 4)).alloc (.cells #[.slice A t c] 22)).alloc (.cells (lK (mQ false 0)) 80));simpa using h
 ·have h:=(((jC (((w.alloc (.cells (lK S) 80)).alloc (.cells #[.int .i64 (x:Int)] 3)).alloc (.cells #[.int .i64 (y:Int)] 3)) 4 (.bool clip)).alloc (.cells #[.slice A t c] 22)).alloc (.cells (lK (mQ false 0)) 80));simpa using h
 ·have h:=((jC ((((w.alloc (.cells (lK S) 80)).alloc (.cells #[.int .i64 (x:Int)] 3)).alloc (.cells #[.int .i64 (y:Int)] 3)).alloc (.cells #[.bool clip] 4)) 22 (.slice A t c)).alloc (.cells (lK (mQ false 0)) 80));simpa using h
 ·have h:=SB.new (((((w.alloc (.cells (lK S) 80)).alloc (.cells #[.int .i64 (x:Int)] 3)).alloc (.cells #[.int .i64 (y:Int)] 3)).alloc (.cells #[.bool clip] 4)).alloc (.cells #[.slice A t c] 22)) (mQ false 0);simpa using h
 ·exact((((((zB _ w).alloc (zG _) _).alloc zGN _).alloc zGH _).alloc zGH _).alloc zGH _).alloc zGH _
theorem zK5(r z m h k:Nat)(w1:World)(hk:w1.heap.size=k):∃w2,w2=(((((w1.alloc (.cells #[.int .i64 (r:Int)] 3)).alloc (.cells #[.int .i64 (z:Int)] 3)).alloc (.cells #[.int .i64 (m:Int)] 3)).alloc (.cells #[.int .i64 (h:Int)] 3)).alloc (.cells #[.bool false] 4))∧Boxed w2 k 3 (.int .i64 (r:Int))∧Boxed w2 (k+1) 3 (.int .i64 (z:Int))∧Boxed w2 (k+2) 3 (.int .i64 (m:Int))∧Boxed w2 (k+3) 3 (.int .i64 (h:Int))∧Boxed w2 (k+4) 4 (.bool false)∧Below w1.heap.size w1 w2∧w2.heap.size=k+5:=by
 subst hk;refine⟨_,rfl,?_,?_,?_,?_,?_,?_,by simp⟩
 ·have h:=(((((jC w1 3 (.int .i64 (r:Int))).alloc (.cells #[.int .i64 (z:Int)] 3)).alloc (.cells #[.int .i64 (m:Int)] 3)).alloc (.cells #[.int .i64 (h:Int)] 3)).alloc (.cells #[.bool false] 4));simpa using h
 ·have h:=((((jC (w1.alloc (.cells #[.int .i64 (r:Int)] 3)) 3 (.int .i64 (z:Int))).alloc (.cells #[.int .i64 (m:Int)] 3)).alloc (.cells #[.int .i64 (h:Int)] 3)).alloc (.cells #[.bool false] 4));simpa using h
 ·have h:=(((jC ((w1.alloc (.cells #[.int .i64 (r:Int)] 3)).alloc (.cells #[.int .i64 (z:Int)] 3)) 3 (.int .i64 (m:Int))).alloc (.cells #[.int .i64 (h:Int)] 3)).alloc (.cells #[.bool false] 4));simpa using h
 ·have h:=((jC (((w1.alloc (.cells #[.int .i64 (r:Int)] 3)).alloc (.cells #[.int .i64 (z:Int)] 3)).alloc (.cells #[.int .i64 (m:Int)] 3)) 3 (.int .i64 (h:Int))).alloc (.cells #[.bool false] 4));simpa using h
 ·have h:=(jC ((((w1.alloc (.cells #[.int .i64 (r:Int)] 3)).alloc (.cells #[.int .i64 (z:Int)] 3)).alloc (.cells #[.int .i64 (m:Int)] 3)).alloc (.cells #[.int .i64 (h:Int)] 3)) 4 (.bool false));simpa using h
 ·exact(((((zB _ w1).alloc (zG _) _).alloc zGN _).alloc zGH _).alloc zGH _).alloc zGH _
structure DrW(b1 b2:Nat)(Z:Sc)(cv:Bool) where
 w:World
 s:SB b1 Z w
 c:Boxed w b2 4 (.bool cv)
theorem uF{w w':World}{b n:Nat}{t:TypeId}{v:Value}(h:Boxed w b t v)(hb:Below n w w')(hn:b<n):Boxed w' b t v:=(hb.block b hn).trans h
theorem DrG.below{D:DrD}{s0 n:Nat}{ps:List Pl}{w w':World}(G:DrG D s0 ps w)(hb:Below n w w')(hs:s0+10<n)(hg:0<D.N*(D.r*D.z)→D.g<n):DrG D s0 ps w':=by
 obtain⟨A,c,d1,d2,d3,d4⟩:=G.data;have b:=G.b;refine⟨⟨uF b.rows hb zGX,uF b.size hb zGX,uF b.x hb zGX,uF b.y hb zGX,uF b.wd hb zGX,uF b.ht hb zGX,uF b.clip hb zGX,b.s.below hb zGX⟩,⟨A,c,uF d1 hb zGX,d2,d3,fun hn=>?_⟩,uF G.coll hb zGX⟩;obtain⟨h1,h2,h3⟩:=d4 hn;have hp:0<D.N*(D.r*D.z):=zD hn (Nat.mul_le_mul_right _ (Nat.sub_le _ _));have hgn:=hg hp;exact⟨h1,zD h2 hb.size,fun j hj=>(hb.cell (p:=⟨D.g,_,none⟩) hgn).trans (h3 j hj)⟩
theorem zQN(D:DrD)(ok:zHH D)(M n:Nat)(big:Bool)(hM:D.S.M=(M:Int))(M1:M≤10000)(hN:D.N=(nC M 4).length)(hr:(if big then 16 else n)=D.r)(hzz:(if big then 2 else 1)=D.z)(A:Option Addr)(t c:Nat)(ht:D.N*(D.r*D.z)=t)(hc:t≤c)(c1:c≤1000)(w:World)(hD:yA D.g D.o D.F t A w):
  Calls Tryz.prog 142 #[.agg (lK D.S),.int .i64 (D.x:Int),.int .i64 (D.y:Int),.int .i64 (n:Int),.bool big,.bool D.clip,.slice A t c] w fun e w'=>
   e=.returned (.tuple #[.agg (lK (yE (fun i p=>rR p (D.sp (nC M i).length)) M D.S)),.bool (D.coll 0 ((nC M 4).map fun i=>D.S.P i.val))])∧Below w.heap.size w w':=by
 have hz:=yB;obtain⟨Z,hZ⟩:∃Z,yE (fun i p=>rR p (D.sp (nC M i).length)) M D.S=Z:=⟨_,rfl⟩;obtain⟨cv,hcv⟩:∃cv,D.coll 0 ((nC M 4).map fun i=>D.S.P i.val)=cv:=⟨_,rfl⟩;rw[hZ,hcv];have RC:=zW ((eO (fun k p=>rR p (D.sp k)) D.S M).trans (by rw[hZ]));have PC:=zW (show D.coll 0 (uM (fun k p=>rR p (D.sp k)) 0 D.S (nC M 4))=cv by rw[BX _ _ _ _ zGX,hcv]);have CH:=zW fun(s0:Nat) (w:World) (l1:s0+10<w.heap.size) (lg:0<D.N*(D.r*D.z)→D.g<w.heap.size) (H:DrG D s0 [] w)=>sJ M (g:=174) (caps:=#[.pointer (some ⟨s0+6,0,none⟩),.pointer (some ⟨s0+7,0,none⟩),.pointer (some ⟨s0+4,0,none⟩),.pointer (some ⟨s0+1,0,none⟩),.pointer (some ⟨s0+8,0,none⟩),.pointer (some ⟨s0+2,0,none⟩),.pointer (some ⟨s0+9,0,none⟩),.pointer (some ⟨s0,0,none⟩),.pointer (some ⟨s0+3,0,none⟩),.pointer (some ⟨s0+10,0,none⟩)]) (enters_of Tryz.func174 zGV rfl) (fun k p=>rR p (D.sp k)) (DrT s0) (fun ps W=>DrG D s0 ps W∧∀j,j<w.heap.size→j<W.heap.size) w (fun k h=>by rcases h with h|h<;>omega)
  (fun _ W W' G b=>⟨G.1.below b l1 lg,fun j hj=>zD (G.2 j hj) b.size⟩)
  (fun ps p W hn G _=>(zQH D ok s0 ps (by rw[hN];exact hn) p W G.1).mono fun e W' h=>⟨h.1,⟨h.2.1,fun j hj=>zD (G.2 j hj) h.2.2.size⟩,h.2.2⟩) D.S hM M1 ⟨H,fun j hj=>hj⟩
 clear hZ hcv;obtain⟨w1,hw1,S0,X0,Y0,C0,D0,R0,B0,Z0⟩:=zYN D.S D.x D.y D.clip A t c w;have L1:=zW (zM S0 (zM X0 (zM Y0 (zM C0 (zM D0 (zM R0 (zM B0 Z0)))))));have HW:=zW hw1;obtain⟨r,hrr⟩:∃r,D.r=r:=⟨_,rfl⟩;obtain⟨z,hz2⟩:∃z,D.z=z:=⟨_,rfl⟩;obtain⟨x,hx⟩:∃x,D.x=x:=⟨_,rfl⟩;obtain⟨y,hy⟩:∃y,D.y=y:=⟨_,rfl⟩;obtain⟨m,hm⟩:∃m,D.m=m:=⟨_,rfl⟩;obtain⟨h,hh⟩:∃h,D.h=h:=⟨_,rfl⟩;obtain⟨hi,hhi⟩:∃hi,D.S.hi=hi:=⟨_,rfl⟩;obtain⟨cl,hcl⟩:∃cl,D.clip=cl:=⟨_,rfl⟩;have VV:=zW (zM hrr (zM hz2 (zM hx (zM hy (zM hm (zM hh (zM hhi hcl)))))));have SH:=zW fun w=>JW n big w;rw[hr,hzz,hrr,hz2]at SH;have res:=ok.res;rw[hm,hh,hhi]at res;have SZ:=zW fun w=>oV res w;have TT:=zW (zM hN (zM ht (zM hc (zM c1 hD))));rw[hx,hy,hcl];rw[hx,hy,hcl]at hw1;clear hrr hz2 hx hy hm hh hcl hr hzz res S0 X0 Y0 C0 D0 R0 B0 Z0 hN ht hc c1 hD hM ok;go_enter Tryz.func142,Tryz.ntmps142;go_wp2_with fail;rw[←hw1];clear hz hw1;simp only[qP,Nat.reduceAdd];refine(SH.out _).mono ?_;rintro e w' ⟨rfl,rfl⟩;have k512:=L1.out.1.hires;rw[hhi]at k512;have l0:=L1.out.1.lt;have Z0:=L1.out.2.2.2.2.2.2.2;go_wp2_with fail;simp only[qP,Nat.reduceAdd];refine(SZ.out _).mono ?_;rintro e w' ⟨rfl,rfl⟩;go_upto_region 4 with fail;simp only[qP,Nat.reduceAdd];obtain⟨w2,hw2,r2,z2,m2,h2,f2,b2,n2⟩:=zK5 r z m h (w.heap.size+6) w1 Z0;rw[←hw2];clear hw2 k512 l0;have G2:=zW (show DrG D w.heap.size [] w2 from by
  obtain⟨l1,l2,l3,l4,l5,l6,l7,l8⟩:=L1.out;obtain⟨v1,v2,v3,v4,v5,v6,v7,v8⟩:=VV.out;obtain⟨t1,t2,t3,t4,t5⟩:=TT.out;refine⟨⟨by rw[v1];exact r2,by rw[v2];exact z2,nM l2 b2,nM l3 b2,by rw[v5];exact m2,by rw[v6];exact h2,nM l4 b2,l1.step b2⟩,⟨A,c,?_,?_,t4,?_⟩,f2⟩
  ·simp only[List.length_nil,Nat.sub_zero];rw[t2];exact nM l5 b2
  ·simp only[List.length_nil,Nat.sub_zero];omega
  ·simp only[List.length_nil,Nat.sub_zero,Nat.zero_mul,qL,Nat.add_zero];rw[t2];exact(t5.step l7).step b2)
 have S2:=zW (L1.out.1.step b2)
 have R2:=zW (L1.out.2.2.2.2.2.1.step b2);have B2:=zW (L1.out.2.2.2.2.2.2.1.trans (b2.mono L1.out.2.2.2.2.2.2.1.size));have lg:=zW (show 0<D.N*(D.r*D.z)→D.g<w2.heap.size from fun h0=>by
  have:=(TT.out.2.2.2.2 (by rw[←TT.out.2.1];exact h0)).2.1;omega)
 clear r2 z2 m2 h2 f2 b2;refine zH ?_;refine lL cL S2.out (lN _) rfl (.tmp 7) rfl zGB ?_;simp only[Act.put,zQ,zZ,zJ];iterate 3 go_step
 refine qZ rfl fun K hK=>?_;refine mK (g:=169) (caps:=#[]) (args:=#[.agg (lK D.S),.func (.func 174) #[] #[.pointer (some ⟨w.heap.size+6,0,none⟩),.pointer (some ⟨w.heap.size+7,0,none⟩),.pointer (some ⟨w.heap.size+4,0,none⟩),.pointer (some ⟨w.heap.size+1,0,none⟩),.pointer (some ⟨w.heap.size+8,0,none⟩),.pointer (some ⟨w.heap.size+2,0,none⟩),.pointer (some ⟨w.heap.size+9,0,none⟩),.pointer (some ⟨w.heap.size,0,none⟩),.pointer (some ⟨w.heap.size+3,0,none⟩),.pointer (some ⟨w.heap.size+10,0,none⟩)]]) (.func 169) #[.tmp 34,.tmp 35] #[80,272] rfl (enters_of Tryz.func169 zGV rfl) rfl zGB ?_;refine(CH.out w.heap.size w2 (by rw[n2];omega) lg.out G2.out).mono ?_;rintro e w3 ⟨rfl,⟨g3,-⟩,b3⟩;have R3:=zW (show SB (w.heap.size+5) (mQ false 0) w3 from Blk.but R2.out b3 (by unfold DrT;omega));have B3:=zW (show Below w.heap.size w w3 from B2.out.trans (b3.below zGX (fun k hk=>by rcases hk with h|h<;>omega)));have C3:=zW (show Boxed w3 (w.heap.size+10) 4 (.bool cv)from by have h:=g3.coll;rw[PC.out]at h;exact h);refine⟨_,rfl,hK _ _ ?_⟩;clear hK K b3 g3 G2 S2 R2 B2 lg;rw[RC.out];simp only[Act.put,zQ,zZ,zJ];have n3:w.heap.size+10<w3.heap.size:=C3.out.lt;refine lO (ds:=lK Z) cL LM (lN _) (lN _) (nR _) rfl rfl rfl (.tmp 21) (.tmp 36) rfl zGK zGK ?_;simp only[Act.put,zQ,zZ,zJ];have V4:=zW (SB.new w3 Z);have R4:=zW (R3.out.alloc (.cells (lK Z) 80));have B4:=zW (B3.out.alloc B3.out.size (.cells (lK Z) 80));have C4:=zW (C3.out.alloc (.cells (lK Z) 80));generalize w3.alloc (.cells (lK Z) 80)=w4 at*;clear R3 B3 C3;go_upto_region 5 with fail;have kc:∀u:DrW w3.heap.size (w.heap.size+10) Z cv,u.w.cell? ⟨w.heap.size+10,0,none⟩=some (.bool cv):=fun u=>u.c.cell;have kp:=zW (fun(w':World) (hw:∃u:DrW w3.heap.size (w.heap.size+10) Z cv,w'=u.w)=>show Blk w3.heap.size 80 (lK Z) w' by obtain⟨u,rfl⟩:=hw;exact u.s);refine mT (C:=fun w'=>∃u:DrW w3.heap.size (w.heap.size+10) Z cv,w'=u.w) [([0,1],2)] [3] zGV zGV (fun _ _ d _ _ h=>by cases d<;>exact h) ⟨⟨w4.drew,V4.out.drew,C4.out⟩,rfl⟩ ?_;intro wd hwd;have bd:=zW (show Below w4.heap.size w4 wd by rw[hwd];exact(zB _ _).drew);clear hwd;refine mD zGW zGY ?_;refine mN cL kp.out (lN _) rfl (.tmp 21) rfl zGB ?_;simp only[Act.put,zQ,zZ,zJ];repeat(go_big_quiet_step (rfl))
 refine zY ?_;refine mH zGM ?_;intro K hK;refine nY (ds:=lK Z) cL (R4.out.step bd.out) (lN _) (lN _) (nR _) (.tmp 14) (.tmp 37) rfl zGK zGK ?_;have R6:=zW ((R4.out.step bd.out).store Z);have B6:=zW (cF (B4.out.trans (bd.out.mono B4.out.size)) (by omega:w.heap.size≤w.heap.size+5) (lK Z));have D6:∃u:DrW w3.heap.size (w.heap.size+10) Z cv,wd.setRow (w.heap.size+5) (lK Z)=u.w:=⟨⟨_,(V4.out.step bd.out).otherRow zGX _,uD (nM C4.out bd.out) zGX _⟩,rfl⟩;generalize wd.setRow (w.heap.size+5) (lK Z)=w6 at*;refine hK _ _ D6 ?_;clear hK K D6 V4 R4 B4 C4 kp kc bd;simp only[Act.put,zQ,zZ,zJ];refine vW zGW ?_;repeat(go_big_quiet_step (rfl))
 refine zY ?_;iterate 3 go_step
 exact zP (tA rfl _ _ (w.heap.size+5) _ _ _ _ (.bool cv) rfl rfl R6.out Tryz.underlying80 rfl zBZ) rfl ⟨rfl,B6.out⟩
structure Stp where
 k:Int
 m:Int
 hires:Bool
 x:Int
 y:Int
 n:Int
 big:Bool
 clip:Bool
 A:Option Addr
 len:Nat
 cap:Nat
def stc(x:Stp):Array Value:=#[.int .i64 x.k,.int .i64 x.m,.bool x.hires,.int .i64 x.x,.int .i64 x.y,.int .i64 x.n,.bool x.big,.bool x.clip,.slice x.A x.len x.cap]
def InI(x:Int):Prop:= -9223372036854775808≤x∧x≤9223372036854775807
structure IN(q:Stp)(L:List Nat)(w:World):Prop where
 k:InI q.k
 m:InI q.m
 x:InI q.x
 y:InI q.y
 n:InI q.n
 rd:Rd8 w q.A L
 len:L.length=q.len
 max:q.len≤maxLen
 le:∀b∈L,b≤255
theorem IN.step{x:Stp}{L:List Nat}{w w':World}(h:IN x L w)(hb:Below w.heap.size w w'):IN x L w':=⟨h.k,h.m,h.x,h.y,h.n,h.rd.step hb,h.len,h.max,h.le⟩
def wid(hires:Bool):Nat:=if hires then 128 else 64
def hei(hires:Bool):Nat:=if hires then 64 else 32
theorem res_of(hires:Bool):Res hires (wid hires) (hei hires):=by
 cases hires
 ·exact .inr ⟨rfl,rfl,rfl⟩
 ·exact .inl ⟨rfl,rfl,rfl⟩
def mkD(F:Nat→Nat)(S:Sc)(M n:Nat)(big clip:Bool)(x y g o:Nat):DrD:=
 ⟨g,o,F,(nC M 4).length,if big then 16 else n,if big then 2 else 1,x,y,wid S.hi,hei S.hi,clip,S⟩
theorem mkD_ok(F:Nat→Nat)(hF:∀j,F j≤255)(S:Sc)(M n:Nat)(hn:n≤16)(big clip:Bool)(x y g o:Nat)(hx:x≤1000)(hy:y≤1000):zHH (mkD F S M n big clip x y g o):=
 ⟨by unfold mkD;simp only;split<;>omega,by unfold mkD;simp only;cases big<;>simp,hF,by unfold mkD;exact JY M 4,hx,hy,res_of S.hi⟩
def drS(D:DrD)(M:Nat):Sc:=yE (fun i p=>rR p (D.sp (nC M i).length)) M D.S
def coS(D:DrD)(M:Nat):Bool:=D.coll 0 ((nC M 4).map fun i=>D.S.P i.val)
theorem W6(F:Nat→Nat)(S:Sc)(M n:Nat)(big clip:Bool)(x y g o g' o':Nat):∀(ps:List Pl) (k:Nat),(mkD F S M n big clip x y g o).coll k ps=(mkD F S M n big clip x y g' o').coll k ps
 |[],k=>rfl
 |p::ps,k=>by rw[DrD.coll,DrD.coll,W6 F S M n big clip x y g o g' o' ps];rfl
theorem zNU(F:Nat→Nat)(S:Sc)(M n:Nat)(big clip:Bool)(x y g o g' o':Nat):coS (mkD F S M n big clip x y g o) M=coS (mkD F S M n big clip x y g' o') M:=W6 _ _ _ _ _ _ _ _ _ _ _ _ _ _
theorem VU(M n:Nat)(big:Bool)(hn:n≤32):uZ M n big 4≤128:=zLD M n big hn 4
end
section
open Go.RowKit Num

end
section
open Go.RowKit Go.Shelf Num
section
variable {ops:Array Oper} {C:World→Prop}
end
def drZ(F:Nat→Nat)(S:Sc)(M n:Nat)(big clip:Bool)(x y:Nat):Sc:=drS (mkD F S M n big clip x y 0 0) M
def coZ(F:Nat→Nat)(S:Sc)(M n:Nat)(big clip:Bool)(x y:Nat):Bool:=coS (mkD F S M n big clip x y 0 0) M
theorem drawM(S:Sc)(M n:Nat)(hM:S.M=(M:Int))(M1:M≤15)(n1:n≤15)(big clip:Bool)(x y:Nat)(x1:x≤255)(y1:y≤255)(F:Nat→Nat)(hF:∀j,F j≤255)(g o nd:Nat)(A:Option Addr)(c:Nat)(hnd:uZ M n big 4=nd)(hc:nd≤c)(c1:c≤1000)(w:World)(hD:yA g o F nd A w):
  Calls Tryz.prog 142 #[.agg (lK S),.int .i64 (x:Int),.int .i64 (y:Int),.int .i64 (n:Int),.bool big,.bool clip,.slice A nd c] w fun e w'=>
   e=.returned (.tuple #[.agg (lK (drZ F S M n big clip x y)),.bool (coZ F S M n big clip x y)])∧Below w.heap.size w w':=by
 have hl:(nC M 4).length*((if big then 16 else n)*(if big then 2 else 1))=nd:=by rw[←hnd,ZJ M n big 4 zGX,fY]
 have h:=zQN (mkD F S M n big clip x y g o) (mkD_ok _ hF S M n zGX big clip x y g o zGX zGX) M n big hM zGX rfl rfl rfl A nd c hl hc c1 w hD;refine h.mono fun e w' ⟨he,hb⟩=>⟨he.trans ?_,hb⟩;have e2:=zNU F S M n big clip x y g o 0 0;unfold coS at e2;unfold drZ coZ drS coS;rw[e2];rfl
theorem drZ_hi(F:Nat→Nat)(S:Sc)(M n:Nat)(big clip:Bool)(x y:Nat):(drZ F S M n big clip x y).hi=S.hi:=rfl
def spZ(F:Nat→Nat)(S:Sc)(M n:Nat)(big clip:Bool)(x y k:Nat):Pl:=(mkD F S M n big clip x y 0 0).sp k
theorem drZ_P(F:Nat→Nat)(S:Sc)(M n:Nat)(big clip:Bool)(x y i:Nat):(drZ F S M n big clip x y).P i=if onB M i then rR (S.P i) (spZ F S M n big clip x y (nC M i).length)else S.P i:=rfl
end
section
open Go.RowKit Num
section
variable (F:Nat→Nat) (S:Sc) (m n:Nat) (big clip:Bool) (x y:Nat)
def uTo(j:Nat):Nat→Pl:=fun i=>if i<j∧onB m i=true then rR (S.P i) (spZ F S m n big clip x y (nC m i).length)else S.P i
def zWQ(j:Nat):Bool:=(mkD F S m n big clip x y 0 0).coll 0 ((nC m j).map fun i=>S.P i.val)
theorem U7:(∀i,i<4→S.P i=uTo F S m n big clip x y 0 i)∧zWQ F S m n big clip x y 0=false:=by
 constructor
 ·intro i hi;unfold uTo;rw[zL zGX]
 ·unfold zWQ;rw[uI];rfl
end
structure Dat(g n:Nat)(F:Nat→Nat)(w:World):Prop where
 lt:g<w.heap.size
 at_:∀j,j<n→w.cell? ⟨g,j,none⟩=some (.int .u8 (F j:Int))
theorem Dat.step{g n:Nat}{F:Nat→Nat}{w w':World}(h:Dat g n F w)(hb:Below w.heap.size w w'):Dat g n F w':=⟨zD h.lt hb.size,fun j hj=>(hb.cell (p:=⟨g,j,none⟩) h.lt).trans (h.at_ j hj)⟩
theorem Dat.otherRow{g n:Nat}{F:Nat→Nat}{w:World}(h:Dat g n F w){b:Nat}(hb:g≠b)(cs:Array Value):Dat g n F (w.setRow b cs):=
 ⟨by have:=h.lt;simpa [World.setRow]using this,fun j hj=>by
  have e:=qQ w b g cs hb;have:=h.at_ j hj;unfold World.cell? at*;simp only at*;rw[e];exact this⟩
theorem Dat.all{g n:Nat}{F:Nat→Nat}{w:World}(h:Dat g n F w):yA g 0 F n (some ⟨g,0,none⟩) w:=fun _=>⟨rfl,h.lt,fun j hj=>by rw[qL];exact h.at_ j hj⟩
def cutA(g n fr:Nat):Option Addr:=if n=fr then some ⟨g,0,none⟩else some ⟨g,fr,none⟩
theorem Dat.cut{g n:Nat}{F:Nat→Nat}{w:World}(h:Dat g n F w){fr k:Nat}(hk:fr+k≤n):yA g fr (fun j=>F (fr+j)) k (cutA g n fr) w:=fun h0=>by
 unfold cutA;rw[zL zGX];exact⟨rfl,h.lt,fun j hj=>h.at_ _ zGX⟩
end
section
open Go.RowKit Go.Shelf Num
section
variable (G:Nat→Nat) (F:Nat→Nat→Bool) (M n:Nat) (big clip:Bool) (x y m h N:Nat)
def spK(k:Nat):Nat→Bool:=zYR (nth (aW G (if big then 16 else n) (if big then 2 else 1) (uZ M n big k))) (if big then 16 else n) ((if big then 2 else 1)*8) (x%m) (y%h) m h clip
def drK(k i:Nat):Nat→Bool:=if i<k∧onB M i=true then fun t=>F i t^^spK G M n big clip x y m h i t else F i
def hiK:Nat→Bool
 |0=>false
 |k+1=>if onB M k then hiK k||phitTo (fun t=>F k t&&spK G M n big clip x y m h k t) N else hiK k
end
def DatR(A:Option Addr)(n:Nat)(G:Nat→Nat)(w:World):Prop:=0<n→∃ad,A=some ad∧ad.block<w.heap.size∧∀j,j<n→w.cell? (ad.add j)=some (.int .u8 (G j:Int))
theorem DatR.step{A:Option Addr}{n:Nat}{G:Nat→Nat}{w w':World}(h:DatR A n G w)(hb:Below w.heap.size w w'):DatR A n G w':=fun hn=>by
 obtain⟨ad,h1,h2,h3⟩:=h hn;exact⟨ad,h1,zD h2 hb.size,fun j hj=>(hb.cell (p:=ad.add j) (by unfold Addr.add;split<;>exact h2)).trans (h3 j hj)⟩
end
section
open Go.RowKit Num Dec Cpu Go.Maps
theorem fC{op:Int}{f:Nat}(h:alk oU op=some f):(op=8∧f=181)∨(op=9∧f=182)∨(op=10∧f=183)∨(op=11∧f=184)∨(op=12∧f=185)∨(op=13∧f=186)∨(op=14∧f=187)∨(op=15∧f=188)∨(op=17∧f=189)∨(op=16∧f=190)∨(op=18∧f=191):=by
 unfold oU at h;simp only[alk]at h;repeat' split at h
 all_goals first|(injection h with h;subst h;simp[*];done)|cases h
theorem zWJ{op:Int}(h:alk oU op=none):eW op=false:=by
 unfold oU at h;simp only[alk]at h;unfold eW;repeat' split at h
 all_goals first|(cases h;done)|skip
 simp;omega
theorem BV{op:Int}{f:Nat}(h:alk oU op=some f):∀args w,(callFunc f args).run Tryz.prog w=.ok (.enter f args) w:=by
 rcases fC h with⟨_,rfl⟩|⟨_,rfl⟩|⟨_,rfl⟩|⟨_,rfl⟩|⟨_,rfl⟩|⟨_,rfl⟩|⟨_,rfl⟩|⟨_,rfl⟩|⟨_,rfl⟩|⟨_,rfl⟩|⟨_,rfl⟩
 ·exact enters_of Tryz.func181 zGV rfl
 ·exact enters_of Tryz.func182 zGV rfl
 ·exact enters_of Tryz.func183 zGV rfl
 ·exact enters_of Tryz.func184 zGV rfl
 ·exact enters_of Tryz.func185 zGV rfl
 ·exact enters_of Tryz.func186 zGV rfl
 ·exact enters_of Tryz.func187 zGV rfl
 ·exact enters_of Tryz.func188 zGV rfl
 ·exact enters_of Tryz.func189 zGV rfl
 ·exact enters_of Tryz.func190 zGV rfl
 ·exact enters_of Tryz.func191 zGV rfl
theorem zLJ{op:Int}{f:Nat}(h:alk oU op=some f)(x y nn:Nat)(hx:x<256)(hy:y<256)(hn:nn<256)(q:Pr)(w:World):Calls Tryz.prog f #[.agg (opc x y nn q)] w fun e w'=>iK op x y nn q e∧Below w.heap.size w w':=by
 rcases fC h with⟨rfl,rfl⟩|⟨rfl,rfl⟩|⟨rfl,rfl⟩|⟨rfl,rfl⟩|⟨rfl,rfl⟩|⟨rfl,rfl⟩|⟨rfl,rfl⟩|⟨rfl,rfl⟩|⟨rfl,rfl⟩|⟨rfl,rfl⟩|⟨rfl,rfl⟩
 ·exact XS x y nn hx hy hn q w
 ·exact XP x y nn hx hy hn q w
 ·exact TM x y nn hx hy hn q w
 ·exact zZY x y nn hx hy hn q w
 ·exact FZ x y nn hx hy hn q w
 ·exact PA x y nn hx hy hn q w
 ·exact FJ x y nn hx hy hn q w
 ·exact FQ x y nn hx hy hn q w
 ·exact Z8 x y nn hx hy hn q w
 ·exact pS x y nn hx hy hn q w
 ·exact fU x y nn hx hy hn q w
theorem alk_is{op:Int}{f:Nat}(h:alk oU op=some f):eW op=true:=by
 rcases fC h with⟨rfl,_⟩|⟨rfl,_⟩|⟨rfl,_⟩|⟨rfl,_⟩|⟨rfl,_⟩|⟨rfl,_⟩|⟨rfl,_⟩|⟨rfl,_⟩|⟨rfl,_⟩|⟨rfl,_⟩|⟨rfl,_⟩<;>rfl
theorem zeroFn(w:World):(zeroValue 252).run Tryz.prog w=.ok .nilFunc w:=by kernel_rfl
def zHZ(L:List (Int×Nat))(op:Int):Value:=match alk L op with|some f=>afn f|none=> .nilFunc
theorem TI{P:Program}(hP:P=Tryz.prog){o:Oper}{a:Act}{K:Act→World→Prop}{Q:Exit→Act→World→Prop}{w:World}{m n:Nat}{L:List (Int×Nat)}{D:DataW Value}(H:FN m n L w D)(mx xx:Operand)(hop:o.op=Op.lookup 254 mx xx true)(hm:a.eval mx=.map (some m))(op:Int)(hx:a.eval xx=.int .i64 op)(hk:(Lit.int .i64 op).wf=true)
  (h:K (a.put o.dst (.tuple #[zHZ L op,.bool (alk L op).isSome])) w):o.wp P a w K Q:=by
 subst hP;obtain⟨v,ps,hrun,hv⟩:=H.own.look_ok uG Tryz.underlying254 (zeroFn w) (zd:=.held .nilFunc) (zp:=[]) rfl (rZ op hk);have e:v=zHZ L op:=by
  rw[H.at_]at hv;unfold zWM zHZ at*;cases hc:alk L op with
  |none=>rw[hc]at hv;simp only[kZ,kQ,DataW.held.injEq]at hv;exact hv.1
  |some f=>rw[hc]at hv;simp only[kZ,kQ,DataW.held.injEq]at hv;exact hv.1
 rw[e,H.has_]at hrun;unfold Oper.wp;simp[execOp,hop,hm,hx,hrun,Result.andThen];exact h
structure zHM(a b:Addr)(va vb:Value) where
 w:World
 ha:w.cell? a=some va
 hb:w.cell? b=some vb
theorem u8_of{r:Int}{k:Nat}(h:r%256=(k:Int)):IntKind.u8.wrap r=(k:Int):=by rw[lZ,h]
theorem zZL(v:Nat→Nat)(op:Int)(x y nn:Nat)(n addr len:Int)(q:Pr)(w:World)(hv:OkV v)(hx:x<16)(hy:y<16)(hn:nn<256)(hop:(Lit.int .i64 op).wf=true):
  Calls Tryz.prog 122 #[.agg (rg v),.agg (lB ⟨op,x,y,n,nn,addr,len⟩),.agg (prc q)] w fun e w'=>e=.returned (.tuple #[.agg (rg (bQ v ⟨op,x,y,n,nn,addr,len⟩ q)),.bool (eW op)])∧Below w.heap.size w w':=by
 have RD:=zW (fun w=>aC v op x y nn n addr len q w hv hx hy hn);have RG:=zW (fun w=>gU x hx w);have HX:=zW (zM hx (zM hy hn));have VX:=zW (zM (hv x hx) (hv y hy));have HO:=zW hop;have B0:=zW ((PY w (.cells (rg v) 43) (.cells (lB ⟨op,x,y,n,nn,addr,len⟩) 128) (.cells (prc q) 24)).alloc zGH (.cells (pc mM) 43));have V0:=zW ((((Blk.new w 43 (rg v)).alloc (.cells (lB ⟨op,x,y,n,nn,addr,len⟩) 128)).alloc (.cells (prc q) 24)).alloc (.cells (pc mM) 43));have I0:=zW (((Blk.new (w.alloc (.cells (rg v) 43)) 128 (lB ⟨op,x,y,n,nn,addr,len⟩)).alloc (.cells (prc q) 24)).alloc (.cells (pc mM) 43));have P0:=zW ((Blk.new ((w.alloc (.cells (rg v) 43)).alloc (.cells (lB ⟨op,x,y,n,nn,addr,len⟩) 128)) 24 (prc q)).alloc (.cells (pc mM) 43));have O0:=zW (Blk.new (((w.alloc (.cells (rg v) 43)).alloc (.cells (lB ⟨op,x,y,n,nn,addr,len⟩) 128)).alloc (.cells (prc q) 24)) 43 (pc mM));simp only[zT]at I0 P0 O0;have AN:=zW (fun(h:alk oU op=none)=>(show bQ v ⟨op,x,y,n,nn,addr,len⟩ q=v∧eW op=false from by
  have h1:=zWJ h;refine⟨?_,h1⟩;unfold bQ;simp[h1]))
 have AS:=zW (fun f (h:alk oU op=some f) (k:Nat) (R F:Nat) (hR:gE op (v x) (v y) (if q.sh=true then v y else v x) nn=R)=>(show(pF op (v x) (v y) (if q.sh=true then v y else v x) q.lr=none→bQ v ⟨op,x,y,n,nn,addr,len⟩ q=upd v x R)∧(pF op (v x) (v y) (if q.sh=true then v y else v x) q.lr=some F→bQ v ⟨op,x,y,n,nn,addr,len⟩ q=upd (upd v x R) 15 F)∧eW op=true from by
  have h1:=alk_is h;refine⟨fun h2=>?_,fun h2=>?_,h1⟩
  ·unfold bQ shX;simp only[h1,if_true,Int.toNat_natCast,h2,hR]
  ·unfold bQ shX;simp only[h1,if_true,Int.toNat_natCast,h2,hR]))
 have hi0:(lB ⟨op,x,y,n,nn,addr,len⟩)[0]?=some (.int .i64 op):=rfl
 have hi1:(lB ⟨op,x,y,n,nn,addr,len⟩)[1]?=some (.int .i64 (x:Int)):=rfl;have I7:(lB ⟨op,x,y,n,nn,addr,len⟩).size=7:=rfl;have P8:(prc q).size=8:=rfl;generalize bQ v ⟨op,x,y,n,nn,addr,len⟩ q=V at*;generalize lB ⟨op,x,y,n,nn,addr,len⟩=I at*;clear hop hv hx hy hn;go_enter Tryz.func122,Tryz.ntmps122;go_upto_region 0 with fail;refine zH ?_;refine lE rfl _ (.tmp 0) rfl (rg v) rfl ?_;simp only[Act.put,zQ,zZ,zJ,zT];refine lE rfl _ (.tmp 1) rfl I rfl ?_;simp only[Act.put,zQ,zZ,zJ,zT];refine lE rfl _ (.tmp 2) rfl (prc q) rfl ?_;simp only[Act.put,zQ,zZ,zJ,zT];refine qZ rfl fun K hK=>nJ zeroRg rfl (hK _ _ ?_);simp only[Act.put,zQ,zZ,zJ,zT];go_upto_region 1 with fail;show(Code.region _ _ _).wp _ _ _ ((((w.alloc (.cells (rg v) 43)).alloc (.cells I 128)).alloc (.cells (prc q) 24)).alloc (.cells (pc mM) 43));obtain⟨g,hg⟩:∃g,w.heap.size=g:=⟨_,rfl⟩;rw[hg]at V0 I0 P0 O0⊢;have GL:=zW hg;generalize (((w.alloc (.cells (rg v) 43)).alloc (.cells I 128)).alloc (.cells (prc q) 24)).alloc (.cells (pc mM) 43)=w1 at*;clear hg;have i0:=lA.cell (show w1.cell? ⟨g+1,0,none⟩=some (.int .i64 op)from(I0.out.cell 0).trans hi0) I0.out.lt;refine mT (C:=fun w'=>∃u:lA w1,w'=u.w) [([1,2],0),([],3)] [4,5,6,7,8] zGV zGV (fun _ _ d _ _ h=>by cases d<;>exact h) ⟨⟨w1.drew,(zB _ _).drew⟩,rfl⟩ ?_;intro wd hwd;have bd:=zW (show Below w1.heap.size w1 wd by rw[hwd];exact(zB _ _).drew);clear hwd;refine mD zGW zGY ?_;repeat(go_big_quiet_step (fail))
 refine zY ?_;refine mH zGM ?_;intro K hK;go_wp2_with fail;refine(pP _).mono ?_;rintro e w2 ⟨m,D,rfl,M0,b2⟩;have M:=zW M0;have b2:=zW (bd.out.trans (b2.mono bd.out.size));clear M0;refine hK _ _ ⟨⟨w2,b2.out⟩,rfl⟩ ?_;clear hK;refine mD zGW zGY ?_;refine zY ?_;refine mH zGM ?_;intro K hK;refine TI rfl M.out (.tmp 12) (.tmp 14) rfl zGM op zGM HO.out ?_;simp only[Act.put,zQ,zZ,zJ];refine hK _ _ ⟨⟨w2,b2.out⟩,rfl⟩ ?_;clear hK;have V0:=zW (V0.out.step b2.out);have I0:=zW (I0.out.step b2.out);have P0:=zW (P0.out.step b2.out);have O0:=zW (O0.out.step b2.out);have B0:=zW (B0.out.trans (b2.out.mono B0.out.size));refine vW zGW ?_;repeat(go_big_quiet_step (fail))
 refine zY ?_;clear M b2 i0 bd;obtain⟨k,hk⟩:∃k,alk oU op=k:=⟨_,rfl⟩;have HK:=zW hk;unfold zHZ;rw[hk];clear hk;cases k with
 |none=>
  simp only[Option.isSome]
  go_upto_region 3 with fail
  refine zH ?_
  refine lL xP V0.out (vE _) rfl (.tmp 3) rfl rfl ?_
  simp only[Act.put,zQ,zZ,zJ]
  refine lM xP O0.out (nF _) (vE _) (M7 _) rfl (.tmp 6) (.tmp 20) rfl rfl rfl ?_
  simp only[Act.put,zQ,zZ,zJ]
  have R:=zW (O0.out.store (rg v))
  have B:=zW (lU B0.out (by rw[GL.out];omega:w.heap.size≤g+1+1+1) (rg v))
  have AX:=zW (AN.out HK.out)
  generalize w2.setRow (g+1+1+1) (rg v)=wz at*
  go_wp2_with fail
  exact zP (mL rfl _ _ (g+1+1+1) _ _ _ _ rfl rfl R.out xP (vE _)) rfl ⟨by rw[AX.out.1,AX.out.2];rfl,B.out⟩
 |some f=>
  simp only[Option.isSome]
  go_upto_region 4 with fail
  refine zH ?_
  iterate 3 go_step
  refine lL xP V0.out (vE _) rfl (.tmp 3) rfl rfl ?_
  simp only[Act.put,zQ,zZ,zJ]
  refine lL mP I0.out I7 rfl (.tmp 4) rfl rfl ?_
  simp only[Act.put,zQ,zZ,zJ]
  refine lL aggPrA P0.out P8 rfl (.tmp 5) rfl rfl ?_
  simp only[Act.put,zQ,zZ,zJ]
  go_wp2_with fail
  refine(RD.out _).mono ?_
  rintro e w3 ⟨rfl,b⟩
  have V0:=zW (V0.out.step b)
  have I0:=zW (I0.out.step b)
  have P0:=zW (P0.out.step b)
  have O0:=zW (O0.out.step b)
  have B0:=zW (B0.out.trans (b.mono B0.out.size))
  clear b
  simp only[]
  go_at_K
  iterate 1 go_step
  refine qZ rfl fun K hK=>?_
  refine mK (g:=f) (caps:=#[]) (args:=#[.agg (opc (v x) (v y) nn q)]) (.tmp 21) #[.tmp 25] #[259] rfl (BV HK.out) rfl zGK ?_
  refine(zLJ HK.out (v x) (v y) nn VX.out.1 VX.out.2 HX.out.2.2 q _).mono ?_
  rintro e w4 ⟨⟨r,fl,h,rfl,hr,hfl,haf,hr0,hr1⟩,b⟩
  refine⟨_,rfl,hK _ _ ?_⟩
  clear hK
  have V0:=zW (V0.out.step b)
  have I0:=zW (I0.out.step b)
  have O0:=zW (O0.out.step b)
  have B0:=zW (B0.out.trans (b.mono B0.out.size))
  clear b P0
  simp only[Act.put,zQ,zZ,zJ]
  refine lO (ds:=oc r fl h) wE zeroOc rfl rfl (gY _ _ _) rfl rfl rfl (.tmp 10) (.tmp 26) rfl zGK zGK ?_
  simp only[Act.put,zQ,zZ,zJ]
  have K0:=zW (Blk.new w4 257 (oc r fl h))
  have b:=(zB w4.heap.size w4).alloc (zG _) (.cells (oc r fl h) 257)
  have GK:=zW (show g+1+1+1<w4.heap.size from O0.out.lt)
  have V0:=zW (V0.out.step b)
  have I0:=zW (I0.out.step b)
  have O0:=zW (O0.out.step b)
  have B0:=zW (B0.out.trans (b.mono B0.out.size))
  clear b
  obtain⟨go,hgo⟩:∃go,w4.heap.size=go:=⟨_,rfl⟩
  rw[hgo]at K0 GK⊢
  generalize w4.alloc (.cells (oc r fl h) 257)=w5 at*
  clear hgo
  obtain⟨R,hR⟩:∃R,gE op (v x) (v y) (if q.sh=true then v y else v x) nn=R:=⟨_,rfl⟩
  have AX:=zW (AS.out f HK.out 0 R fl hR)
  rw[hR]at hr
  have wr:=u8_of hr
  have HF:=zW haf
  have R8:=zW (show R<256 by omega)
  have F1:=zW hfl
  clear haf hR hr hr0 hr1 hfl AS AN RD
  go_upto_region 5 with fail
  have gk:=GK.out
  have i1:w5.cell? ⟨g+1,1,none⟩=some (.int .i64 (x:Int)):=(I0.out.cell 1).trans hi1
  have o0:w5.cell? ⟨go,0,none⟩=some (.int .i64 r):=K0.out.cell 0
  haveI:Nonempty (zHM ⟨g+1,1,none⟩ ⟨go,0,none⟩ (.int .i64 (x:Int)) (.int .i64 r)):=⟨⟨w5,i1,o0⟩⟩
  have k1:∀u:zHM ⟨g+1,1,none⟩ ⟨go,0,none⟩ (.int .i64 (x:Int)) (.int .i64 r),u.w.cell? ⟨g+1,1,none⟩=some (.int .i64 (x:Int)):=fun u=>u.ha
  have k2:∀u:zHM ⟨g+1,1,none⟩ ⟨go,0,none⟩ (.int .i64 (x:Int)) (.int .i64 r),u.w.cell? ⟨go,0,none⟩=some (.int .i64 r):=fun u=>u.hb
  refine mT (C:=fun w'=>∃u:zHM ⟨g+1,1,none⟩ ⟨go,0,none⟩ (.int .i64 (x:Int)) (.int .i64 r),w'=u.w) [([0,1,3,4,5],2),([6],7)] [] zGV zGV (fun _ _ d _ _ h=>by cases d<;>exact h) ⟨⟨w5.drew,i1,o0⟩,rfl⟩ ?_
  intro wd hwd
  have V0:=zW (show Blk g 43 (rg v) wd by rw[hwd];exact V0.out.drew)
  have O0:=zW (show Blk (g+1+1+1) 43 (pc mM) wd by rw[hwd];exact O0.out.drew)
  have K0:=zW (show Blk go 257 (oc r fl h) wd by rw[hwd];exact K0.out.drew)
  have B0:=zW (show Below w.heap.size w wd by rw[hwd];exact B0.out.drew)
  have j1:=zW (show wd.cell? ⟨g+1,1,none⟩=some (.int .i64 (x:Int)) by rw[hwd];exact i1)
  have jo:=zW (show wd.cell? ⟨go,0,none⟩=some (.int .i64 r) by rw[hwd];exact o0)
  clear hwd i1 o0
  refine mD zGW zGY ?_
  repeat(go_big_quiet_step (fail))
  refine zY ?_
  refine mH zGM ?_
  intro K hK
  go_wp2_with fail
  refine(RG.out _).mono ?_
  rintro e w' ⟨rfl,rfl⟩
  refine hK _ _ ⟨⟨wd,j1.out,jo.out⟩,rfl⟩ ?_
  clear hK
  have xi:(x:Int)<16:=(by have:=HX.out.1;omega)
  refine mD zGW zGY ?_
  repeat(go_big_quiet_step (fail))
  refine zY ?_
  refine mH zGM ?_
  intro K hK
  clear k1 k2
  have cx:wd.cell? ⟨g,x,none⟩=some (.int .u8 (v x:Int)):=by rw[V0.out.cell,e8 v HX.out.1]
  have fx:wd.frozen? ⟨g,x,none⟩=false:=V0.out.frozen x
  go_wp2_with fail
  have G1:=zW (show g≠g+1∧g≠go by omega)
  refine hK _ _ ⟨⟨wd.setCell ⟨g,x,none⟩ (.int .u8 (R:Int)),(qS _ ⟨g,x,none⟩ ⟨g+1,1,none⟩ _ (by intro c;injection c;omega)).trans j1.out,(qS _ ⟨g,x,none⟩ ⟨go,0,none⟩ _ (by intro c;injection c;omega)).trans jo.out⟩,rfl⟩ ?_
  clear hK
  have V0:=zW ((V0.out.put x (.int .u8 (R:Int))).eq (GC v HX.out.1 R))
  have O0:=zW (O0.out.other (g:=g) zGX x (.int .u8 (R:Int)))
  have K0:=zW (K0.out.other (g:=g) zGX x (.int .u8 (R:Int)))
  have B0:=zW (B0.out.setCell (p:=⟨g,x,none⟩) (by rw[GL.out];exact zG _) (.int .u8 (R:Int)))
  generalize wd.setCell ⟨g,x,none⟩ (.int .u8 (R:Int))=w6 at*
  refine vW zGW ?_
  refine zY ?_
  clear cx fx j1 jo wr
  have o2:w6.cell? ⟨go,2,none⟩=some (.bool h):=K0.out.cell 2
  have o1:w6.cell? ⟨go,1,none⟩=some (.int .u8 (fl:Int)):=K0.out.cell 1
  cases h
  ·have AV:=zW (AX.out.1 (HF.out.trans rfl))
   have AI:=zW AX.out.2.2
   clear AX HF
   go_upto_region 8 with fail
   refine zH ?_
   refine lL xP V0.out (vE _) rfl (.tmp 3) rfl rfl ?_
   simp only[Act.put,zQ,zZ,zJ]
   refine lM xP O0.out (nF _) (vE _) (M7 _) rfl (.tmp 6) (.tmp 39) rfl rfl rfl ?_
   simp only[Act.put,zQ,zZ,zJ]
   have RR:=zW (O0.out.store (rg (upd v x R)))
   have B:=zW (lU B0.out (by rw[GL.out];omega:w.heap.size≤g+1+1+1) (rg (upd v x R)))
   iterate 7 go_step
   exact zP (mL rfl _ _ (g+1+1+1) _ _ _ _ rfl rfl RR.out xP (vE _)) rfl ⟨by rw[AV.out,AI.out];rfl,B.out⟩
  ·have AV:=zW (AX.out.2.1 (HF.out.trans rfl))
   have AI:=zW AX.out.2.2
   clear AX HF
   have cf:w6.cell? ⟨g,15,none⟩=some (.int .u8 ((upd v x R) 15:Int)):=by rw[V0.out.cell,e8 _ zGX]
   have ff:w6.frozen? ⟨g,15,none⟩=false:=V0.out.frozen 15
   go_upto_region 8 with fail
   have V0:=zW ((V0.out.put 15 (.int .u8 (fl:Int))).eq (GC _ zGX fl))
   have O0:=zW (O0.out.other (g:=g) zGX 15 (.int .u8 (fl:Int)))
   have B0:=zW (B0.out.setCell (p:=⟨g,15,none⟩) (by rw[GL.out];exact zG _) (.int .u8 (fl:Int)))
   generalize w6.setCell ⟨g,15,none⟩ (.int .u8 (fl:Int))=w7 at*
   refine zH ?_
   refine lL xP V0.out (vE _) rfl (.tmp 3) rfl rfl ?_
   simp only[Act.put,zQ,zZ,zJ]
   refine lM xP O0.out (nF _) (vE _) (M7 _) rfl (.tmp 6) (.tmp 39) rfl rfl rfl ?_
   simp only[Act.put,zQ,zZ,zJ]
   have RR:=zW (O0.out.store (rg (upd (upd v x R) 15 fl)))
   have B:=zW (lU B0.out (by rw[GL.out];omega:w.heap.size≤g+1+1+1) (rg (upd (upd v x R) 15 fl)))
   iterate 7 go_step
   exact zP (mL rfl _ _ (g+1+1+1) _ _ _ _ rfl rfl RR.out xP (vE _)) rfl ⟨by rw[AV.out,AI.out];rfl,B.out⟩
theorem iP:zHG where
 do_:=fun v op x y nn n addr len q w hv hx hy hn hop=>zZL v op x y nn n addr len q w hv hx hy hn hop
 sk:=fun v op x y nn n addr len w hv hx hy hn=>XF v op x y nn n addr len w hv hx hy hn
 dg:=fun b w hb=>QF b w hb
end
section
open Go.RowKit Num
theorem zZU(b:Bool):16≤wid b∧wid b≤128∧16≤hei b∧hei b≤64:=by cases b<;>decide
structure Rel(S:Sc)(F:Nat→Nat→Bool):Prop where
 pl:∀i,i<4→S.P i=fwd (F i)
 res:∀i,i<4→yL (F i) (wid S.hi) (hei S.hi)
theorem zQK:fwd (fun _=>false)=fun _=>0#128:=funext fun y=>gV fun x hx=>by rw[yP _ _ _ hx,wO]
theorem zYU{S:Sc}{F:Nat→Nat→Bool}(H:Rel S F)(M:Nat):Rel (yE (fun _ _ _=>0#128) M S) (fun i=>if onB M i then fun _=>false else F i):=by
 refine⟨fun i hi=>?_,fun i hi=>?_⟩
 ·show(if onB M i=true then _ else _)=_;split
  ·rw[zQK]
  ·exact H.pl i hi
 ·show yL (if onB M i=true then _ else _) _ _;split
  ·exact bC _ _
  ·exact H.res i hi
theorem iH{S:Sc}{F:Nat→Nat→Bool}(H:Rel S F)(M:Nat)(dx dy:Int):Rel (yE (fun _ p=>m3 p dx dy (wid S.hi) (hei S.hi)) M S) (fun i=>if onB M i then sC (F i) dx dy (wid S.hi) (hei S.hi)else F i):=by
 refine⟨fun i hi=>?_,fun i hi=>?_⟩
 ·show(if onB M i=true then _ else _)=_;split
  ·rw[H.pl i hi];exact funext fun y=>(EW (F i) dx dy _ _ (zZU S.hi).2.1 (H.res i hi) y).symm
  ·exact H.pl i hi
 ·show yL (if onB M i=true then _ else _) _ _;split
  ·exact zYT _ _ _ _ _
  ·exact H.res i hi
section
variable (G:Nat→Nat) {S:Sc} {F:Nat→Nat→Bool} (M n:Nat) (big clip:Bool) (x y:Nat)
theorem CG(k:Nat)(hk:k≤4):fwd (spK G M n big clip x y (wid S.hi) (hei S.hi) k)=spZ G S M n big clip x y (nC M k).length:=by
 unfold spK;rw[zL7,ZJ M n big k hk,←fY];rfl
theorem zYS(n1:n≤16)(k:Nat):yL (spK G M n big clip x y (wid S.hi) (hei S.hi) k) (wid S.hi) (hei S.hi):=by
 obtain⟨a,b,c,d⟩:=zZU S.hi;have hr:=zYW (nth (aW G (if big then 16 else n) (if big then 2 else 1) (uZ M n big k))) (if big then 16 else n) ((if big then 2 else 1)*8) (x%wid S.hi) (y%hei S.hi) (wid S.hi) (hei S.hi) clip (by cases big<;>simp) a b (kU _ zGX) (by cases big<;>simp<;>omega) (kU _ zGX);intro t ht;have ht:px (spr _ _ _ _ _ _ _ _ (t/128)) (t%128)=true:=ht;constructor
 ·rcases jU (t%128) (wid S.hi)with h|h
  ·exact h
  ·have h2:=hr.1 (t/128) ((t%128:Nat):Int) zGX;rw[sO]at h2;rw[h2]at ht;cases ht
 ·rcases jU (t/128) (hei S.hi)with h|h
  ·exact h
  ·rw[hr.2 _ h,wO]at ht;cases ht
theorem zYA(H:Rel S F)(n1:n≤16):Rel (drZ G S M n big clip x y) (drK G F M n big clip x y (wid S.hi) (hei S.hi) 4):=by
 refine⟨fun i hi=>?_,fun i hi=>?_⟩
 ·rw[drZ_P];unfold drK;by_cases h:onB M i=true
  ·rw[zN h,zN ⟨hi,h⟩,←CG G M n big clip x y i zGX,H.pl i hi];exact funext fun r=>(zQV _ _ r).symm
  ·rw[zL h,zL (fun q=>h q.2)];exact H.pl i hi
 ·rw[drZ_hi];unfold drK;split
  ·intro t ht;have h1:=H.res i hi t;have h2:=zYS G (S:=S) M n big clip x y n1 i t;cases e:F i t
   ·simp only[e,Bool.false_xor]at ht;exact h2 ht
   ·exact h1 e
  ·exact H.res i hi
theorem zL5(H:Rel S F)(N:Nat)(hN:N=8192):coZ G S M n big clip x y=hiK G F M n big clip x y (wid S.hi) (hei S.hi) N 4:=by
 have e:∀k,k≤4→zWQ G S M n big clip x y k=hiK G F M n big clip x y (wid S.hi) (hei S.hi) N k:=by
  intro k;induction k with
  |zero=>intro _;exact(U7 G S M n big clip x y).2
  |succ k ih=>
   intro hk
   rw[hiK,←ih zGX]
   by_cases h:onB M k=true
   ·rw[zN h]
    unfold zWQ
    rw[cU M k zGX,zN h,kY,List.map_cons,List.map_nil,fD,qI,qL]
    congr 1
    show gA (S.P k) (spZ G S M n big clip x y (nC M k).length)=_
    rw[H.pl k zGX,←CG G M n big clip x y k zGX]
    subst hN
    exact DI _ _
   ·rw[zL h]
    unfold zWQ
    rw[cU M k zGX,zL h,kK]
 exact e 4 (zG _)
end
end
end Go.Proofs.YtbpniahcjbagmaaGreatDoor
