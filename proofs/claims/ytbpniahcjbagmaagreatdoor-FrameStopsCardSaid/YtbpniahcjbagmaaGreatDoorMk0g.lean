/- InsProf, LaidTab, FontFrame. -/
import Derived.Test.YtbpniahcjbagmaaGreatDoorRows
import Derived.Test.YtbpniahcjbagmaaGreatDoorMk0b
set_option maxRecDepth 400000
set_option maxHeartbeats 64000000
set_option linter.unusedVariables false
set_option linter.unusedSimpArgs false
namespace Go.Proofs.YtbpniahcjbagmaaGreatDoor
section
open Go.ChangeShapes Go.WideShapes Go.ChangeAt Go.RowKit
theorem S9{H:Type}{enc:TypeId×Value→H}{w:World}{base:Nat}{sp:Nat→Bool}{held:Bool}{r:Reach}{b0':Nat}{v:Value}{d:DataW H}{p:List MemPlace}(hv:Value.okWide Tryz.prog w r b0' 24 v)(h:DataW.Trod enc Tryz.prog w base sp held 24 v d p):
  ∃(l:Int) (b0:Bool) (b1:Bool) (b2:Bool) (b3:Bool) (b4:Bool) (b5:Bool) (b6:Bool),v=.agg #[.int .i64 l,.bool b0,.bool b1,.bool b2,.bool b3,.bool b4,.bool b5,.bool b6]∧d=.agg [.lit (.int .i64 l),.lit (.bool b0),.lit (.bool b1),.lit (.bool b2),.lit (.bool b3),.lit (.bool b4),.lit (.bool b5),.lit (.bool b6)]∧p=[]∧(Lit.int .i64 l).wf=true:=by
 have hc:Tryz.prog.cellsOf 24=8:=zLP;have hc0:Tryz.prog.cellsOf 4=1:=zLP;have hc1:Tryz.prog.cellsOf 3=1:=zLP;obtain⟨cs,rfl,hsz⟩:=okWide_struct Tryz.underlying24 hv;obtain⟨l⟩:=cs;match l,hsz.trans hc with
 |[c0,c1,c2,c3,c4,c5,c6,c7],_=>
  obtain⟨fuel,hf⟩:=h
  obtain⟨xs,n,_,hx,_,hlen,hg⟩:=DataW.trod_struct Tryz.underlying24 hf
  match xs,hlen with
  |[y0,y1,y2,y3,y4,y5,y6,y7],_=>
   have g0:=hg 0 _ rfl
   have g1:=hg 1 _ rfl
   have g2:=hg 2 _ rfl
   have g3:=hg 3 _ rfl
   have g4:=hg 4 _ rfl
   have g5:=hg 5 _ rfl
   have g6:=hg 6 _ rfl
   have g7:=hg 7 _ rfl
   simp[Value.cells,hc,hc0,hc1]at g0 g1 g2 g3 g4 g5 g6 g7
   obtain⟨l,e0,rfl,s_l⟩:=kS Tryz.underlying3 g0
   obtain⟨b0,e1,rfl⟩:=jE Tryz.underlying4 g1
   obtain⟨b1,e2,rfl⟩:=jE Tryz.underlying4 g2
   obtain⟨b2,e3,rfl⟩:=jE Tryz.underlying4 g3
   obtain⟨b3,e4,rfl⟩:=jE Tryz.underlying4 g4
   obtain⟨b4,e5,rfl⟩:=jE Tryz.underlying4 g5
   obtain⟨b5,e6,rfl⟩:=jE Tryz.underlying4 g6
   obtain⟨b6,e7,rfl⟩:=jE Tryz.underlying4 g7
   simp at e0 e1 e2 e3 e4 e5 e6 e7
   subst e0 e1 e2 e3 e4 e5 e6 e7
   simp only[j4]at hx
   exact⟨l,b0,b1,b2,b3,b4,b5,b6,rfl,by simpa using hx.1,by simpa using hx.2,s_l⟩
theorem EH{H:Type}{enc:TypeId×Value→H}{w:World}{base:Nat}{sp:Nat→Bool}{held:Bool}(l:Int)(b0:Bool)(b1:Bool)(b2:Bool)(b3:Bool)(b4:Bool)(b5:Bool)(b6:Bool)(s_l:(Lit.int .i64 l).wf=true):DataW.Trod enc Tryz.prog w base sp held 24 (.agg #[.int .i64 l,.bool b0,.bool b1,.bool b2,.bool b3,.bool b4,.bool b5,.bool b6]) (.agg [.lit (.int .i64 l),.lit (.bool b0),.lit (.bool b1),.lit (.bool b2),.lit (.bool b3),.lit (.bool b4),.lit (.bool b5),.lit (.bool b6)]) []:=by
 have hc:Tryz.prog.cellsOf 24=8:=zLP;have hc0:Tryz.prog.cellsOf 4=1:=zLP;have hc1:Tryz.prog.cellsOf 3=1:=zLP;refine⟨3,?_⟩;simp[DataW.trod,Value.cells,Tryz.underlying24,Tryz.underlying4,Tryz.underlying3,hc,hc0,hc1,s_l,List.range,List.range.loop]
def zZ1{H:Type}(L:List Int):DataW H:=.agg (L.map fun n=> .lit (.int .u8 n))
def zW4{H:Type}(Ls:List (List Int)):DataW H:=.agg (Ls.map zZ1)
section
variable {H:Type} {enc:TypeId×Value→H} {P:Program} {w:World} {base:Nat} {sp:Nat→Bool} {held:Bool}
theorem E8{t e:TypeId}{K fuel:Nat}{cs:List Value}{x:DataW H×List MemPlace}(ht:P.underlying t=some (.array K e))(he:P.underlying e=some (.int .u8))(h1:P.cellsOf e=1)
  (h:DataW.trod enc P w base sp held fuel t cs=some x) {L:List Int} (hx:x.1=zZ1 L):L.length=K∧∀j (hj:j<L.length),cs[j]?=some (.int .u8 L[j]):=by
 obtain⟨xs,m,_,rfl,_,hn,hel⟩:=DataW.trod_array ht h;have hm:xs.map (·.1)=L.map fun n=>DataW.lit (.int .u8 n):=by simpa [zZ1]using hx
 have hl:xs.length=L.length:=by have:=congrArg List.length hm;simpa using this
 refine⟨by omega,fun j hj=>?_⟩;have hjx:j<xs.length:=zLF;have h2:=hel j zLF;rw[h1,zS hjx,Nat.mul_one]at h2;obtain⟨n,e1,e2,_⟩:=DataW.trod_int he h2;have e3:(xs.map (·.1))[j]?=some (.lit (.int .u8 L[j])):=by rw[hm];simp[hj]
 rw[jQ,zS hjx,e2]at e3;simp at e3;subst e3;have e4:((cs.drop j).take 1)[0]?=some (.int .u8 L[j]):=by rw[e1];rfl
 simpa using e4
theorem oE{tt t e:TypeId}{N K fuel:Nat}{cs:List Value}{x:DataW H×List MemPlace}(htt:P.underlying tt=some (.array N t))(ht:P.underlying t=some (.array K e))(he:P.underlying e=some (.int .u8))(h1:P.cellsOf e=1)(hK:P.cellsOf t=K)
  (h:DataW.trod enc P w base sp held fuel tt cs=some x) {Ls:List (List Int)} (hx:x.1=zW4 Ls):Ls.length=N∧∀i (hi:i<Ls.length),Ls[i].length=K∧∀j (hj:j<Ls[i].length),cs[i*K+j]?=some (.int .u8 Ls[i][j]):=by
 obtain⟨xs,m,_,rfl,_,hn,hel⟩:=DataW.trod_array htt h;have hm:xs.map (·.1)=Ls.map zZ1:=by simpa [zW4]using hx
 have hl:xs.length=Ls.length:=by have:=congrArg List.length hm;simpa using this
 refine⟨by omega,fun i hi=>?_⟩;have hix:i<xs.length:=zLF;have h2:=hel i zLF;rw[hK,zS hix]at h2;have e3:(xs.map (·.1))[i]?=some (zZ1 Ls[i]):=by rw[hm];simp[hi]
 rw[jQ,zS hix]at e3;simp at e3;obtain⟨hk,hc⟩:=E8 ht he h1 h2 e3;refine⟨hk,fun j hj=>?_⟩;have h4:=hc j hj;rw[List.getElem?_take,zN zLF,jS]at h4;exact h4
end
theorem gSmall:Tryz.prog.globalNamed "cosmac/font.smallFont"=some 0:=by kernel_rfl
theorem gBig:Tryz.prog.globalNamed "cosmac/font.bigFont"=some 1:=by kernel_rfl
theorem tSmall:(Tryz.prog.globals[0]?).map (·.type)=some 173:=by kernel_rfl
theorem tBig:(Tryz.prog.globals[1]?).map (·.type)=some 176:=by kernel_rfl
def N5:List (String×DataW Unit):=[("cosmac/font.smallFont",Rows.laid_cosmac_font_smallFont),("cosmac/font.bigFont",Rows.laid_cosmac_font_bigFont)]
theorem zZU(os:Os)(args:Array Value):laidMetH Tryz.prog N5 ((World.doorLaid Tryz.prog 400 os).forCall (fun _ _=>0) ⟨#[],args,[]⟩).memory:=
 laidMetH_of_parts3 (fuel:=8) (laidMet_of_run' 8 zLP zLP) zLP zLP
theorem VW:(Rows.laid_cosmac_font_smallFont:DataW Unit)=zW4 ((List.range 16).map t9):=by kernel_rfl
theorem zJW:(Rows.laid_cosmac_font_bigFont:DataW Unit)=zW4 ((List.range 16).map YM):=by kernel_rfl
theorem zK1{W:World}(h:laidMetH Tryz.prog N5 W):xQ W:=by
 rw[MakeChecks.laidMetH_plain _ _ _ zLP]at h;obtain⟨ps,⟨g0,t0,cs0,f0,p0,q0,hg0,ht0,hv0,hd0,⟨g1,t1,cs1,f1,p1,q1,hg1,ht1,hv1,hd1,_⟩,_⟩,_,_⟩:=h;obtain rfl:=jT (gSmall.symm.trans hg0);obtain rfl:=jT (tSmall.symm.trans ht0);obtain rfl:=jT (gBig.symm.trans hg1);obtain rfl:=jT (tBig.symm.trans ht1);have k0:=(oE Tryz.underlying173 Tryz.underlying172 Tryz.underlying5 zLP zLP hd0 VW).2;have k1:=(oE Tryz.underlying176 Tryz.underlying175 Tryz.underlying5 zLP zLP hd1 zJW).2;have c0:∀j (hj:j<nG.length),W.cell? ⟨0,j,none⟩=some (.int .u8 nG[j]):=fun j hj=>by
  have hj':=hj;rw[vG]at hj';obtain⟨hk,hc⟩:=k0 (j/5) zL1;have:=hc (j%5) zLF;rw[show j/5*5+j%5=j by omega]at this;rw[World.var?_cell hg0 hv0 j,←jJ,this];congr 2
  simp only[List.getElem_map,List.getElem_range]
  rw[VN _ zLF];congr 1
  omega
 have c1:∀j (hj:j<uX.length),W.cell? ⟨1,j,none⟩=some (.int .u8 uX[j]):=fun j hj=>by
  have hj':=hj;rw[xB]at hj';obtain⟨hk,hc⟩:=k1 (j/10) zL1;have:=hc (j%10) zLF;rw[show j/10*10+j%10=j by omega]at this;rw[World.var?_cell hg1 hv1 j,←jJ,this];congr 2
  simp only[List.getElem_map,List.getElem_range]
  rw[zJL _ zLF];congr 1
  omega
 refine⟨?_,c1,c0⟩;have a0:=kV W _ (c0 0 (by rw[vG];omega));have a1:=kV W _ (c1 0 (by rw[xB];omega));simp at a0 a1;omega
end
end Go.Proofs.YtbpniahcjbagmaaGreatDoor
