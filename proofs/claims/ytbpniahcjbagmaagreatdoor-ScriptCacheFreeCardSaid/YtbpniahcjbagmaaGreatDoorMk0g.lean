/- InsProf, LaidTab, FontFrame. -/
import Derived.Test.YtbpniahcjbagmaaGreatDoorRows
import Derived.Test.YtbpniahcjbagmaaGreatDoorMk0b
set_option maxRecDepth 400000
set_option maxHeartbeats 64000000
set_option linter.unusedVariables false
set_option linter.unusedSimpArgs false
namespace Go.Proofs.YtbpniahcjbagmaaGreatDoor
section
open Go.ChangeShapes Go.WideShapes Go.ChangeAt Go.RowKit
theorem U6{H:Type}{enc:TypeId×Value→H}{w:World}{base:Nat}{sp:Nat→Bool}{held:Bool}{r:Reach}{b0':Nat}{v:Value}{d:DataW H}{p:List MemPlace}(hv:Value.okWide Tryz.prog w r b0' 24 v)(h:DataW.Trod enc Tryz.prog w base sp held 24 v d p):
  ∃(l:Int) (b0:Bool) (b1:Bool) (b2:Bool) (b3:Bool) (b4:Bool) (b5:Bool) (b6:Bool),v=.agg #[.int .i64 l,.bool b0,.bool b1,.bool b2,.bool b3,.bool b4,.bool b5,.bool b6]∧d=.agg [.lit (.int .i64 l),.lit (.bool b0),.lit (.bool b1),.lit (.bool b2),.lit (.bool b3),.lit (.bool b4),.lit (.bool b5),.lit (.bool b6)]∧p=[]∧(Lit.int .i64 l).wf=true:=by
 have hc:Tryz.prog.cellsOf 24=8:=zGV;have hc0:Tryz.prog.cellsOf 4=1:=zGV;have hc1:Tryz.prog.cellsOf 3=1:=zGV;obtain⟨cs,rfl,hsz⟩:=okWide_struct Tryz.underlying24 hv;obtain⟨l⟩:=cs;match l,hsz.trans hc with
 |[c0,c1,c2,c3,c4,c5,c6,c7],_=>
  obtain⟨fuel,hf⟩:=h
  obtain⟨xs,n,_,hx,_,hlen,hg⟩:=DataW.trod_struct Tryz.underlying24 hf
  match xs,hlen with
  |[y0,y1,y2,y3,y4,y5,y6,y7],_=>
   have g0:=hg 0 _ rfl
   have g1:=hg 1 _ rfl
   have g2:=hg 2 _ rfl
   have g3:=hg 3 _ rfl
   have g4:=hg 4 _ rfl
   have g5:=hg 5 _ rfl
   have g6:=hg 6 _ rfl
   have g7:=hg 7 _ rfl
   simp[Value.cells,hc,hc0,hc1]at g0 g1 g2 g3 g4 g5 g6 g7
   obtain⟨l,e0,rfl,s_l⟩:=kO Tryz.underlying3 g0
   obtain⟨b0,e1,rfl⟩:=jQ Tryz.underlying4 g1
   obtain⟨b1,e2,rfl⟩:=jQ Tryz.underlying4 g2
   obtain⟨b2,e3,rfl⟩:=jQ Tryz.underlying4 g3
   obtain⟨b3,e4,rfl⟩:=jQ Tryz.underlying4 g4
   obtain⟨b4,e5,rfl⟩:=jQ Tryz.underlying4 g5
   obtain⟨b5,e6,rfl⟩:=jQ Tryz.underlying4 g6
   obtain⟨b6,e7,rfl⟩:=jQ Tryz.underlying4 g7
   simp at e0 e1 e2 e3 e4 e5 e6 e7
   subst e0 e1 e2 e3 e4 e5 e6 e7
   simp only[kQ]at hx
   exact⟨l,b0,b1,b2,b3,b4,b5,b6,rfl,by simpa using hx.1,by simpa using hx.2,s_l⟩
theorem UZ{H:Type}{enc:TypeId×Value→H}{w:World}{base:Nat}{sp:Nat→Bool}{held:Bool}(l:Int)(b0:Bool)(b1:Bool)(b2:Bool)(b3:Bool)(b4:Bool)(b5:Bool)(b6:Bool)(s_l:(Lit.int .i64 l).wf=true):DataW.Trod enc Tryz.prog w base sp held 24 (.agg #[.int .i64 l,.bool b0,.bool b1,.bool b2,.bool b3,.bool b4,.bool b5,.bool b6]) (.agg [.lit (.int .i64 l),.lit (.bool b0),.lit (.bool b1),.lit (.bool b2),.lit (.bool b3),.lit (.bool b4),.lit (.bool b5),.lit (.bool b6)]) []:=by
 have hc:Tryz.prog.cellsOf 24=8:=zGV;have hc0:Tryz.prog.cellsOf 4=1:=zGV;have hc1:Tryz.prog.cellsOf 3=1:=zGV;refine⟨3,?_⟩;simp[DataW.trod,Value.cells,Tryz.underlying24,Tryz.underlying4,Tryz.underlying3,hc,hc0,hc1,s_l,List.range,List.range.loop]
def zVG{H:Type}(L:List Int):DataW H:=.agg (L.map fun n=> .lit (.int .u8 n))
def zNP{H:Type}(Ls:List (List Int)):DataW H:=.agg (Ls.map zVG)
section
variable {H:Type} {enc:TypeId×Value→H} {P:Program} {w:World} {base:Nat} {sp:Nat→Bool} {held:Bool}
theorem UP{t e:TypeId}{K fuel:Nat}{cs:List Value}{x:DataW H×List MemPlace}(ht:P.underlying t=some (.array K e))(he:P.underlying e=some (.int .u8))(h1:P.cellsOf e=1)
  (h:DataW.trod enc P w base sp held fuel t cs=some x) {L:List Int} (hx:x.1=zVG L):L.length=K∧∀j (hj:j<L.length),cs[j]?=some (.int .u8 L[j]):=by
 obtain⟨xs,m,_,rfl,_,hn,hel⟩:=DataW.trod_array ht h;have hm:xs.map (·.1)=L.map fun n=>DataW.lit (.int .u8 n):=by simpa [zVG]using hx
 have hl:xs.length=L.length:=by have:=congrArg List.length hm;simpa using this
 refine⟨by omega,fun j hj=>?_⟩;have hjx:j<xs.length:=zGX;have h2:=hel j zGX;rw[h1,zS hjx,Nat.mul_one]at h2;obtain⟨n,e1,e2,_⟩:=DataW.trod_int he h2;have e3:(xs.map (·.1))[j]?=some (.lit (.int .u8 L[j])):=by rw[hm];simp[hj]
 rw[jX,zS hjx,e2]at e3;simp at e3;subst e3;have e4:((cs.drop j).take 1)[0]?=some (.int .u8 L[j]):=by rw[e1];rfl
 simpa using e4
theorem JJ{tt t e:TypeId}{N K fuel:Nat}{cs:List Value}{x:DataW H×List MemPlace}(htt:P.underlying tt=some (.array N t))(ht:P.underlying t=some (.array K e))(he:P.underlying e=some (.int .u8))(h1:P.cellsOf e=1)(hK:P.cellsOf t=K)
  (h:DataW.trod enc P w base sp held fuel tt cs=some x) {Ls:List (List Int)} (hx:x.1=zNP Ls):Ls.length=N∧∀i (hi:i<Ls.length),Ls[i].length=K∧∀j (hj:j<Ls[i].length),cs[i*K+j]?=some (.int .u8 Ls[i][j]):=by
 obtain⟨xs,m,_,rfl,_,hn,hel⟩:=DataW.trod_array htt h;have hm:xs.map (·.1)=Ls.map zVG:=by simpa [zNP]using hx
 have hl:xs.length=Ls.length:=by have:=congrArg List.length hm;simpa using this
 refine⟨by omega,fun i hi=>?_⟩;have hix:i<xs.length:=zGX;have h2:=hel i zGX;rw[hK,zS hix]at h2;have e3:(xs.map (·.1))[i]?=some (zVG Ls[i]):=by rw[hm];simp[hi]
 rw[jX,zS hix]at e3;simp at e3;obtain⟨hk,hc⟩:=UP ht he h1 h2 e3;refine⟨hk,fun j hj=>?_⟩;have h4:=hc j hj;rw[List.getElem?_take,zN zGX,j5]at h4;exact h4
end
theorem gSmall:Tryz.prog.globalNamed "cosmac/font.smallFont"=some 0:=by kernel_rfl
theorem gBig:Tryz.prog.globalNamed "cosmac/font.bigFont"=some 1:=by kernel_rfl
theorem tSmall:(Tryz.prog.globals[0]?).map (·.type)=some 173:=by kernel_rfl
theorem tBig:(Tryz.prog.globals[1]?).map (·.type)=some 176:=by kernel_rfl
def tK:List (String×DataW Unit):=[("cosmac/font.smallFont",Rows.laid_cosmac_font_smallFont),("cosmac/font.bigFont",Rows.laid_cosmac_font_bigFont)]
theorem pG(os:Os)(args:Array Value):laidMetH Tryz.prog tK ((World.doorLaid Tryz.prog 400 os).forCall (fun _ _=>0) ⟨#[],args,[]⟩).memory:=
 laidMetH_of_parts3 (fuel:=8) (laidMet_of_run' 8 zGV zGV) zGV zGV
theorem H5:(Rows.laid_cosmac_font_smallFont:DataW Unit)=zNP ((List.range 16).map bX):=by kernel_rfl
theorem zV7:(Rows.laid_cosmac_font_bigFont:DataW Unit)=zNP ((List.range 16).map TJ):=by kernel_rfl
theorem iD{W:World}(h:laidMetH Tryz.prog tK W):cQ W:=by
 rw[MakeChecks.laidMetH_plain _ _ _ zGV]at h;obtain⟨ps,⟨g0,t0,cs0,f0,p0,q0,hg0,ht0,hv0,hd0,⟨g1,t1,cs1,f1,p1,q1,hg1,ht1,hv1,hd1,_⟩,_⟩,_,_⟩:=h;obtain rfl:=jZ (gSmall.symm.trans hg0);obtain rfl:=jZ (tSmall.symm.trans ht0);obtain rfl:=jZ (gBig.symm.trans hg1);obtain rfl:=jZ (tBig.symm.trans ht1);have k0:=(JJ Tryz.underlying173 Tryz.underlying172 Tryz.underlying5 zGV zGV hd0 H5).2;have k1:=(JJ Tryz.underlying176 Tryz.underlying175 Tryz.underlying5 zGV zGV hd1 zV7).2;have c0:∀j (hj:j<vQ.length),W.cell? ⟨0,j,none⟩=some (.int .u8 vQ[j]):=fun j hj=>by
  have hj':=hj;rw[cW]at hj';obtain⟨hk,hc⟩:=k0 (j/5) zGH;have:=hc (j%5) zGX;rw[show j/5*5+j%5=j by omega]at this;rw[World.var?_cell hg0 hv0 j,←qO,this];congr 2
  simp only[List.getElem_map,List.getElem_range]
  rw[H7 _ zGX];congr 1
  omega
 have c1:∀j (hj:j<wK.length),W.cell? ⟨1,j,none⟩=some (.int .u8 wK[j]):=fun j hj=>by
  have hj':=hj;rw[yY]at hj';obtain⟨hk,hc⟩:=k1 (j/10) zGH;have:=hc (j%10) zGX;rw[show j/10*10+j%10=j by omega]at this;rw[World.var?_cell hg1 hv1 j,←qO,this];congr 2
  simp only[List.getElem_map,List.getElem_range]
  rw[zV9 _ zGX];congr 1
  omega
 refine⟨?_,c1,c0⟩;have a0:=jA W _ (c0 0 (by rw[cW];omega));have a1:=jA W _ (c1 0 (by rw[yY];omega));simp at a0 a1;omega
end
end Go.Proofs.YtbpniahcjbagmaaGreatDoor
