/- CpuM8, CpuMA, CpuMB. -/
import Derived.Test.YtcjldabaekbdlaaGreatDoorMCpuM5
import Derived.Test.YtcjldabaekbdlaaGreatDoorMCpuM6
set_option maxRecDepth 400000
set_option maxHeartbeats 64000000
set_option linter.unusedVariables false
set_option linter.unusedSimpArgs false
namespace Go.Proofs.YtcjldabaekbdlaaGreatDoor
section
open Go.RowKit Num Dec Cpu Go.Maps
theorem XL(M n k:Nat):xJ M n true k=xJ M 0 true k:=by
 induction k with
 |zero=>rfl
 |succ k ih=>unfold xJ;rw[ih];rfl
theorem gE(a:AS)(ln:Int)(t:Bool)(lv:Int):{a with pc:=skP a ((a.pc+ln)%65536) t lv}=cN (nxA a ln) t lv:=by
 unfold skP cN;split<;>rfl
theorem uR(a:AS)(op:Int)(x y n:Nat)(q:Pr)(h0:op≠0)(h2:op≠2)(h4:op≠4):caA a op x y n q=chk a.i (spN a.msk op x y n:Nat) q.fa:=by
 unfold caA caN chk;rw[zL h0,zL (fun c=>h4 c.1),zL (fun c=>h2 c.1)]
theorem dM(a:AS)(op:Int)(x y n:Nat)(q:Pr)(h0:op≠0)(h2:op≠2)(h4:op≠4)(hs:spN a.msk op x y n=0)(hi:a.i≤65535):caA a op x y n q=0:=by
 rw[uR a op x y n q h0 h2 h4,hs];unfold chk;rw[zL (fun c=>by have:=c.2;simp at this;omega)]
def zGE(N base lg b m g rb:Nat)(v:Value)(a:AS)(op:Int)(x y n nn:Nat)(ad ln:Int)(q:Pr)(w:World)(e:Ending)(w':World):Prop:=
 (caA a op x y n q=0∧∃a2 pc2,Did base (lg+1) b m g rb v ⟨op,x,y,n,nn,ad,ln⟩ q w a2 pc2 (efA a op x y n q) e w'∧{a2 with pc:=pc2}=stA N a op x y n nn ad ln q)∨(caA a op x y n q≠0∧Z8 (caA a op x y n q) w e w')
theorem Did.more{base lg b m g rb:Nat}{v:Value}{i:Ins}{q:Pr}{w:World}{a:AS}{pc:Int}{f:Ef}{e:Ending}{w':World}(h:Did base lg b m g rb v i q w a pc f e w'):Did base (lg+1) b m g rb v i q w a pc f e w':=⟨h.1,h.2.imp fun _ d=>d.more (qC _)⟩
section
variable {base lg b m g rb:Nat} {v:Value} {a:AS} {op:Int} {x y n nn:Nat} {ad ln:Int} {q:Pr} {N:Nat} {e:Ending} {w':World} {w:World}
theorem xQ{a2:AS}{pc2:Int}{f2:Ef}(hc:caA a op x y n q=0)(h:Did base (lg+1) b m g rb v ⟨op,x,y,n,nn,ad,ln⟩ q w a2 pc2 f2 e w')(hf:f2=(if op=38 then⟨0,true,false,false⟩else⟨0,false,op==27,(op==23||op==41)&&(q.dw&& !a.hi)⟩))(hs:{a2 with pc:=pc2}=(if op=38 then a else stB N (nxA a ln) op x y n nn ad ln q)):zGE N base lg b m g rb v a op x y n nn ad ln q w e w':=
 .inl ⟨hc,a2,pc2,by unfold efA;rw[zG hc,←hf];exact h,by unfold stA;rw[zG hc];exact hs⟩
theorem tF{c:Int}(hc:caA a op x y n q=c)(h0:c≠0)(h:Z8 c w e w'):zGE N base lg b m g rb v a op x y n nn ad ln q w e w':=.inr ⟨by rw[hc];exact h0,by rw[hc];exact h⟩
end
def Found(N base lg b m g rb:Nat)(v:Value)(a:AS)(op:Int)(x y n nn:Nat)(ad ln:Int)(q:Pr)(gs gb:Nat)(w:World):Prop:=
 ∃f caps args,vlk (cW gs gb) op=some (.func (.func f) #[] caps)∧ #[.pointer (some ⟨rb,0,none⟩)]++caps=args∧(∀args w,(callFunc f args).run Tryz.prog w=.ok (.enter f args) w)∧Calls Tryz.prog f args w (zGE N base lg b m g rb v a op x y n nn ad ln q w)
section
variable {base lg b m g rb:Nat} {v:Value} {a:AS} {op:Int} {x y n nn:Nat} {ad ln:Int} {q:Pr} {N:Nat} {gs gb:Nat} {w:World}
abbrev FT(base lg b m g rb:Nat)(v:Value)(a:AS)(x y n nn:Nat)(ad ln:Int)(q:Pr)(N gs gb:Nat)(w:World)(op:Int):Prop:=∀(X:XR base lg b m g rb v a ⟨op,x,y,n,nn,ad,ln⟩ q ((a.pc+ln)%65536) ⟨0,false,false,false⟩ w) (hN:N=8192) (O:OkB a) (hx:x<16) (hy:y<16) (hn:n<16) (hnn:nn<256) (ha:0≤ad∧ad≤65535) (hb:base≤w.heap.size) (hg:lg≤950) (SG:Blk gs 146 #[.func (.func 127) #[] #[]] w) (BG:Blk gb 146 #[.func (.func 128) #[] #[]] w),Found N base lg b m g rb v a op x y n nn ad ln q gs gb w
theorem uF{a2:AS}{pc2:Int}(O:OkB a){e:Ending}{w':World}(h:Did base lg b m g rb v ⟨op,x,y,n,nn,ad,ln⟩ q w a2 pc2 ⟨0,false,op==27,(op==23||op==41)&&(q.dw&& !a.hi)⟩ e w')(h0:op≠0:=by decide)(h2:op≠2:=by decide)(h4:op≠4:=by decide)(h38:op≠38:=by decide)(hz:spN a.msk op x y n=0:=by rfl)(hs:{a2 with pc:=pc2}=stB N (nxA a ln) op x y n nn ad ln q:=by rfl):zGE N base lg b m g rb v a op x y n nn ad ln q w e w':=
 xQ (dM a op x y n q h0 h2 h4 hz O.o.i.2) h.more (by rw[zL h38]) (by rw[zL h38];exact hs)
theorem found1:FT base lg b m g rb v a x y n nn ad ln q N gs gb w 1:=fun X hN O hx hy hn hnn ha hb hg SG BG=>by
 refine⟨134,#[],#[.pointer (some ⟨rb,0,none⟩)],by unfold cW;rfl,rfl,enters_of Tryz.func134 zBM rfl,?_⟩;exact(zHO X O.o).mono fun e w' h=>uF O h
theorem found2:FT base lg b m g rb v a x y n nn ad ln q N gs gb w 2:=fun X hN O hx hy hn hnn ha hb hg SG BG=>by
 refine⟨121,#[],#[.pointer (some ⟨rb,0,none⟩)],by unfold cW;rfl,rfl,enters_of Tryz.func121 zBM rfl,?_⟩;rcases List.eq_nil_or_concat a.sk with hc|⟨L,t,hc⟩
 ·exact(BV X hc).mono fun e w' h=>tF (by unfold caA caN;rw[zL zBH,zL (fun c=>absurd c.1 zBH),zG ⟨rfl,by rw[hc];rfl⟩]) zBH h
 ·have hc:a.sk=L++[t]:=by simpa using hc
  have hl:L.length<16:=by have h:=O.o.sk;rw[hc,jB]at h;simp at h;omega
  exact(zWD X L t hc hl).mono fun e w' h=>xQ (by unfold caA caN;rw[zL zBH,zL (fun c=>absurd c.1 zBH),zL (fun c=>by have h1:=c.2;rw[hc]at h1;simp at h1),zL (fun c=>by have h1:=c.2;have h2:=O.o.i.2;have h3:spN a.msk 2 x y n=0:=rfl;rw[h3]at h1;simp at h1;omega)]) h.more rfl (by rw[zL zBH];show _=({nxA a ln with sk:=a.sk.dropLast,pc:=a.sk.getLastD 0}:AS);rw[hc];simp[nxA])
theorem found3:FT base lg b m g rb v a x y n nn ad ln q N gs gb w 3:=fun X hN O hx hy hn hnn ha hb hg SG BG=>by
 refine⟨118,#[],#[.pointer (some ⟨rb,0,none⟩)],by unfold cW;rfl,rfl,enters_of Tryz.func118 zBM rfl,?_⟩;exact(jump19 X).mono fun e w' h=>uF O h
theorem found4:FT base lg b m g rb v a x y n nn ad ln q N gs gb w 4:=fun X hN O hx hy hn hnn ha hb hg SG BG=>by
 refine⟨120,#[],#[.pointer (some ⟨rb,0,none⟩)],by unfold cW;rfl,rfl,enters_of Tryz.func120 zBM rfl,?_⟩;by_cases hc:a.sk.length<16
 ·exact(call19 X hc).mono fun e w' h=>xQ (by unfold caA caN;rw[zL zBH,zL (fun c=>by omega),zL (fun c=>absurd c.1 zBH),zL (fun c=>by have h1:=c.2;have h2:=O.o.i.2;have h3:spN a.msk 4 x y n=0:=rfl;rw[h3]at h1;simp at h1;omega)]) h.more rfl (rfl)
 ·exact(zJ8 X (by have:=O.o.sk;omega)).mono fun e w' h=>tF (by unfold caA caN;rw[zL zBH,zG ⟨rfl,by have:=O.o.sk;omega⟩]) zBH h
theorem found5:FT base lg b m g rb v a x y n nn ad ln q N gs gb w 5:=fun X hN O hx hy hn hnn ha hb hg SG BG=>by
 refine⟨116,#[],#[.pointer (some ⟨rb,0,none⟩)],by unfold cW;rfl,rfl,enters_of Tryz.func116 zBM rfl,?_⟩;exact(fO X O.o zBY hx hy hnn).mono fun e w' h=>xQ (dM a 5 x y n q zBH zBH zBH rfl O.o.i.2) h.more rfl (gE a ln _ q.lv)
theorem found6:FT base lg b m g rb v a x y n nn ad ln q N gs gb w 6:=fun X hN O hx hy hn hnn ha hb hg SG BG=>by
 refine⟨116,#[],#[.pointer (some ⟨rb,0,none⟩)],by unfold cW;rfl,rfl,enters_of Tryz.func116 zBM rfl,?_⟩;exact(fO X O.o zBY hx hy hnn).mono fun e w' h=>xQ (dM a 6 x y n q zBH zBH zBH rfl O.o.i.2) h.more rfl (gE a ln _ q.lv)
theorem found7:FT base lg b m g rb v a x y n nn ad ln q N gs gb w 7:=fun X hN O hx hy hn hnn ha hb hg SG BG=>by
 refine⟨116,#[],#[.pointer (some ⟨rb,0,none⟩)],by unfold cW;rfl,rfl,enters_of Tryz.func116 zBM rfl,?_⟩;exact(fO X O.o zBY hx hy hnn).mono fun e w' h=>xQ (dM a 7 x y n q zBH zBH zBH rfl O.o.i.2) h.more rfl (gE a ln _ q.lv)
theorem found8:FT base lg b m g rb v a x y n nn ad ln q N gs gb w 8:=fun X hN O hx hy hn hnn ha hb hg SG BG=>by
 exact zT7
theorem found9:FT base lg b m g rb v a x y n nn ad ln q N gs gb w 9:=fun X hN O hx hy hn hnn ha hb hg SG BG=>by
 exact zT7
theorem zHN:FT base lg b m g rb v a x y n nn ad ln q N gs gb w 10:=fun X hN O hx hy hn hnn ha hb hg SG BG=>by
 exact zT7
theorem zHM:FT base lg b m g rb v a x y n nn ad ln q N gs gb w 11:=fun X hN O hx hy hn hnn ha hb hg SG BG=>by
 exact zT7
theorem zHL:FT base lg b m g rb v a x y n nn ad ln q N gs gb w 12:=fun X hN O hx hy hn hnn ha hb hg SG BG=>by
 exact zT7
theorem zHY:FT base lg b m g rb v a x y n nn ad ln q N gs gb w 13:=fun X hN O hx hy hn hnn ha hb hg SG BG=>by
 exact zT7
theorem zHW:FT base lg b m g rb v a x y n nn ad ln q N gs gb w 14:=fun X hN O hx hy hn hnn ha hb hg SG BG=>by
 exact zT7
theorem zHV:FT base lg b m g rb v a x y n nn ad ln q N gs gb w 15:=fun X hN O hx hy hn hnn ha hb hg SG BG=>by
 exact zT7
theorem zHK:FT base lg b m g rb v a x y n nn ad ln q N gs gb w 16:=fun X hN O hx hy hn hnn ha hb hg SG BG=>by
 exact zT7
theorem zHX:FT base lg b m g rb v a x y n nn ad ln q N gs gb w 17:=fun X hN O hx hy hn hnn ha hb hg SG BG=>by
 exact zT7
theorem zHJ:FT base lg b m g rb v a x y n nn ad ln q N gs gb w 18:=fun X hN O hx hy hn hnn ha hb hg SG BG=>by
 exact zT7
theorem zHZ:FT base lg b m g rb v a x y n nn ad ln q N gs gb w 19:=fun X hN O hx hy hn hnn ha hb hg SG BG=>by
 refine⟨116,#[],#[.pointer (some ⟨rb,0,none⟩)],by unfold cW;rfl,rfl,enters_of Tryz.func116 zBM rfl,?_⟩;exact(fO X O.o zBY hx hy hnn).mono fun e w' h=>xQ (dM a 19 x y n q zBH zBH zBH rfl O.o.i.2) h.more rfl (gE a ln _ q.lv)
theorem zHQ:FT base lg b m g rb v a x y n nn ad ln q N gs gb w 20:=fun X hN O hx hy hn hnn ha hb hg SG BG=>by
 exact zFM
theorem zN9:FT base lg b m g rb v a x y n nn ad ln q N gs gb w 21:=fun X hN O hx hy hn hnn ha hb hg SG BG=>by
 refine⟨119,#[],#[.pointer (some ⟨rb,0,none⟩)],by unfold cW;rfl,rfl,enters_of Tryz.func119 zBM rfl,?_⟩;exact(zJX X O.o hx ha).mono fun e w' h=>uF O h
theorem zN8:FT base lg b m g rb v a x y n nn ad ln q N gs gb w 22:=fun X hN O hx hy hn hnn ha hb hg SG BG=>by
 refine⟨139,#[],#[.pointer (some ⟨rb,0,none⟩)],by unfold cW;rfl,rfl,enters_of Tryz.func139 zBM rfl,?_⟩;exact(zVV X O.o hx hnn).mono fun e w' h=>uF O h
theorem zN7:FT base lg b m g rb v a x y n nn ad ln q N gs gb w 23:=fun X hN O hx hy hn hnn ha hb hg SG BG=>by
 refine⟨136,#[],#[.pointer (some ⟨rb,0,none⟩)],by unfold cW;rfl,rfl,enters_of Tryz.func136 zBM rfl,?_⟩;by_cases hc:chk a.i (xJ a.msk n ((23:Int)==41) 4:Nat) q.fa=0
 ·exact(zW1 X N hN O.o hx hy hn hc).mono fun e w' h=>xQ ((uR a 23 x y n q zBH zBH zBH).trans (hc)) h.more rfl (rfl)
 ·exact(XA X O.o hx hy hn hc).mono fun e w' h=>tF ((uR a 23 x y n q zBH zBH zBH).trans (dT (hc))) zBH h
theorem zN6:FT base lg b m g rb v a x y n nn ad ln q N gs gb w 24:=fun X hN O hx hy hn hnn ha hb hg SG BG=>by
 refine⟨117,#[],#[.pointer (some ⟨rb,0,none⟩)],by unfold cW;rfl,rfl,enters_of Tryz.func117 zBM rfl,?_⟩;have e0:(dn a.ks ((a.v x%16:Nat):Int)==((24:Int)==24))=dn a.ks ((a.v x%16:Nat):Int):=by cases dn a.ks ((a.v x%16:Nat):Int)<;>rfl
 exact(NA X O.o zBY hx).mono fun e w' h=>xQ (dM a 24 x y n q zBH zBH zBH rfl O.o.i.2) h.more rfl (by rw[e0];exact gE a ln _ q.lv)
theorem zN5:FT base lg b m g rb v a x y n nn ad ln q N gs gb w 25:=fun X hN O hx hy hn hnn ha hb hg SG BG=>by
 refine⟨117,#[],#[.pointer (some ⟨rb,0,none⟩)],by unfold cW;rfl,rfl,enters_of Tryz.func117 zBM rfl,?_⟩;have e0:(dn a.ks ((a.v x%16:Nat):Int)==((25:Int)==24))=!dn a.ks ((a.v x%16:Nat):Int):=by cases dn a.ks ((a.v x%16:Nat):Int)<;>rfl
 exact(NA X O.o zBY hx).mono fun e w' h=>xQ (dM a 25 x y n q zBH zBH zBH rfl O.o.i.2) h.more rfl (by rw[e0];exact gE a ln _ q.lv)
theorem zN4:FT base lg b m g rb v a x y n nn ad ln q N gs gb w 26:=fun X hN O hx hy hn hnn ha hb hg SG BG=>by
 refine⟨142,#[],#[.pointer (some ⟨rb,0,none⟩)],by unfold cW;rfl,rfl,enters_of Tryz.func142 zBM rfl,?_⟩;exact(UZ X hx).mono fun e w' h=>uF O h
theorem zN3:FT base lg b m g rb v a x y n nn ad ln q N gs gb w 27:=fun X hN O hx hy hn hnn ha hb hg SG BG=>by
 refine⟨123,#[],#[.pointer (some ⟨rb,0,none⟩)],by unfold cW;rfl,rfl,enters_of Tryz.func123 zBM rfl,?_⟩;exact(zQ9 X).mono fun e w' h=>uF O h
theorem zN2:FT base lg b m g rb v a x y n nn ad ln q N gs gb w 28:=fun X hN O hx hy hn hnn ha hb hg SG BG=>by
 refine⟨143,#[],#[.pointer (some ⟨rb,0,none⟩)],by unfold cW;rfl,rfl,enters_of Tryz.func143 zBM rfl,?_⟩;exact(AA X hx).mono fun e w' h=>uF O h
theorem zN1:FT base lg b m g rb v a x y n nn ad ln q N gs gb w 29:=fun X hN O hx hy hn hnn ha hb hg SG BG=>by
 refine⟨144,#[],#[.pointer (some ⟨rb,0,none⟩)],by unfold cW;rfl,rfl,enters_of Tryz.func144 zBM rfl,?_⟩;exact(AH X hx).mono fun e w' h=>uF O h
theorem zN0:FT base lg b m g rb v a x y n nn ad ln q N gs gb w 30:=fun X hN O hx hy hn hnn ha hb hg SG BG=>by
 refine⟨125,#[],#[.pointer (some ⟨rb,0,none⟩)],by unfold cW;rfl,rfl,enters_of Tryz.func125 zBM rfl,?_⟩;exact(addI19 X O.o hx).mono fun e w' h=>uF O h
theorem zNO:FT base lg b m g rb v a x y n nn ad ln q N gs gb w 31:=fun X hN O hx hy hn hnn ha hb hg SG BG=>by
 refine⟨192,#[.pointer (some ⟨gs,0,none⟩)],#[.pointer (some ⟨rb,0,none⟩),.pointer (some ⟨gs,0,none⟩)],by unfold cW;rfl,rfl,enters_of Tryz.func192 zBM rfl,?_⟩;exact(zWF X hx O.o _ SG).mono fun e w' h=>uF O h
theorem zNI:FT base lg b m g rb v a x y n nn ad ln q N gs gb w 32:=fun X hN O hx hy hn hnn ha hb hg SG BG=>by
 refine⟨129,#[],#[.pointer (some ⟨rb,0,none⟩)],by unfold cW;rfl,rfl,enters_of Tryz.func129 zBM rfl,?_⟩;by_cases hc:chk a.i 3 q.fa=0
 ·exact(zJF X O.o hx hb hg hc).mono fun e w' h=>xQ ((uR a 32 x y n q zBH zBH zBH).trans (hc)) h rfl (rfl)
 ·exact(WQ X O.o hx hc).mono fun e w' h=>tF ((uR a 32 x y n q zBH zBH zBH).trans (dT (hc))) zBH h
theorem zNU:FT base lg b m g rb v a x y n nn ad ln q N gs gb w 33:=fun X hN O hx hy hn hnn ha hb hg SG BG=>by
 refine⟨130,#[],#[.pointer (some ⟨rb,0,none⟩)],by unfold cW;rfl,rfl,enters_of Tryz.func130 zBM rfl,?_⟩;have hk:∀t:Bool,({(if t=true then{a with M:=put a.M a.i (vN a.v (x+1))}else{a with M:=put a.M a.i (vN a.v (x+1)),i:=(a.i+((x+1:Nat):Int))%65536}:AS)with pc:=(a.pc+ln)%65536}:AS)=xP (nxA a ln) 33 x y (spN a.msk 33 x y n) t:=fun t=>by cases t<;>rfl
 by_cases hc:chk a.i (x+1:Nat) q.fa=0
 ·exact(zLT X O.o hx hb hg hc).mono fun e w' h=>xQ ((uR a 33 x y n q zBH zBH zBH).trans (hc)) h rfl (hk q.ki)
 ·exact(F4 X O.o hx hc).mono fun e w' h=>tF ((uR a 33 x y n q zBH zBH zBH).trans (dT (hc))) zBH h
theorem zNA:FT base lg b m g rb v a x y n nn ad ln q N gs gb w 34:=fun X hN O hx hy hn hnn ha hb hg SG BG=>by
 refine⟨131,#[],#[.pointer (some ⟨rb,0,none⟩)],by unfold cW;rfl,rfl,enters_of Tryz.func131 zBM rfl,?_⟩;have hk:∀t:Bool,({(if t=true then{a with v:=ldN a.v (upL 0 (x+1)) (byC a.M a.i) (x+1)}else{a with v:=ldN a.v (upL 0 (x+1)) (byC a.M a.i) (x+1),i:=(a.i+((x+1:Nat):Int))%65536}:AS)with pc:=(a.pc+ln)%65536}:AS)=xP (nxA a ln) 34 x y (spN a.msk 34 x y n) t:=fun t=>by cases t<;>rfl
 by_cases hc:chk a.i (x+1:Nat) q.fa=0
 ·exact(load19 X O.o hx hc).mono fun e w' h=>xQ ((uR a 34 x y n q zBH zBH zBH).trans (hc)) h.more rfl (hk q.ki)
 ·exact(zJZ X O.o hx hc).mono fun e w' h=>tF ((uR a 34 x y n q zBH zBH zBH).trans (dT (hc))) zBH h
theorem zNC:FT base lg b m g rb v a x y n nn ad ln q N gs gb w 35:=fun X hN O hx hy hn hnn ha hb hg SG BG=>by
 refine⟨138,#[],#[.pointer (some ⟨rb,0,none⟩)],by unfold cW;rfl,rfl,enters_of Tryz.func138 zBM rfl,?_⟩;exact(zZL X O.o hn rfl).mono fun e w' h=>uF O h
theorem zNE:FT base lg b m g rb v a x y n nn ad ln q N gs gb w 36:=fun X hN O hx hy hn hnn ha hb hg SG BG=>by
 refine⟨138,#[],#[.pointer (some ⟨rb,0,none⟩)],by unfold cW;rfl,rfl,enters_of Tryz.func138 zBM rfl,?_⟩;exact(zZW X O.o hn rfl).mono fun e w' h=>uF O h
theorem zNP:FT base lg b m g rb v a x y n nn ad ln q N gs gb w 37:=fun X hN O hx hy hn hnn ha hb hg SG BG=>by
 refine⟨138,#[],#[.pointer (some ⟨rb,0,none⟩)],by unfold cW;rfl,rfl,enters_of Tryz.func138 zBM rfl,?_⟩;exact(zZY X O.o hn rfl).mono fun e w' h=>uF O h
theorem zNS:FT base lg b m g rb v a x y n nn ad ln q N gs gb w 38:=fun X hN O hx hy hn hnn ha hb hg SG BG=>by
 refine⟨122,#[],#[.pointer (some ⟨rb,0,none⟩)],by unfold cW;rfl,rfl,enters_of Tryz.func122 zBM rfl,?_⟩;exact(exit19 X).mono fun e w' h=>xQ (dM a 38 x y n q zBH zBH zBH rfl O.o.i.2) h.more rfl (rfl)
theorem zNF:FT base lg b m g rb v a x y n nn ad ln q N gs gb w 39:=fun X hN O hx hy hn hnn ha hb hg SG BG=>by
 exact zFN
theorem zND:FT base lg b m g rb v a x y n nn ad ln q N gs gb w 40:=fun X hN O hx hy hn hnn ha hb hg SG BG=>by
 exact zFN
theorem zNT:FT base lg b m g rb v a x y n nn ad ln q N gs gb w 41:=fun X hN O hx hy hn hnn ha hb hg SG BG=>by
 refine⟨136,#[],#[.pointer (some ⟨rb,0,none⟩)],by unfold cW;rfl,rfl,enters_of Tryz.func136 zBM rfl,?_⟩;by_cases hc:chk a.i (xJ a.msk n ((41:Int)==41) 4:Nat) q.fa=0
 ·exact(zW1 X N hN O.o hx hy hn hc).mono fun e w' h=>xQ ((uR a 41 x y n q zBH zBH zBH).trans ((show chk a.i (spN a.msk 41 x y n:Nat) q.fa=chk a.i (xJ a.msk n ((41:Int)==41) 4:Nat) q.fa from by show chk a.i (xJ a.msk 0 true 4:Nat) q.fa=chk a.i (xJ a.msk n true 4:Nat) q.fa;rw[XL a.msk n 4]).trans (hc))) h.more rfl (rfl)
 ·exact(XA X O.o hx hy hn hc).mono fun e w' h=>tF ((uR a 41 x y n q zBH zBH zBH).trans ((show chk a.i (spN a.msk 41 x y n:Nat) q.fa=chk a.i (xJ a.msk n ((41:Int)==41) 4:Nat) q.fa from by show chk a.i (xJ a.msk 0 true 4:Nat) q.fa=chk a.i (xJ a.msk n true 4:Nat) q.fa;rw[XL a.msk n 4]).trans (dT hc))) zBH h
theorem zNR:FT base lg b m g rb v a x y n nn ad ln q N gs gb w 42:=fun X hN O hx hy hn hnn ha hb hg SG BG=>by
 refine⟨192,#[.pointer (some ⟨gb,0,none⟩)],#[.pointer (some ⟨rb,0,none⟩),.pointer (some ⟨gb,0,none⟩)],by unfold cW;rfl,rfl,enters_of Tryz.func192 zBM rfl,?_⟩;exact(zWS X hx O.o _ BG).mono fun e w' h=>uF O h
theorem zNB:FT base lg b m g rb v a x y n nn ad ln q N gs gb w 43:=fun X hN O hx hy hn hnn ha hb hg SG BG=>by
 refine⟨140,#[],#[.pointer (some ⟨rb,0,none⟩)],by unfold cW;rfl,rfl,enters_of Tryz.func140 zBM rfl,?_⟩;exact(TR X hx).mono fun e w' h=>uF O h
theorem zNG:FT base lg b m g rb v a x y n nn ad ln q N gs gb w 44:=fun X hN O hx hy hn hnn ha hb hg SG BG=>by
 refine⟨141,#[],#[.pointer (some ⟨rb,0,none⟩)],by unfold cW;rfl,rfl,enters_of Tryz.func141 zBM rfl,?_⟩;exact(GF X O.o hx).mono fun e w' h=>uF O h
theorem zNH:FT base lg b m g rb v a x y n nn ad ln q N gs gb w 45:=fun X hN O hx hy hn hnn ha hb hg SG BG=>by
 refine⟨138,#[],#[.pointer (some ⟨rb,0,none⟩)],by unfold cW;rfl,rfl,enters_of Tryz.func138 zBM rfl,?_⟩;exact(zZV X O.o hn rfl).mono fun e w' h=>uF O h
theorem zNN:FT base lg b m g rb v a x y n nn ad ln q N gs gb w 46:=fun X hN O hx hy hn hnn ha hb hg SG BG=>by
 refine⟨132,#[],#[.pointer (some ⟨rb,0,none⟩)],by unfold cW;rfl,rfl,enters_of Tryz.func132 zBM rfl,?_⟩;by_cases hc:chk a.i (vD x y:Nat) q.fa=0
 ·exact(YC X O.o hx hy hb hg hc).mono fun e w' h=>xQ ((uR a 46 x y n q zBH zBH zBH).trans (hc)) h rfl (rfl)
 ·exact(Q8 X O.o hx hy hc).mono fun e w' h=>tF ((uR a 46 x y n q zBH zBH zBH).trans (dT (hc))) zBH h
theorem zNM:FT base lg b m g rb v a x y n nn ad ln q N gs gb w 47:=fun X hN O hx hy hn hnn ha hb hg SG BG=>by
 refine⟨133,#[],#[.pointer (some ⟨rb,0,none⟩)],by unfold cW;rfl,rfl,enters_of Tryz.func133 zBM rfl,?_⟩;by_cases hc:chk a.i (vD x y:Nat) q.fa=0
 ·exact(GT X O.o hx hy hc).mono fun e w' h=>xQ ((uR a 47 x y n q zBH zBH zBH).trans (hc)) h.more rfl (rfl)
 ·exact(LG X O.o hx hy hc).mono fun e w' h=>tF ((uR a 47 x y n q zBH zBH zBH).trans (dT (hc))) zBH h
theorem zNL:FT base lg b m g rb v a x y n nn ad ln q N gs gb w 48:=fun X hN O hx hy hn hnn ha hb hg SG BG=>by
 exact zFM
theorem zNY:FT base lg b m g rb v a x y n nn ad ln q N gs gb w 49:=fun X hN O hx hy hn hnn ha hb hg SG BG=>by
 refine⟨137,#[],#[.pointer (some ⟨rb,0,none⟩)],by unfold cW;rfl,rfl,enters_of Tryz.func137 zBM rfl,?_⟩;exact(TN X).mono fun e w' h=>uF O h
theorem zNW:FT base lg b m g rb v a x y n nn ad ln q N gs gb w 50:=fun X hN O hx hy hn hnn ha hb hg SG BG=>by
 refine⟨145,#[],#[.pointer (some ⟨rb,0,none⟩)],by unfold cW;rfl,rfl,enters_of Tryz.func145 zBM rfl,?_⟩;by_cases hc:chk a.i 16 q.fa=0
 ·exact(Y6 X O.o hc).mono fun e w' h=>xQ ((uR a 50 x y n q zBH zBH zBH).trans (hc)) h.more rfl (rfl)
 ·exact(JQ X O.o hc).mono fun e w' h=>tF ((uR a 50 x y n q zBH zBH zBH).trans (dT (hc))) zBH h
theorem zNV:FT base lg b m g rb v a x y n nn ad ln q N gs gb w 51:=fun X hN O hx hy hn hnn ha hb hg SG BG=>by
 refine⟨146,#[],#[.pointer (some ⟨rb,0,none⟩)],by unfold cW;rfl,rfl,enters_of Tryz.func146 zBM rfl,?_⟩;exact(AC X hx).mono fun e w' h=>uF O h
theorem zWE(gs gb:Nat):vlk (cW gs gb) 0=none:=by unfold cW;rfl
theorem zWP(op:Int)(h:1≤op∧op≤51):FT base lg b m g rb v a x y n nn ad ln q N gs gb w op:=by
 rcases(by omega:op=1∨op=2∨op=3∨op=4∨op=5∨op=6∨op=7∨op=8∨op=9∨op=10∨op=11∨op=12∨op=13∨op=14∨op=15∨op=16∨op=17∨op=18∨op=19∨op=20∨op=21∨op=22∨op=23∨op=24∨op=25∨op=26∨op=27∨op=28∨op=29∨op=30∨op=31∨op=32∨op=33∨op=34∨op=35∨op=36∨op=37∨op=38∨op=39∨op=40∨op=41∨op=42∨op=43∨op=44∨op=45∨op=46∨op=47∨op=48∨op=49∨op=50∨op=51)with rfl|rfl|rfl|rfl|rfl|rfl|rfl|rfl|rfl|rfl|rfl|rfl|rfl|rfl|rfl|rfl|rfl|rfl|rfl|rfl|rfl|rfl|rfl|rfl|rfl|rfl|rfl|rfl|rfl|rfl|rfl|rfl|rfl|rfl|rfl|rfl|rfl|rfl|rfl|rfl|rfl|rfl|rfl|rfl|rfl|rfl|rfl|rfl|rfl|rfl|rfl
 exact found1;exact found2;exact found3;exact found4;exact found5;exact found6;exact found7;exact found8;exact found9;exact zHN;exact zHM;exact zHL;exact zHY;exact zHW;exact zHV;exact zHK;exact zHX;exact zHJ;exact zHZ;exact zHQ;exact zN9;exact zN8;exact zN7;exact zN6;exact zN5;exact zN4;exact zN3;exact zN2;exact zN1;exact zN0;exact zNO;exact zNI;exact zNU;exact zNA;exact zNC;exact zNE;exact zNP;exact zNS;exact zNF;exact zND;exact zNT;exact zNR;exact zNB;exact zNG;exact zNH;exact zNN;exact zNM;exact zNL;exact zNY;exact zNW;exact zNV
end
theorem zJQ{m n:Nat}{L:List (Int×Value)}{w w':World}{D:DataW Value}(h:JV m n L w D)(b:Below w.heap.size w w'):JV m n L w' D:=
 ⟨h.own.kept (row:=none) ⟨b.os,b.tape,b.output,b.size,fun k hk _=>b.block k hk⟩ zBT,h.is,h.at_,h.has_⟩
theorem YP{P:Program}{Q:Exit→Act→World→Prop}{a:Act}{w:World}{o:Oper}{g:Nat}{caps args:Array Value}{K:Act→World→Prop}(x:Operand)(xs:Array Operand)(ts:Array TypeId)(ho:o.op=.call {callee:=.value x,args:=xs,argTypes:=ts})(eg:∀args w,(callFunc g args).run P w=.ok (.enter g args) w)(hx:a.eval x=.func (.func g) #[] caps)(ha:xs.map a.eval++caps=args)
  (h:Calls P g args w fun e w'=>(∃v,e=.returned v∧K (a.put o.dst v) w')∨(∃c,e=.panicked c∧Q (.panic c) a w')):o.wp P a w K Q:=by
 unfold Oper.wp;rw[fC x xs ts ho hx eg ha w];simp only[Oper.upon];exact h.mono fun e w' hh=>by
  rcases hh with⟨v,he,hk⟩|⟨c,he,hk⟩
  ·subst he;exact hk
  ·subst he;exact hk
theorem FW{P:Program}{Q:Exit→Act→World→Prop}{o:Oper}{a:Act}{w:World}{K:Act→World→Prop}(ty:TypeId)(x:Operand)(ho:o.op=.box ty x)(cs:Array Value)(hx:a.eval x=.agg cs)
  (h:K (a.put o.dst (.pointer (some ⟨w.heap.size,0,none⟩))) (w.alloc (.cells cs ty))):o.wp P a w K Q:=by
 unfold Oper.wp execOp;simp only[ho,hx,Instr.box,newVar,newRow,newObj,qW,qX,jW];exact h
theorem op_wf{op:Int}(h:0≤op∧op≤51):(Lit.int .i64 op).wf=true:=by
 show(decide ((-9223372036854775808:Int)≤op)&&decide (op≤(9223372036854775807:Int)))=true;rw[zO zBY,zO zBY];rfl
theorem zLN{L:List (Int×Value)}{op:Int}{z:Value}(h:vlk L op=some z):JA L op=z:=by unfold JA;rw[h]
theorem zLH{L:List (Int×Value)}{op:Int}(h:vlk L op=none):JA L op=.nilFunc:=by unfold JA;rw[h]
structure EXR(base lg b m g ge:Nat)(v0 v:Value)(a:AS)(f:Ef)(w w':World):Prop where
 rc:RC base lg b m g v a w'
 e:Blk ge 51 (efc f) w'
 k:xN (yR b m g v0) w w'
 o:v.ownBlock=v0.ownBlock∨∃k,v.ownBlock=some k∧w.heap.size≤k
 ge0:w.heap.size≤ge
section
variable {base lg b m g ge:Nat} {v0 v:Value} {a a':AS} {f f':Ef} {w w1 w2:World}
theorem EXR.step(h:EXR base lg b m g ge v0 v a f w w1)(hb:Below w1.heap.size w1 w2):EXR base lg b m g ge v0 v a f w w2:=⟨h.rc.step hb,h.e.step hb,h.k.trans (O':=yR b m g v0) (xN.of_below hb) Z7.refl,h.o,h.ge0⟩
theorem EXR.eff(h:EXR base lg b m g ge v0 v a f w w1)(he:Blk ge 51 (efc f') w2)(k:xN (fun k=>k=ge) w1 w2):EXR base lg b m g ge v0 v a f' w w2:=by
 have no:∀j,yR b m g v j→j≠ge:=fun j hj e=>by
  obtain⟨cs',T',fr,hh,hT'⟩:=h.rc.tag j hj;have hq:w1.heap[ge]?=some (.cells (efc f) 51 (0,0)):=h.e;rw[e,hq]at hh;exact zD9
 have blk:∀j,yR b m g v j→w2.heap[j]?=w1.heap[j]?:=fun j hj=>k.block j (h.rc.lt j hj).2 (no j hj);refine⟨⟨(blk b (.inl rfl)).trans h.rc.st,(blk m (.inr (.inl rfl))).trans h.rc.mem,?_,?_,h.rc.res,h.rc.bb,h.rc.bm⟩,he,h.k.trans k (fun j hj=> .inr (hj▸h.ge0)),h.o,h.ge0⟩
 ·obtain⟨n,xs,o,r⟩:=h.rc.log;exact⟨n,xs,tA o k fun j ej=>no j (.inr (.inr (.inr ej))),r⟩
 ·obtain⟨A,c,hb,o⟩:=h.rc.rnd.held;exact⟨h.rc.rnd.low,A,c,(blk g (.inr (.inr (.inl rfl)))).trans hb,tA o k (fun j ej e=>vY o h.e zBH (by rw[←e];exact ej))⟩
theorem EXR.meth{rb:Nat}{i:Ins}{q:Pr}{pc:Int}{f2:Ef}{v2:Value}{lg2:Nat}(h:EXR base lg b m g ge v0 v a f w w1)(D:DD base lg2 b m g rb v v2 i q w1 a' pc f2 w2)(hrb:w.heap.size≤rb)(hne:ge≠rb)(hv:v=v0):EXR base lg2 b m g ge v0 v2 a' f w w2:=by
 subst hv;have no:¬yR b m g v ge:=fun c=>by
  obtain⟨cs',T',fr,hh,hT'⟩:=h.rc.tag ge c;have hq:w1.heap[ge]?=some (.cells (efc f) 51 (0,0)):=h.e;rw[hq]at hh;exact zD9
 refine⟨D.x.rc,(D.k.block ge h.e.lt (fun c=>c.elim no hne)).trans h.e,h.k.trans D.k (fun j hj=>hj.elim .inl (fun e=> .inr (e▸hrb))),?_,h.ge0⟩;rcases D.o with e|⟨k,e,hk⟩
 ·exact .inl e
 ·exact .inr ⟨k,e,zD h.k.size hk⟩
theorem EXR.pc(h:EXR base lg b m g ge v0 v a f w w1)(p:Int):EXR base lg b m g ge v0 v {a with pc:=p} f w (w1.setCell ⟨b,17,none⟩ (.int .i64 p)):=
 ⟨h.rc.put 17 (.int .i64 p) (NC a m g p) rfl rfl rfl h.rc.res,h.e.other (xY h.e h.rc.st zBH) _ _,h.k.trans (O':=yR b m g v0) (eV (.inl rfl)) Z7.refl,h.o,h.ge0⟩
end
theorem exec19(N:Nat)(hN:N=8192)(base lg b m g:Nat)(v:Value)(a:AS)(op:Int)(x y n nn:Nat)(addr len:Int)(q:Pr)(w:World)(H:RC base lg b m g v a w)(O:OkB a)(hlg:lg≤900)(hop:0≤op∧op≤51)(hx:x<16)(hy:y<16)(hn:n<16)(hnn:nn<256)(ha:0≤addr∧addr≤65535)(hl:0≤len∧len≤4)(hb:base≤w.heap.size):
  Calls Tryz.prog 20 #[.pointer (some ⟨b,0,none⟩),.agg (lI ⟨op,x,y,n,nn,addr,len⟩),.agg (prc q)] w fun e w'=>e=.returned (.agg (efc (efA a op x y n q)))∧∃v',RC base (lg+16) b m g v' (stA N a op x y n nn addr len q) w'∧xN (yR b m g v) w w'∧(v'.ownBlock=v.ownBlock∨∃k,v'.ownBlock=some k∧w.heap.size≤k):=by
 have hmf:∀(fn:Fn) (first cap:Array Value) (w:World),(Instr.makeFunc fn first cap).run Tryz.prog w=.ok (.func fn first cap) w:=fun _ _ _ _=>rfl;obtain⟨I,hI⟩:∃I:Ins,(⟨op,x,y,n,nn,addr,len⟩:Ins)=I:=⟨_,rfl⟩;have HI:=zW hI;have IO:=zW (show I.op=op∧I.len=len from⟨by rw[←hI],by rw[←hI]⟩);rw[hI];have HH:=zW H;have OO:=zW O;have HB:=zW (zY hb hlg);have HP:=zW hop;have FD:=zW (fun(rb gs gb:Nat) (w':World) (h1:1≤op) (X:XR base lg b m g rb v a ⟨op,x,y,n,nn,addr,len⟩ q ((a.pc+len)%65536) ⟨0,false,false,false⟩ w') (hb':base≤w'.heap.size) SG BG=>zWP (N:=N) (gs:=gs) (gb:=gb) op ⟨h1,hop.2⟩ X hN O hx hy hn hnn ha hb' zBY SG BG);have wr:IntKind.i64.wrap (a.pc+len)=a.pc+len:=by have:=O.o.pc;rw[zU];omega
 have WR:=zW (fun w=>sC (a.pc+len) w);have SF:=zW (V5 N a op x y n nn addr len q);have C0:=zW (fun(h:op=0)=>(show caA a op x y n q=1 from by unfold caA caN;rw[zG h]));obtain⟨ST,hST⟩:∃ST,stA N a op x y n nn addr len q=ST:=⟨_,rfl⟩;obtain⟨EF,hEF⟩:∃EF,efA a op x y n q=EF:=⟨_,rfl⟩;have HS:=zW (zY hST hEF);rw[hST,hEF];clear H O hb hlg hop hx hy hn hnn ha hl hI hST hEF;go_enter_defers Tryz.func20,Tryz.ntmps20;go_upto_region 0 with fail;refine zN ?_;refine mZ rfl _ (.tmp 1) rfl (lI I) rfl ?_;simp only[Act.put,zQ,zZ,zJ];refine mZ rfl _ (.tmp 2) rfl (prc q) rfl ?_;simp only[Act.put,zQ,zZ,zJ,zR];refine qL rfl fun K hK=>nF gH rfl (hK _ _ ?_);clear hK K;simp only[Act.put,zQ,zZ,zJ,zR];have I0:=zW (((Blk.new w 47 (lI I)).alloc (.cells (prc q) 31)).alloc (.cells (efc ⟨0,false,false,false⟩) 51));have P0:=zW ((Blk.new (w.alloc (.cells (lI I) 47)) 31 (prc q)).alloc (.cells (efc ⟨0,false,false,false⟩) 51));have E0:=zW (Blk.new ((w.alloc (.cells (lI I) 47)).alloc (.cells (prc q) 31)) 51 (efc ⟨0,false,false,false⟩));simp only[zR]at P0 E0;have B0:=zW (UF w (.cells (lI I) 47) (.cells (prc q) 31) (.cells (efc ⟨0,false,false,false⟩) 51));obtain⟨gi,hgi⟩:∃gi,w.heap.size=gi:=⟨_,rfl⟩;have GI:=zW hgi;rw[hgi]at I0 P0 E0⊢;clear hgi;generalize World.alloc (World.alloc (World.alloc w _) _) _=w1 at I0 P0 E0 B0⊢;have Z:=zW (show EXR base lg b m g (gi+1+1) v v a ⟨0,false,false,false⟩ w w1 from⟨HH.out.step B0.out,E0.out,xN.of_below B0.out,.inl rfl,by rw[GI.out];omega⟩);clear E0;go_upto_region 4 with fail;have r17:=mH.cell (show w1.cell? ⟨b,17,none⟩=some (.int .i64 a.pc)from(Z.out.rc.st.cell 17).trans (nJ _ m g zBY)) Z.out.rc.st.lt;have i6:=mH.cell (show w1.cell? ⟨gi,6,none⟩=some (.int .i64 len)from(I0.out.cell 6).trans (by rw[←IO.out.2];rfl)) I0.out.lt;have IB:=zW (mR I0.out);have PB:=zW (mR P0.out);refine bF (fun A a' w'=>∃rb,a'=(((((((((((((A.put (some 14) (.pointer (some ⟨b,0,none⟩))).put (some 15) (.agg (lI I))).put (some 16) (.agg (prc q))).put (some 17) (.pointer (some ⟨b,0,none⟩))).put (some 18) (.pointer (some ⟨b,0,none⟩))).put (some 19) (.pointer (some ⟨b,17,none⟩))).put (some 20) (.int .i64 a.pc)).put (some 21) (.pointer (some ⟨gi,6,none⟩))).put (some 22) (.int .i64 len)).put (some 23) (.int .i64 (a.pc+len))).put (some 24) (.int .i64 ((a.pc+len)%65536))).put (some 25) (.agg (rnc b I q ((a.pc+len)%65536) ⟨0,false,false,false⟩))).put (some 26) (.pointer (some ⟨rb,0,none⟩))).put (some 7) (.pointer (some ⟨rb,0,none⟩))∧EXR base lg b m g (gi+1+1) v v a ⟨0,false,false,false⟩ w w'∧Blk rb 148 (rnc b I q ((a.pc+len)%65536) ⟨0,false,false,false⟩) w'∧Blk gi 47 (lI I) w'∧base≤w'.heap.size∧w.heap.size≤rb) ?_ ?_
 ·refine mX (C:=fun w'=>∃u:mH w1,w'=u.w) 12 [([0,1,2,3,4,5,6,7,8,9],10,true)] [11] [13] zBM zBM ?_ ?_ ⟨⟨w1.drew,(zB _ _).drew⟩,rfl⟩ ?_
  ·exact fun _ _ d _ _ h=>by cases h.1
  ·exact zT0
  intro wd hwd;clear hwd;refine m4 zBN zBG ?_;iterate 1 (go_big_quiet_step (fail))
  refine mG (o:=0) U6 IB.out (by show _≤7;decide) rfl (.tmp 4) rfl zBL ?_;rw[pU (show(lI I).size=7 from rfl)];simp only[Act.put,zQ,zZ,zJ];refine mG (o:=0) zY0 PB.out (by show _≤8;decide) rfl (.tmp 5) rfl zBL ?_;rw[pU (show(prc q).size=8 from rfl)];simp only[Act.put,zQ,zZ,zJ];iterate 7 (go_big_quiet_step (fail))
  refine zM ?_;refine m5 (v:=.int .i64 ((a.pc+len)%65536)) (nN (g:=59) (caps:=#[]) (args:=#[.int .i64 (a.pc+len)]) (.func 59) _ _ rfl rfl (enters_of Tryz.func59 zBM rfl) (fun w' hw=>by obtain⟨u,rfl⟩:=hw;exact(WR.out u.w).mono fun e w'' h=>⟨h.1,by rw[←h.2];exact Gr.refl _⟩) rfl zBL) ?_;simp only[Act.put,zQ,zZ,zJ];refine mE zBN zBG ?_;refine sH rfl rfl (by simpa [Act.eval,Act.put]using zXQ b I q ((a.pc+len)%65536)) ?_;simp only[Act.put,zQ,zZ,zJ];refine zM ?_;refine mC rfl ?_;intro w5 g5 C5 K hK;obtain⟨u5,rfl⟩:=C5;have Z5:=zW (Z.out.step u5.below);have I5:=zW (I0.out.step u5.below);refine FW _ (.tmp 25) rfl (rnc b I q ((a.pc+len)%65536) ⟨0,false,false,false⟩) zBL ?_;have R5:=zW (Blk.new u5.w 148 (rnc b I q ((a.pc+len)%65536) ⟨0,false,false,false⟩));have bb:=mJ u5.w (.cells (rnc b I q ((a.pc+len)%65536) ⟨0,false,false,false⟩) 148);have Z5:=zW (Z5.out.step bb);have I5:=zW (I5.out.step bb);have L5:=zW (show w.heap.size≤u5.w.heap.size from zD B0.out.size u5.below.size);clear bb;refine hK _ _ ?_;obtain⟨rb,hrb⟩:∃rb,u5.w.heap.size=rb:=⟨_,rfl⟩;rw[hrb]at R5 L5⊢;clear hrb;generalize World.alloc u5.w _=w5 at*;clear hK K;simp only[Act.put,zQ,zZ,zJ];try simp only[lA,zX,zK,zV]
  iterate 1 (go_big_quiet_step (fail))
  refine zM ?_;intro w8 g8;have Z:=zW (Z5.out.step g8);have R0:=zW (R5.out.step g8);have I0:=zW (I5.out.step g8);have B8:=zW (show base≤w8.heap.size from zD HB.out.1 (zD L5.out (jX R0.out.lt)));clear g8 g5 Z5 R5 I5;exact⟨by trivial,rb,rfl,Z.out,R0.out,I0.out,B8.out,L5.out⟩
 rintro _ w8 ⟨rb,rfl,z8,r8,i8,b8,l8⟩;have Z:=zW z8;have R0:=zW r8;have I0:=zW i8;have B8:=zW b8;have L5:=zW l8;clear z8 r8 i8 b8 l8 P0 B0;simp only[Act.put,zQ,zZ,zJ];have i0:=mH.cell (show w8.cell? ⟨gi,0,none⟩=some (.int .i64 op)from(I0.out.cell 0).trans (by rw[←IO.out.1];rfl)) I0.out.lt;go_upto_region 5 with fail;refine bF (fun A a' w'=>∃mp gs gb,a'=((((((((A.put (some 28) (.map (some mp))).put (some 29) (.pointer (some ⟨gi,0,none⟩))).put (some 30) (.int .i64 op)).put (some 31) (.tuple #[JA (cW gs gb) op,.bool (vlk (cW gs gb) op).isSome])).put (some 27) (.tuple #[JA (cW gs gb) op,.bool (vlk (cW gs gb) op).isSome])).put (some 32) (JA (cW gs gb) op)).put (some 33) (.bool (vlk (cW gs gb) op).isSome)).put (some 8) (JA (cW gs gb) op)).put (some 9) (.bool (vlk (cW gs gb) op).isSome)∧EXR base lg b m g (gi+1+1) v v a ⟨0,false,false,false⟩ w w'∧Blk rb 148 (rnc b I q ((a.pc+len)%65536) ⟨0,false,false,false⟩) w'∧(Blk gs 146 #[.func (.func 127) #[] #[]] w'∧Blk gb 146 #[.func (.func 128) #[] #[]] w')∧base≤w'.heap.size) ?_ ?_
 ·refine mX (C:=fun w'=>∃u:mH w8,w'=u.w) 3 [([1,2],0,false)] [] [4,5,6,7,8] zBM zBM ?_ ?_ ⟨⟨w8.drew,(zB _ _).drew⟩,rfl⟩ ?_
  ·exact fun _ _ d _ _ h=>by cases h.1
  ·exact zT0
  intro wd hwd;clear hwd;refine vW zBN zBG ?_;iterate 2 (go_big_quiet_step (fail))
  refine zM ?_;refine vV rfl ?_;intro w4 g4 C4 K hK;obtain⟨u4,rfl⟩:=C4;refine mF (g:=60) (caps:=#[]) (args:=#[]) (.func 60) _ _ rfl (enters_of Tryz.func60 zBM rfl) rfl zBL ?_;refine(zWT u4.w).mono ?_;rintro e w6 ⟨mp,Dm,gs,gb,rfl,hm,b6,sg,bg⟩;have B6:=zW (u4.below.trans (b6.mono u4.below.size));have M6:=zW hm;have G6:=zW (zY sg bg);clear hm b6 sg bg g4;refine⟨_,rfl,?_⟩;refine hK _ _ ⟨⟨w6,B6.out⟩,rfl⟩ ?_;clear hK K;simp only[Act.put,zQ,zZ,zJ];refine mE zBN zBG ?_;refine zM ?_;refine mC rfl ?_;intro w5 g5 C5 K hK;obtain⟨u5,rfl⟩:=C5;have M5:=zW (zJQ M6.out g5);refine FX rfl M5.out (.tmp 28) (.tmp 30) rfl zBL op zBL (op_wf HP.out) ?_;have Z5:=zW (Z.out.step u5.below);have R5:=zW (R0.out.step u5.below);have G5:=zW (zY (G6.out.1.step g5) (G6.out.2.step g5));have L6:=zW u5.below.size;refine hK _ _ ?_;generalize u5.w=w5 at*;clear hK K;simp only[Act.put,zQ,zZ,zJ];try simp only[lA,zX,zK,zV]
  iterate 5 (go_big_quiet_step (fail))
  refine zM ?_;intro wc g8;have Z:=zW (Z5.out.step g8);have R0:=zW (R5.out.step g8);have GG:=zW (zY (G5.out.1.step g8) (G5.out.2.step g8));have L8:=zW (show base≤wc.heap.size from zD B8.out (zD L6.out g8.size));clear g8 g5 i0 Z5 R5 G5 M5 G6 M6;exact⟨by trivial,mp,gs,gb,rfl,Z.out,R0.out,GG.out,L8.out⟩
 rintro _ wc ⟨mp,gs,gb,rfl,z8,r8,g8,b8⟩;have Z:=zW z8;have R0:=zW r8;have GG:=zW g8;have L8:=zW b8;clear z8 r8 g8 b8 i0 I0;simp only[Act.put,zQ,zZ,zJ];have X:=zW (show XR base lg b m g rb v a ⟨op,x,y,n,nn,addr,len⟩ q ((a.pc+len)%65536) ⟨0,false,false,false⟩ wc from⟨Z.out.rc,by rw[HI.out];exact R0.out⟩);have NE:=zW (show gi+1+1≠rb from xY Z.out.e R0.out zBH);have CA:=zW (fun(c:Int) (w':World) (h:Blk (gi+1+1) 51 (efc ⟨0,false,false,false⟩) w')=>zH0 (gi+1+1) c ⟨0,false,false,false⟩ w' h);have CI:=zW (fun(w':World)=>WW (gi+1+1) w');-- how a failure ends
 have PAN:=zW (fun(c:Int) (hc:caA a op x y n q=c) (h0:c≠0)=>(show ST=a∧EF=⟨c,false,false,false⟩from by
  rw[←HS.out.1,←HS.out.2];unfold stA efA;rw[hc,zL h0,zL h0];exact⟨rfl,rfl⟩))
 by_cases h1:1≤op
 ·obtain⟨fn,caps,args,hk,hargs,hent,hcall⟩:=FD.out rb gs gb wc h1 X.out L8.out GG.out.1 GG.out.2;rw[zLN hk,show(vlk (cW gs gb) op).isSome=true from by rw[hk];rfl];have HC:=zW (zY hargs (zY hent hcall));clear hk hargs hent hcall FD h1;go_upto_region 8 with fail;refine zN ?_;iterate 6 go_step
  refine qL rfl fun K hK=>?_;refine YP (g:=fn) (caps:=caps) (args:=args) (.tmp 37) _ _ rfl HC.out.2.1 rfl (by simpa [Act.eval,Act.put]using HC.out.1) ?_;refine HC.out.2.2.mono ?_;rintro e wd (⟨hc,a2,pc2,⟨rfl,v2,D⟩,hs⟩|⟨hc,rfl,hbl⟩)
  ·refine .inl ⟨_,rfl,hK _ _ ?_⟩;clear hK K;have Z:=zW (Z.out.meth D L5.out NE.out rfl);have R0:=zW D.x.r;have HF:=zW (show({a2 with pc:=pc2}:AS)=ST from by rw[hs,HS.out.1]);have PF:=zW (show(efc (efA a op x y n q))=efc EF from by rw[HS.out.2]);clear hs D HC X hc;have c16:wd.cell? ⟨rb,16,none⟩=some (.int .i64 pc2):=(R0.out.cell 16).trans rfl;have c17:wd.cell? ⟨b,17,none⟩=some (.int .i64 a2.pc):=(Z.out.rc.st.cell 17).trans (nJ _ m g zBY);have f17:=Z.out.rc.st.frozen 17;simp only[Act.put,zQ,zZ,zJ];go_upto_region 10 with fail;have NB:=zW (show rb≠b from xY R0.out Z.out.rc.st zBH);have Z:=zW (Z.out.pc pc2);have R0:=zW (R0.out.other (b:=rb) (g:=b) NB.out 17 (.int .i64 pc2));rw[HF.out]at Z;generalize World.setCell wd _ _=we at Z R0⊢;clear c16 c17 f17 HF NB;refine zN ?_;iterate 9 go_step
   refine nA (o:=17) ZI R0.out (by show _≤21;decide) rfl (.tmp 49) rfl zBL ?_;rw[rnc_ef];simp only[Act.put,zQ,zZ,zJ];rw[PF.out];refine lE (ds:=efc EF) ZI Z.out.e rfl rfl (yT _) rfl (.tmp 6) (.tmp 50) rfl zBL zBL ?_;simp only[Act.put,zQ,zZ,zJ];have Z:=zW (Z.out.eff (f':=EF) (Z.out.e.store (efc EF)) (pP rfl));generalize World.setRow we _ _=wf at Z⊢;clear R0 PF;go_wp2_with fail;refine leaves_cons (f:=58) (args:=#[.pointer (some ⟨gi+1+1,0,none⟩)]) zBT (by simp[go_sem]) ?_;refine(CI.out wf).mono ?_;rintro e u' wg ⟨rfl,rfl,bg⟩;have Z:=zW (Z.out.step bg);exact⟨_,zF rfl _ _ (gi+1+1) _ _ _ _ rfl Z.out.e Tryz.underlying51 rfl ZI.i,rfl,v2,Z.out.rc.more zBY,Z.out.k,Z.out.o⟩
  ·refine .inr ⟨_,rfl,?_⟩;clear hK K;have P:=zW (PAN.out _ rfl hc);have Z:=zW (Z.out.step hbl);clear hbl HC X;refine leaves_cons (f:=58) (args:=#[.pointer (some ⟨gi+1+1,0,none⟩)]) zBT (by simp[go_sem]) ?_;refine(CA.out _ wd Z.out.e).mono ?_;exact zD6
 ·obtain rfl:op=0:=by have:=HP.out;omega
  rw[zLH (zWE gs gb),show(vlk (cW gs gb) 0).isSome=false from by rw[zWE];rfl];clear FD h1;have P:=zW (PAN.out 1 (C0.out rfl) zBH);go_wp2_with fail;refine(eN 1 zBH _).mono ?_;rintro e w' ⟨rfl,rfl⟩;refine leaves_cons (f:=58) (args:=#[.pointer (some ⟨gi+1+1,0,none⟩)]) zBT (by simp[go_sem]) ?_;refine(CA.out 1 wc Z.out.e).mono ?_;exact zD6
def iG(j:Nat):Value:=
 if j<16 then .int .u8 0 else if j<35 then .int .i64 0 else if j=35 then .pointer none else if j<548 then .int .u64 0 else if j=548 then .bool false else if j=549 then .int .i64 0 else
 if j<566 then .bool false else if j<601 then .int .u8 0 else .pointer none
theorem zWN:(Tryz.prog.info? 84).map (fun i=>(i.zero,i.size))=some (some (.agg (rA 602 iG)),602):=by kernel_rfl
theorem zLL:cY Tryz.prog 84 (rA 602 iG):=by unfold cY;rw[uJ];exact zWN
theorem OX(off:Nat):∀(L:List Value) (k:Nat) (cs:Array Value),(L.zipIdx k).foldl (fun cs (x:Value×Nat)=>cs.setIfInBounds (off+x.2) x.1) cs=(L.zipIdx (off+k)).foldl (fun cs (x:Value×Nat)=>cs.setIfInBounds x.2 x.1) cs
 |[],_,_=>rfl
 |x::L,k,cs=>by
  rw[List.zipIdx_cons,List.zipIdx_cons,List.foldl_cons,List.foldl_cons,OX off L (k+1)];rfl
theorem eW{place:Nat→Option (Nat×Nat)}{cs c:Array Value}{i off n:Nat}{v:Value}{rest:List (Nat×Value)}(hp:place i=some (off,n))(hv:v.cells=c)(hc:c.size=n)(hl:off+n≤cs.size):Instr.fill place cs ((i,v)::rest)=Instr.fill place (m3 cs off c) rest:=by
 conv=>lhs;unfold Instr.fill
 rw[hp];simp only[hv,hc];rw[zL zBS];have e:c.zipIdx.foldl (fun cs (x:Value×Nat)=>cs.setIfInBounds (off+x.2) x.1) cs=m3 cs off c:=by
  rw[←Array.foldl_toList,Array.toList_zipIdx];rw[OX off c.toList 0 cs,Nat.add_zero,YT c.toList off cs (by rw[kP,hc];exact hl)];unfold m3;rw[kP]
 exact congrArg (fun z=>Instr.fill place z rest) e
theorem zQ5(R L:List Int)(m g j:Nat)(hj:j<602)(h1:j≠17)(h2:j≠35)(h3:¬(36≤j∧j<550))(h4:¬(568≤j∧j<585))(h5:j≠601):iG j=xB (uK R L) m g j:=by
 unfold iG xB;by_cases c1:j<16
 ·rw[zG c1,zG c1];rfl
 rw[zL c1,zL c1];by_cases c2:j<35
 ·rw[zG c2];by_cases c3:j=16
  ·rw[zG c3];rfl
  rw[zL c3,zL h1];by_cases c4:j<34
  ·rw[zG c4];rfl
  ·rw[zL c4,zG zBY];rfl
 rw[zL c2,zL h2,zL zBY,zL zBY,zL zBY];rw[zL (by omega:¬j=16),zL h1,zL (by omega:¬j<34),zL (by omega:¬j=34),zL h2,zL (by omega:¬j<550)];by_cases c5:j<566
 ·rw[zG c5,zG c5];show Value.bool false=.bool (dnA [] (j-550));unfold dnA;rw[zW2]
 rw[zL c5,zL c5,zG zBY];by_cases c6:j=566
 ·rw[zG c6];rfl
 rw[zL c6];by_cases c7:j=567
 ·rw[zG c7];rfl
 rw[zL c7,zL (by omega:¬j<584),zL (by omega:¬j=584),zG zBY];rfl
theorem zXX(R L:List Int)(m g:Nat):Tryz.prog.built 84 [(2,.int .i64 512),(4,.pointer (some ⟨m,0,none⟩)),(5,.agg (lO (m6 false 1))),(8,.agg (ac mU 64)),(10,.pointer (some ⟨g,0,none⟩))]=some (stC (uK R L) m g):=by
 have hp:(match Tryz.prog.underlying 84 with|some (.struct fields)=>fields.toList.mapM (fun f=>(Tryz.prog.info? f.type).map fun i=>(f.offset,i.size))|_=>none)=some [(0,16),(16,1),(17,1),(18,17),(35,1),(36,514),(550,16),(566,2),(568,17),(585,16),(601,1)]:=by kernel_rfl
 obtain⟨it,hit,hz⟩:=kV.1 zWN;simp only[jC]at hz;rw[Tryz.underlying84]at hp;unfold Program.built;rw[hit,Tryz.underlying84];simp only at hp⊢;rw[hz.1,hp];have e0:lO (m6 false 1)=lO (scA (uK R L)):=PV false 1;rw[e0];clear hit hz hp e0 it;obtain⟨h,hh⟩:∃h,xB (uK R L) m g=h:=⟨_,rfl⟩;have hs:∀j,j<514→(lO (scA (uK R L)))[j]?=some (h (36+j)):=fun j hj=>by rw[←hh,vM _ _ hj,aZ _ m g hj]
 have ha:∀j,j<17→(ac mU 64)[j]?=some (h (568+j)):=fun j hj=>by
  rw[←hh];by_cases c:j<16
  ·rw[ZO _ _ _ c,aX _ m g c];show _=some (Value.int .u8 ((cC mU).getD j 0));rw[qJ,yK,zG c];rfl
  ·obtain rfl:j=16:=by omega
   simp[ac,MX,uK]
 have h17:h 17=.int .i64 512:=by rw[←hh];rfl
 have h35:h 35=.pointer (some ⟨m,0,none⟩):=by rw[←hh];rfl
 have h601:h 601=.pointer (some ⟨g,0,none⟩):=by rw[←hh];rfl
 have hz:=zQ5 R L m g;rw[hh]at hz;show Instr.fill _ (rA 602 iG) _=some (rA 602 (xB (uK R L) m g));rw[hh];clear hh;have sS:=mV (scA (uK R L));generalize lO (scA (uK R L))=S at*;have sA:=cQ mU 64;generalize ac mU 64=A at*;rw[eW (c:=#[.int .i64 512]) (off:=17) (n:=1) rfl rfl rfl (by rw[uJ];omega)];rw[cR (o:=17) (c:=#[.int .i64 512]) (h:=fun j=>if j=17 then h j else iG j) (by show 17+1≤602;omega) (fun j hj=>by
  have hj:j<1:=hj;obtain rfl:j=0:=by omega
  simp[h17]) (fun j hj c=>by
  have c:j<17∨17+1≤j:=c;try simp only
  rw[zL zBY])]
 rw[eW (c:=#[.pointer (some ⟨m,0,none⟩)]) (off:=35) (n:=1) rfl rfl rfl (by rw[uJ];omega)];rw[cR (o:=35) (c:=#[.pointer (some ⟨m,0,none⟩)]) (h:=fun j=>if j=35 then h j else if j=17 then h j else iG j) (by show 35+1≤602;omega) (fun j hj=>by
  have hj:j<1:=hj;obtain rfl:j=0:=by omega
  simp[h35]) (fun j hj c=>by
  have c:j<35∨35+1≤j:=c;try simp only
  rw[zL (by omega:¬j=35)])]
 rw[eW (c:=S) (off:=36) (n:=514) rfl rfl sS (by rw[uJ];omega)];rw[cR (o:=36) (c:=S) (h:=fun j=>if 36≤j∧j<550 then h j else if j=35 then h j else if j=17 then h j else iG j) (by rw[sS];omega) (fun j hj=>by
  rw[sS]at hj;rw[hs j hj];try simp only
  rw[zG zBY]) (fun j hj c=>by
  rw[sS]at c;try simp only
  rw[zL (by omega:¬(36≤j∧j<550))])]
 rw[eW (c:=A) (off:=568) (n:=17) rfl rfl sA (by rw[uJ];omega)];rw[cR (o:=568) (c:=A) (h:=fun j=>if 568≤j∧j<585 then h j else if 36≤j∧j<550 then h j else if j=35 then h j else if j=17 then h j else iG j) (by rw[sA];omega) (fun j hj=>by
  rw[sA]at hj;rw[ha j hj];try simp only
  rw[zG zBY]) (fun j hj c=>by
  rw[sA]at c;try simp only
  rw[zL (by omega:¬(568≤j∧j<585))])]
 rw[eW (c:=#[.pointer (some ⟨g,0,none⟩)]) (off:=601) (n:=1) rfl rfl rfl (by rw[uJ];omega)];rw[cR (o:=601) (c:=#[.pointer (some ⟨g,0,none⟩)]) (h:=h) (by show 601+1≤602;omega) (fun j hj=>by
  have hj:j<1:=hj;obtain rfl:j=0:=by omega
  simp[h601]) (fun j hj c=>by
  have c:j<601∨601+1≤j:=c;try simp only
  by_cases c1:568≤j∧j<585
  ·rw[zG c1]
  rw[zL c1];by_cases c2:36≤j∧j<550
  ·rw[zG c2]
  rw[zL c2];by_cases c3:j=35
  ·rw[zG c3]
  rw[zL c3];by_cases c4:j=17
  ·rw[zG c4]
  rw[zL c4];exact hz j hj c4 c3 c2 c1 zBY)]
 rfl
theorem pS{p:Nat}{M:List Int}{v:Value}{w w':World}(h:vC p M v w)(b:Below w.heap.size w w'):vC p M v w':=(b.block p h.lt).trans h
theorem zQD(base:Nat)(w:World):WU base 0 (.slice none 0 0) w:=⟨0,[],qO _ _ _ _,zH _,fun _=>rfl,fun x hx=>by cases hx⟩
theorem zZ0(A:Option Addr)(n c:Nat)(R:List Int)(B:Option Addr)(k d:Nat)(L:List Int)(w:World)(hL:uO w)(hR:Rd w A R)(hn:R.length=n)(h1:n≤65024)(hB:Rd w B L)(hk:L.length=k)(k1:k≤100000):
  Calls Tryz.prog 47 #[.slice A n c,.slice B k d] w fun e w'=>∃b m g v,e=.returned (.tuple #[.pointer (some ⟨b,0,none⟩),.int .i64 0])∧RC w.heap.size 0 b m g v (uK R L) w'∧Below w.heap.size w w':=by
 have HH:=zW (zY hL (zY hR (zY hn (zY hB hk))));have K1:=zW (zY h1 k1);clear hL hR hn h1 hB hk k1;go_enter Tryz.func47,Tryz.ntmps47;go_wp2_with fail;refine(zMU A n c R _ K1.out.1 HH.out.2.2.1 HH.out.2.1 HH.out.1).mono ?_;rintro e w1 ⟨p,rfl,hp,hm,b1⟩;have PL:=zW hp;have HM:=zW hm;have BB:=zW b1;clear hp hm b1;go_wp2_with fail;refine(zV4 _).mono ?_;rintro e w2 ⟨rfl,b2⟩;have HM:=zW (pS HM.out b2);have BB:=zW (BB.out.trans (b2.mono BB.out.size));clear b2;go_wp2_with fail;refine(UP _).mono ?_;rintro e w3 ⟨rfl,b3⟩;have HM:=zW (pS HM.out b3);have BB:=zW (BB.out.trans (b3.mono BB.out.size));clear b3;go_wp2_with fail;refine(zMI B k d L _ (HH.out.2.2.2.1.below BB.out) HH.out.2.2.2.2 (by have:=K1.out.2;omega)).mono ?_;rintro e w4 ⟨g,rfl,hs,b4⟩;have HM:=zW (pS HM.out b4);have HS:=zW (hs.mono BB.out.size);have BB:=zW (BB.out.trans (b4.mono BB.out.size));clear b4 hs;simp only[];go_at_K
 iterate 1 go_step
 refine nU rfl rfl (by simpa [Act.eval]using zXX R L p g) ?_;simp only[Act.put,zQ,zZ,zJ];refine mZ rfl _ (.tmp 21) rfl (stC (uK R L) p g) rfl ?_;simp only[Act.put,zQ,zZ,zJ];have S:=zW (Blk.new w4 84 (stC (uK R L) p g));have b5:=mJ w4 (.cells (stC (uK R L) p g) 84);have HM:=zW (pS HM.out b5);have HS:=zW (HS.out.step b5);have LB:=zW BB.out.size;have BB:=zW (BB.out.trans (b5.mono BB.out.size));clear b5;obtain⟨b,hb⟩:∃b,w4.heap.size=b:=⟨_,rfl⟩;rw[hb]at S LB⊢;clear hb;generalize World.alloc w4 _=w5 at*;go_wp2_with fail;go_ret2;exact⟨b,p,g,.slice none 0 0,rfl,⟨S.out,HM.out,zQD _ _,HS.out,VW,LB.out,PL.out⟩,BB.out⟩
theorem zV5(A:Option Addr)(n c:Nat)(B:Option Addr)(k d:Nat)(w:World)(h1:65024<n):
  Calls Tryz.prog 47 #[.slice A n c,.slice B k d] w fun e w'=>e=.returned (.tuple #[.pointer none,.int .i64 7])∧Below w.heap.size w w':=by
 have K1:=zW h1;clear h1;go_enter Tryz.func47,Tryz.ntmps47;go_wp2_with fail;refine(new_no A n c _ K1.out).mono ?_;rintro e w1 ⟨rfl,rfl⟩;go_wp2_with fail;go_ret2;exact⟨rfl,zB _ _⟩
theorem SJ(w:World):Calls Tryz.prog 25 #[.pointer none] w fun e w'=>e=.returned (.pointer none)∧Below w.heap.size w w':=by
 go_enter Tryz.func25,Tryz.ntmps25;go_wp2_with fail;go_ret;exact⟨rfl,zB _ _⟩
theorem zKK(a:AS)(m g m':Nat):(stC a m g).setIfInBounds 35 (.pointer (some ⟨m',0,none⟩))=stC a m' g:=bV _ _ fun j hj=>by
 by_cases e:j=35
 ·subst e;rw[zG rfl,aJ]
 ·rw[zL e];unfold xB;rw[zL e,zL e]
theorem zKV(a:AS)(m g g':Nat):(stC a m g).setIfInBounds 601 (.pointer (some ⟨g',0,none⟩))=stC a m g':=bV _ _ fun j hj=>by
 by_cases e:j=601
 ·subst e;rw[zG rfl,zJ7]
 ·rw[zL e];by_cases h:j<601
  ·unfold xB;simp only[zG h]
  ·omega
theorem zHI(base lg b m g:Nat)(v:Value)(a:AS)(w:World)(H:RC base lg b m g v a w)(O:OkB a):
  Calls Tryz.prog 25 #[.pointer (some ⟨b,0,none⟩)] w fun e w'=>∃b2 m2 g2 v2,e=.returned (.pointer (some ⟨b2,0,none⟩))∧RC w.heap.size 0 b2 m2 g2 v2 a w'∧Below w.heap.size w w':=by
 have R0:=zW H;have BL:=zW H.st.lt;have OO:=zW O;clear H O;go_enter Tryz.func25,Tryz.ntmps25;go_upto_region 3 with fail;refine zN ?_;iterate 6 go_step
 refine lP zY2 R0.out.st (m9 _ _ _) rfl (.tmp 7) rfl zBL ?_;simp only[Act.put,zQ,zZ,zJ];refine nY (ds:=stC a m g) zY2 zLL uJ (m9 _ _ _) (zLP _ _ _) rfl rfl rfl (.tmp 3) (.tmp 8) rfl zBL zBL ?_;simp only[Act.put,zQ,zZ,zJ];have S:=zW (Blk.new w 84 (stC a m g));have BB:=zW (mJ w (.cells (stC a m g) 84));obtain⟨bc,hbc⟩:∃bc,w.heap.size=bc:=⟨_,rfl⟩;have HB:=zW (jT hbc);rw[hbc]at S⊢;clear hbc;generalize World.alloc w _=w1 at*;have s35:w1.cell? ⟨b,35,none⟩=some (.pointer (some ⟨m,0,none⟩)):=((R0.out.step BB.out).st.cell 35).trans (nJ _ m g zBY);go_wp2_with fail;refine(zJ4 m a.M v _ OO.out.o.M (R0.out.step BB.out).mem).mono ?_;rintro e w2 ⟨m2,rfl,hm2,M2,b2⟩;have S:=zW (S.out.step b2);have MM:=zW M2;have ML:=zW (zD BB.out.size hm2);have BB:=zW (BB.out.trans (b2.mono BB.out.size));have NM:=zW (show bc≠m2 from fun e=>by have h:=S.out.lt;have h2:=zQU S.out M2 zBH;exact h2 e);clear b2 M2 hm2 s35;have cs:w2.cell? ⟨bc,35,none⟩=some (.pointer (some ⟨m,0,none⟩)):=(S.out.cell 35).trans (nJ _ m g zBY);have fs:=S.out.frozen 35;go_upto_region 5 with fail;have S:=zW ((S.out.put 35 (.pointer (some ⟨m2,0,none⟩))).eq (zKK a m g m2));have BB:=zW (BB.out.setCell (p:=⟨bc,35,none⟩) HB.out (.pointer (some ⟨m2,0,none⟩)));have MM:=zW (show vC m2 a.M (.slice none 0 0) (w2.setCell ⟨bc,35,none⟩ (.pointer (some ⟨m2,0,none⟩)))from(qQ w2 ⟨bc,35,none⟩ _ m2 (fun e=>NM.out e.symm)).trans MM.out);generalize World.setCell w2 _ _=w3 at S BB MM⊢;clear cs fs;have s601:w3.cell? ⟨b,601,none⟩=some (.pointer (some ⟨g,0,none⟩)):=((R0.out.step BB.out).st.cell 601).trans (nJ _ m g zBY);go_wp2_with fail;refine(A6 (R0.out.step BB.out).rnd (zD OO.out.o.L zBH)).mono ?_;rintro e w4 ⟨g2,rfl,hs,b4⟩;have HS:=zW hs;have LL:=zW S.out.lt;have S:=zW (S.out.step b4);have MM:=zW (pS MM.out b4);have L3:=zW BB.out.size;have BB:=zW (BB.out.trans (b4.mono BB.out.size));clear b4 hs s601;have cs:w4.cell? ⟨bc,601,none⟩=some (.pointer (some ⟨g,0,none⟩)):=(S.out.cell 601).trans (nJ _ m2 g zBY);have fs:=S.out.frozen 601;go_upto_region 6 with fail;have S:=zW ((S.out.put 601 (.pointer (some ⟨g2,0,none⟩))).eq (zKV a m2 g g2));have BB:=zW (BB.out.setCell (p:=⟨bc,601,none⟩) HB.out (.pointer (some ⟨g2,0,none⟩)));have MM:=zW (show vC m2 a.M (.slice none 0 0) (w4.setCell ⟨bc,601,none⟩ (.pointer (some ⟨g2,0,none⟩)))from(qQ w4 ⟨bc,601,none⟩ _ m2 (fun e=>NM.out e.symm)).trans MM.out);have HS:=zW (HS.out.under (nC.setCell (w:=w4) (p:=bc) (g:=none) 601 (.pointer (some ⟨g2,0,none⟩))) LL.out);generalize World.setCell w4 _ _=w5 at S BB MM HS⊢;clear cs fs;go_wp2_with fail;go_ret;exact⟨bc,m2,g2,.slice none 0 0,rfl,⟨S.out,MM.out,zQD _ _,HS.out.mono L3.out,R0.out.res,HB.out,ML.out⟩,BB.out⟩
theorem oW(N:Nat)(hN:N=8192):gS N where
 new_:=fun A n c R B k d L w hL hR hn h1 hB hk k1=>zZ0 A n c R B k d L w hL hR hn h1 hB hk k1
 long:=fun A n c B k d L w hL h1 h2 hB hk k1=>zV5 A n c B k d w h1
 exec:=fun base lg b m g v a op x y n nn addr len q w hL H O hlg hd h1 hx hy hn hnn ha hl hq hb=>exec19 N hN base lg b m g v a op x y n nn addr len q w H O hlg h1 hx hy hn hnn ha hl hb
 none_:=fun w=>SJ w
 clone:=fun base lg b m g v a w hL H O=>zHI base lg b m g v a w H O
end
end Go.Proofs.YtcjldabaekbdlaaGreatDoor
