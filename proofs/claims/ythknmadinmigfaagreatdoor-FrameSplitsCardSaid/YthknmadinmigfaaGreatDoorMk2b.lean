/- ScrIter, ScrNeed, ScrChange, ScrOps, ScrChunk, ScrBits, ScrDraw1, ScrDraw, ScrDo, ScrScr, ScrSame, ScrLawD, ScrOne. -/
import Derived.Test.YthknmadinmigfaaGreatDoorMk2a
set_option maxRecDepth 400000
set_option maxHeartbeats 64000000
set_option linter.unusedVariables false
set_option linter.unusedSimpArgs false
namespace Go.Proofs.YthknmadinmigfaaGreatDoor
section
open Go.RowKit Go.Shelf Num
attribute [local go_sem] Oper.semAt_some
def nY(M k:Nat):List (Fin 4):=(List.finRange 4).filter fun i=>decide (i.val<k)&&onB M i.val
theorem y8(M:Nat):nY M 0=[]:=by simp[nY]
theorem vU(M k:Nat)(hk:k<4):nY M (k+1)=nY M k++if onB M k then[⟨k,hk⟩]else[]:=by
 unfold nY;generalize h0:onB M 0=b0;generalize h1:onB M 1=b1;generalize h2:onB M 2=b2;generalize h3:onB M 3=b3;have e:∀k,(List.finRange 4).filter (fun i=>decide (i.val<k)&&onB M i.val)=(List.finRange 4).filter (fun i=>decide (i.val<k)&&(if i.val=0 then b0 else if i.val=1 then b1 else if i.val=2 then b2 else b3)):=fun k=>by
  refine List.filter_congr fun i _=>?_;rcases i with⟨i,hi⟩;rcases(show i=0∨i=1∨i=2∨i=3 by omega)with rfl|rfl|rfl|rfl<;>simp[h0,h1,h2,h3]
 rw[e,e];clear e;rcases(show k=0∨k=1∨k=2∨k=3 by omega)with rfl|rfl|rfl|rfl
 ·rw[h0];clear h0 h1 h2 h3 M;revert b0 b1 b2 b3 hk;decide
 ·rw[h1];clear h0 h1 h2 h3 M;revert b0 b1 b2 b3 hk;decide
 ·rw[h2];clear h0 h1 h2 h3 M;revert b0 b1 b2 b3 hk;decide
 ·rw[h3];clear h0 h1 h2 h3 M;revert b0 b1 b2 b3 hk;decide
theorem ZQ(M k:Nat):(nY M k).length≤k:=by
 by_cases h:k≤4
 ·induction k with
  |zero=>rw[y8];simp
  |succ k ih=>
   have:=ih zLS
   rw[vU M k zLS]
   split<;>simp<;>omega
 ·exact zR (List.length_filter_le _ _) zL2
theorem VC(M:Nat){j k:Nat}(h:j≤k)(hk:k≤4):(nY M j).length≤(nY M k).length:=by
 induction k with
 |zero=>
  obtain rfl:j=0:=by omega
  exact zH _
 |succ k ih=>
  rcases(show j=k+1∨j≤k by omega)with rfl|h1
  ·exact zH _
  ·refine zR (ih h1 zLS) ?_
   rw[vU M k zLS,qU]
   omega
theorem U2(M:Nat){k:Nat}(hk:k<4)(h:onB M k=true):(nY M k).length<(nY M 4).length:=by
 have h1:=VC M (show k+1≤4 by omega) (zH 4);rw[vU M k hk,zN h,qU,List.length_singleton]at h1;omega
def e9(b:Nat)(W W':World):Prop:=W'.heap[b]?=W.heap[b]?
theorem zYL(a:Nat)(ha:a<9223372036854775808):bits .and .i64 (a:Int) 1=((a%2:Nat):Int):=by
 unfold bits;have e:(BitVec.ofInt IntKind.i64.bits (a:Int)&&&BitVec.ofInt IntKind.i64.bits 1).toNat=a%2:=by
  show(BitVec.ofInt 64 (a:Int)&&&BitVec.ofInt 64 1).toNat=a%2;rw[BitVec.ofInt_natCast,BitVec.toNat_and,BitVec.toNat_ofNat,kV zLS,show(BitVec.ofInt 64 1).toNat=1 by decide,Nat.and_one_is_mod]
 simp only[e];rcases(show a%2=0∨a%2=1 by omega)with h|h<;>rw[h]<;>decide
theorem shr_on(M k:Nat)(hM:M≤10000):∃z:Nat,(M:Int)/2^k=(z:Int)∧bits .and .i64 (z:Int) 1=(if onB M k then 1 else 0):=by
 refine⟨M/2^k,by simp,?_⟩;have:=Nat.div_le_self M (2^k);rw[zYL _ zLS];unfold onB;by_cases h:M/2^k%2=1
 ·rw[h];simp
 ·rw[show M/2^k%2=0 by omega];simp
theorem JK(m:Nat)(hm:1≤m)(l Bm M:Nat)(hM:M≤10000)(J Jx:List (Fin 4)→World→Prop)
  (hY:∀pre x W,J pre W→pre.length<(nY M 4).length→YieldAt Fence.wide (m-1) Tryz.prog l #[.int .i64 ((x:Fin 4).val:Int)] W fun e W'=>
   (e=.returned (.bool true)∧J (pre++[x]) W'∧e9 Bm W W')∨(e=.returned (.bool false)∧Jx (pre++[x]) W'))
  (W:World) (hB:Boxed W Bm 3 (.int .i64 (M:Int))) (h0:J [] W):
  CallsIn Fence.wide m Tryz.prog 195 #[.func (.yield l) #[] #[],.pointer (some ⟨Bm,0,none⟩)] W fun e W'=>(∃v,e=.returned v)∧
   ((∃ys,ys=nY M 4∧J ys W')∨(∃pre,True∧Jx pre W')):=by
 refine callsIn_of_wp Tryz.func195 rfl trivial ?_ rfl;simp only[Tryz.ntmps195,jZ,List.length_cons,List.length_nil,Nat.reduceAdd,Nat.reduceSub,qO,Array.replicate_zero,jK,q8,List.nil_append,List.cons_append];gi_wp2
 gi_loopw [4] (fun i wr=>∃k:Nat,k≤4∧i=.int .i64 k∧Boxed wr Bm 3 (.int .i64 (M:Int))∧J (nY M k) wr) (fun i _=>4-(intOf i).toNat)
 case atStart=>exact⟨0,by omega,rfl,hB,by rw[y8];exact h0⟩
 case round=>
  obtain⟨k,hk,rfl,hB,hJ⟩:=hrel
  by_cases hlt:k<4
  ·have cm:=hB.cell
   have ki:(k:Int)<4:=zLS
   obtain⟨z,z1,z2⟩:=shr_on M k hM
   have SU:=zW (vU M k hlt)
   cases hon:onB M k
   ·rw[hon,zL zLA]at z2
    have SV:=zW hon
    clear hon
    gi_wp2
    refine⟨fun _ h=>(by cases h),?_⟩
    gi_wp2
    go_roundw
    case rel=>exact⟨k+1,by omega,by go_num,hB,by rw[SU.out,SV.out,zL zLA,kN];exact hJ⟩
    case measure=>simp[intOf];omega
   ·rw[hon,zN rfl]at z2
    have SV:=zW hon
    clear hon
    obtain⟨fn,tmps,assign,body,hy,hR⟩:=hY (nY M k) ⟨k,hlt⟩ wr hJ (U2 M hlt SV.out)
    dsimp only at hy
    gi_wp2
    refine hR.mono ?_
    rintro e W3 (⟨rfl,hJ3,hk3⟩|⟨rfl,hJx3⟩)
    ·gi_wp2
     go_roundw
     case rel=>exact⟨k+1,by omega,by go_num,hk3.trans hB,by rw[SU.out,SV.out,zN rfl];exact hJ3⟩
     case measure=>simp[intOf];omega
    ·gi_wp2
     refine zS (results_none rfl _ _ _) rfl ?_
     exact⟨⟨_,rfl⟩,.inr ⟨_,trivial,hJx3⟩⟩
  ·have hkn:k=4:=zLS
   subst hkn
   gi_wp2
   go_end0
   exact⟨⟨_,rfl⟩,.inl ⟨_,rfl,hJ⟩⟩
theorem pH(m:Nat)(M:Int)(w:World):CallsIn Fence.wide m Tryz.prog 169 #[.int .i64 M] w fun e w'=>
   e=.returned (.func (.func 195) #[] #[.pointer (some ⟨w.heap.size,0,none⟩)])∧w'=w.alloc (.cells #[.int .i64 M] 3):=by
 refine callsIn_of_wp Tryz.func169 rfl trivial ?_ rfl;simp only[Tryz.ntmps169,jZ,List.length_cons,List.length_nil,Nat.reduceAdd,Nat.reduceSub,qO,Array.replicate_zero,jK,q8,List.nil_append,List.cons_append];gi_wp2
 exact zNT
theorem t8(m:Nat)(hm:1≤m)(Bm M:Nat)(hM:M≤10000)(w:World)(hB:Boxed w Bm 3 (.int .i64 (M:Int))):
  SeqStopsK Fence.wide m Tryz.prog 195 #[.pointer (some ⟨Bm,0,none⟩)] (fun x:Fin 4=> #[Value.int .i64 (x.val:Int)]) (e9 Bm) (fun ys=>ys=nY M 4) (fun _=>True) (nY M 4).length w:=fun l J Jx W hW _ _ hY h0=>
 JK m hm l Bm M hM J Jx hY W ((hW.block Bm hB.lt).trans hB) h0
theorem e9.trans{b:Nat}{u v w:World}(h:e9 b u v)(h':e9 b v w):e9 b u w:=Eq.trans h' h
theorem ZF{b:Nat}{W:World}{l:Nat}{o':Obj}(h1:b≠l):e9 b W (W.putObj l o'):=jX h1
theorem o9(n:Nat)(big:Bool)(w:World):Calls Tryz.prog 168 #[.int .i64 (n:Int),.bool big] w fun e w'=>e=.returned (.tuple #[.int .i64 ((if big then 16 else n:Nat):Int),.int .i64 ((if big then 2 else 1:Nat):Int)])∧w=w':=by
 cases big
 all_goals
  go_enter Tryz.func168,Tryz.ntmps168
  go_wp2
  go_ret2
  exact⟨rfl,rfl⟩
attribute [local go_sem] Oper.semAt_some
theorem iY(M n:Nat)(big:Bool)(k:Nat)(hk:k≤4):yY M n big k=(nY M k).length*per n big:=by
 induction k with
 |zero=>rw[y8];simp[yY]
 |succ k ih=>
  rw[yY,ih zLS,vU M k zLS]
  split
  ·simp[Nat.add_mul]
  ·simp
theorem sM(n:Nat)(big:Bool):(if big then 16 else n)*(if big then 2 else 1)=per n big:=by
 unfold per;cases big<;>simp
theorem ZY(S:Sc)(M n:Nat)(big:Bool)(hM:S.M=(M:Int))(M1:M≤10000)(n1:n≤32)(w:World):
  Calls Tryz.prog 137 #[.agg (kE S),.int .i64 (n:Int),.bool big] w fun e w'=>e=.returned (.int .i64 (yY M n big 4:Nat))∧Below w.heap.size w w':=by
 refine(callsIn_wide (n:=6)).1 ?_;have S0:=zW (SB.new w S);have B0:=zW (nE w (.cells (kE S) 58));have Z0:(w.alloc (.cells (kE S) 58)).heap.size=w.heap.size+1:=zLO;obtain⟨r,hr⟩:∃r:Nat,(if big then 16 else n)=r:=⟨_,rfl⟩;obtain⟨z,hz⟩:∃z:Nat,(if big then 2 else 1)=z:=⟨_,rfl⟩;have r1:(r:Int)≤32:=by rw[←hr];split<;>omega
 have z1:(z:Int)≤2:=by rw[←hz];split<;>omega
 have PZ:=zW (show r*z=per n big by rw[←hr,←hz,sM]);have SH:=zW fun w=>o9 n big w;rw[hr,hz]at SH;have HM:=zW hM;clear hr hz hM;refine callsIn_of_wp_marks Tryz.func137 rfl trivial ?_ rfl;simp only[Tryz.ntmps137,jZ,List.length_cons,List.length_nil,Nat.reduceAdd,Nat.reduceSub,qO,Array.replicate_zero,jK,q8,List.nil_append,List.cons_append];gi_wp2_with fail
 generalize w.alloc (.cells (kE S) 58)=w1 at*;refine⟨trivial,?_⟩;gi_at_call 168
 refine(callsIn_wide.2 (SH.out _)).mono ?_;rintro e w' ⟨rfl,rfl⟩;have c513:=S0.out.maskc;have l0:=S0.out.lt;rw[HM.out]at c513;gi_wp2_with fail
 clear c513 l0;have B7:=zW (((jB w1 3 (.int .i64 (r:Int))).alloc (.cells #[.int .i64 (z:Int)] 3)).alloc (.cells #[.int .i64 0] 3));have B8:=zW ((jB (w1.alloc (.cells #[.int .i64 (r:Int)] 3)) 3 (.int .i64 (z:Int))).alloc (.cells #[.int .i64 0] 3));have B9:=zW (jB ((w1.alloc (.cells #[.int .i64 (r:Int)] 3)).alloc (.cells #[.int .i64 (z:Int)] 3)) 3 (.int .i64 0));have BB:=zW (((B0.out.alloc B0.out.size (.cells #[.int .i64 (r:Int)] 3)).alloc (by simp[Z0];omega) (.cells #[.int .i64 (z:Int)] 3)).alloc (by simp[Z0];omega) (.cells #[.int .i64 0] 3));rw[zT,Z0]at B8;rw[zT,zT,Z0]at B9;rw[Z0]at B7;have Z3:(((w1.alloc (.cells #[.int .i64 (r:Int)] 3)).alloc (.cells #[.int .i64 (z:Int)] 3)).alloc (.cells #[.int .i64 0] 3)).heap.size=w.heap.size+4:=by simp[Z0]
 generalize ((w1.alloc (.cells #[.int .i64 (r:Int)] 3)).alloc (.cells #[.int .i64 (z:Int)] 3)).alloc (.cells #[.int .i64 0] 3)=w2 at*;clear Z0 S0 B0 w1;refine⟨trivial,?_⟩;refine(pH _ _ _).mono ?_;rintro e w' ⟨rfl,rfl⟩;simp only[];gi_wp2_with fail
 have BM:=jB w2 3 (.int .i64 (M:Int));have B7:=zW (B7.out.alloc (.cells #[.int .i64 (M:Int)] 3));have B8:=zW (B8.out.alloc (.cells #[.int .i64 (M:Int)] 3));have B9:=zW (B9.out.alloc (.cells #[.int .i64 (M:Int)] 3));have BB:=zW (BB.out.alloc (by rw[Z3];omega) (.cells #[.int .i64 (M:Int)] 3));have Z4:(w2.alloc (.cells #[.int .i64 (M:Int)] 3)).heap.size=w.heap.size+5:=by simp[Z3]
 rw[Z3]at BM⊢;generalize w2.alloc (.cells #[.int .i64 (M:Int)] 3)=w3 at*;clear Z3;obtain⟨pz,hpz⟩:∃pz:Nat,r*z=pz:=⟨_,rfl⟩;have pz1:pz≤64:=by rw[←hpz];exact Nat.mul_le_mul (by omega:r≤32) (by omega:z≤2)
 have hpI:(r:Int)*(z:Int)=(pz:Int):=by rw[←hpz];simp
 have PQ:=zW (show pz=per n big by rw[←hpz,PZ.out]);clear hpz PZ;refine wpIn_rangeFunc_ownG rfl zLS (gf:=195) (lb:=#[.pointer (some ⟨w.heap.size+4,0,none⟩)]) rfl trivial (enters_of Tryz.func195 zLE rfl)
  (t8 _ zLS (w.heap.size+4) M M1 w3 BM) e9.trans (fun W l o o' hl _ _ _=>ZF zLS) (zB _ _) (fun _=>rfl)
  (fun pre W=>Boxed W (w.heap.size+1) 3 (.int .i64 (r:Int))∧Boxed W (w.heap.size+1+1) 3 (.int .i64 (z:Int))∧Boxed W (w.heap.size+1+1+1) 3 (.int .i64 ((pre.length*pz:Nat):Int))∧Below w.heap.size w W)
  (fun _ _ _=>False)
  (OwnFrom.and (Own.from (boxed_own _ _ _) _) (OwnFrom.and (Own.from (boxed_own _ _ _) _) (OwnFrom.and (Own.from (boxed_own _ _ _) _) (ownFrom_below (zH _) zLS))))
  (fun _ _ _ _ _ hs _ _=>hs)
  ⟨B7.out,B8.out,by simpa using B9.out,BB.out⟩
  (fun x=>{tmps:=#[.agg (kE S),.int .i64 (n:Int),.bool big,.pointer (some ⟨w.heap.size,0,none⟩),undef,undef,.int .i64 0,.pointer (some ⟨w.heap.size+1,0,none⟩),.pointer (some ⟨w.heap.size+1+1,0,none⟩),.pointer (some ⟨w.heap.size+1+1+1,0,none⟩),.tuple #[.int .i64 (r:Int),.int .i64 (z:Int)],.int .i64 (n:Int),.bool big,.tuple #[.int .i64 (r:Int),.int .i64 (z:Int)],.int .i64 (r:Int),.int .i64 (z:Int),.pointer (some ⟨w.heap.size,513,none⟩),.int .i64 (M:Int),.func (.func 195) #[] #[.pointer (some ⟨w.heap.size+4,0,none⟩)],.int .i64 (x.val:Int),undef,undef,undef,undef,undef,undef],defers:=[]}) ?assign ?body ?done ?stop
 case assign=>
  intro l x W K hK
  gi_wp2
  go_simp
  exact hK
 case body=>
  rintro l pre x W ⟨h7,h8,h9,hB⟩ hlt
  have c7:=h7.cell
  have c8:=h8.cell
  have c9:=h9.cell
  have f9:=h9.frozen
  have HH:=zW (zM h7 (zM h8 (zM h9 hB)))
  obtain⟨t,ht⟩:∃t:Nat,pre.length*pz=t:=⟨_,rfl⟩
  have t1:t≤256:=by rw[←ht];exact Nat.mul_le_mul (by have:=ZQ M 4;omega:pre.length≤4) pz1
  have HT:=zW (show(pre++[x]).length*pz=t+pz by rw[qU,Nat.add_mul,ht];simp)
  rw[ht]at c9 HH
  clear h7 h8 h9 hB ht hlt
  gi_wp2
  refine⟨(KeepsOthers.setCell _ _ _).from _,?_,HH.out.1.other zLS _,HH.out.2.1.other zLS _,?_,HH.out.2.2.2.setCell (p:=⟨w.heap.size+1+1+1,0,none⟩) (by show w.heap.size≤w.heap.size+1+1+1;omega) _⟩
  ·exact qL W ⟨w.heap.size+1+1+1,0,none⟩ _ _ (by show w.heap.size+4≠w.heap.size+1+1+1;omega)
  ·rw[HT.out]
   exact HH.out.2.2.1.set _
 case done=>
  rintro D ys W hD rfl ⟨h7,h8,h9,hB⟩ hK
  have c9:=h9.cell
  rw[show((nY M 4).length*pz:Nat)=yY M n big 4 by rw[iY M n big 4 zLS,PQ.out]]at c9
  gi_wp2
  refine⟨by simp,.inl ⟨_,_,rfl,run_takeDeferred hK,?_⟩⟩
  refine⟨_,results_tmp rfl _ _ _,rfl,?_⟩
  exact hB.trans (belowK_b (w:=w) (zH _) W D _ _ zLS hK rfl rfl)
 case stop=>
  rintro D c pre W _ _ h _
  exact h.elim
attribute [local go_sem] Oper.semAt_some
structure But(T:Nat→Prop)(w w':World):Prop where
 os:w'.os=w.os
 tape:w'.tape=w.tape
 output:w'.output=w.output
 size:w.heap.size≤w'.heap.size
 block:∀k,k<w.heap.size→¬T k→w'.heap[k]?=w.heap[k]?
section
variable {T:Nat→Prop} {u w w':World}
theorem But.refl(T:Nat→Prop)(w:World):But T w w:=⟨rfl,rfl,rfl,zH _,fun _ _ _=>rfl⟩
theorem But.trans(h:But T u w)(k:But T w w'):But T u w':=⟨k.os.trans h.os,k.tape.trans h.tape,k.output.trans h.output,zR h.size k.size,fun j hj ht=>(k.block j (zF hj h.size) ht).trans (h.block j hj ht)⟩
theorem But.of_below(h:Below w.heap.size w w'):But T w w':=⟨h.os,h.tape,h.output,h.size,fun k hk _=>h.block k hk⟩
theorem But.all(h:But (fun _=>False) w w'):Below w.heap.size w w':=⟨h.os,h.tape,h.output,h.size,fun k hk=>h.block k hk id⟩
theorem But.below(h:But T w w'){B:Nat}(hB:B≤w.heap.size)(hT:∀k,T k→B≤k):Below B w w':=⟨h.os,h.tape,h.output,h.size,fun k hk=>h.block k zLS fun ht=>by have:=hT k ht;omega⟩
theorem But.mono{T':Nat→Prop}(h:But T w w')(hT:∀k,T k→T' k):But T' w w':=⟨h.os,h.tape,h.output,h.size,fun k hk ht=>h.block k hk fun h=>ht (hT k h)⟩
theorem But.row{b:Nat}(cs:Array Value)(h:T b):But T w (w.setRow b cs):=⟨rfl,rfl,rfl,by simp[World.setRow],fun k hk ht=>zO w b k cs (fun e=>ht (e▸h))⟩
theorem But.cell{b:Nat}(o:Nat)(v:Value)(h:T b):But T w (w.setCell ⟨b,o,none⟩ v):=⟨rfl,rfl,rfl,by simp,fun k hk ht=>qL w _ v k (fun e=>ht (e▸h))⟩
theorem But.drew:But T w w.drew:=⟨rfl,rfl,rfl,zH _,fun _ _ _=>rfl⟩
theorem Blk.but{b:Nat}{t:TypeId}{cs:Array Value}(H:Blk b t cs w)(h:But T w w')(hb:¬T b):Blk b t cs w':=(h.block b H.lt hb).trans H
end
def tA(step:Nat→Pl→Pl)(n:Nat)(S:Sc):List (Fin 4)→Sc
 |[]=>S
 |x::xs=>tA step (n+1) (S.put x.val (step n (S.P x.val))) xs
theorem sY(step:Nat→Pl→Pl):∀(pre:List (Fin 4)) (n:Nat) (S:Sc) (x:Fin 4),tA step n S (pre++[x])=(tA step n S pre).put x.val (step (n+pre.length) ((tA step n S pre).P x.val))
 |[],n,S,x=>rfl
 |y::ys,n,S,x=>by
  rw[List.cons_append,tA,sY step ys,tA,List.length_cons,show n+1+ys.length=n+(ys.length+1) by omega]
def yD(step:Nat→Pl→Pl)(n:Nat)(S:Sc):List (Fin 4)→List Pl
 |[]=>[]
 |x::xs=>S.P x.val::yD step (n+1) (S.put x.val (step n (S.P x.val))) xs
theorem gJ(step:Nat→Pl→Pl):∀(pre:List (Fin 4)) (n:Nat) (S:Sc) (x:Fin 4),yD step n S (pre++[x])=yD step n S pre++[(tA step n S pre).P x.val]
 |[],n,S,x=>rfl
 |y::ys,n,S,x=>by
  rw[List.cons_append,yD,gJ step ys,yD,tA];rfl
theorem a8(step:Nat→Pl→Pl):∀(pre:List (Fin 4)) (n:Nat) (S:Sc),(yD step n S pre).length=pre.length
 |[],n,S=>rfl
 |y::ys,n,S=>by rw[yD,List.length_cons,a8 step ys,List.length_cons]
structure ChW(b:Nat)(S:Sc)(fv:Value) where
 w:World
 s:SB b S w
 f:Blk (b+1) 262 #[fv] w
structure ChI(step:Nat→Pl→Pl)(T:Nat→Prop)(G:List Pl→World→Prop)(S:Sc)(fv:Value)(w:World)(ps:List Pl)(Z:Sc)(W:World):Prop where
 s:SB w.heap.size Z W
 f:Blk (w.heap.size+1) 262 #[fv] W
 r:SB (w.heap.size+1+1) (lB false 0) W
 g:G ps W
 b:But T w W
 sz:w.heap.size+4≤W.heap.size
theorem But.turn{T:Nat→Prop}{u W W':World}{row:Option Nat}(h:But T u W)(hg:W.grownBy W' row)(hr:∀r,row=some r→u.heap.size≤r):But T u W':=
 ⟨hg.os.trans h.os,hg.tape.trans h.tape,hg.output.trans h.output,zR h.size hg.size,fun k hk ht=>(hg.block k (zF hk h.size) (fun e=>by have:=hr k e.symm;omega)).trans (h.block k hk ht)⟩
theorem Blk.turn{b:Nat}{t:TypeId}{cs:Array Value}{W W':World}{row:Option Nat}(H:Blk b t cs W)(hg:W.grownBy W' row)(hr:∀r,row=some r→∃o:Obj,W.heap[r]?=some o∧o.isCells=false):Blk b t cs W':=
 (hg.block b H.lt fun e=>by obtain⟨o,ho,hc⟩:=hr b e.symm;rw[show W.heap[b]?=_ from H]at ho;cases ho;cases hc).trans H
theorem dF(M:Nat){g:Nat}{caps:Array Value}(eg:∀args w,(callFunc g args).run Tryz.prog w=.ok (.enter g args) w)(step:Nat→Pl→Pl)(T:Nat→Prop)(G:List Pl→World→Prop)(w:World)(hT:∀k,T k→k<w.heap.size)
  (hG:∀ps W W',G ps W→Below w.heap.size W W'→G ps W')
  (hf:∀ps p W,ps.length<(nY M 4).length→G ps W→But T w W→Calls Tryz.prog g (#[.agg (kA p)]++caps) W fun e W'=>e=.returned (.agg (kA (step ps.length p)))∧G (ps++[p]) W'∧But T W W')
  (S:Sc) (hM:S.M=(M:Int)) (M1:M≤10000) (h0:G [] w):
  Calls Tryz.prog 166 #[.agg (kE S),.func (.func g) #[] caps] w fun e w'=>e=.returned (.agg (kE (tA step 0 S (nY M 4))))∧G (yD step 0 S (nY M 4)) w'∧But T w w':=by
 refine(callsIn_wide (n:=6)).1 ?_;have hz:=xE;have S0:=zW (((SB.new w S).alloc (.cells #[.func (.func g) #[] caps] 262)).alloc (.cells (kE (lB false 0)) 58));have F0:=zW ((Blk.new (w.alloc (.cells (kE S) 58)) 262 #[.func (.func g) #[] caps]).alloc (.cells (kE (lB false 0)) 58));have R0:=zW (SB.new ((w.alloc (.cells (kE S) 58)).alloc (.cells #[.func (.func g) #[] caps] 262)) (lB false 0));have B0:=zW ((((zB _ w).alloc (zH _) (.cells (kE S) 58)).alloc zLO (.cells #[.func (.func g) #[] caps] 262)).alloc zL2 (.cells (kE (lB false 0)) 58));rw[zT]at F0;rw[zT,zT]at R0;have Z0:(((w.alloc (.cells (kE S) 58)).alloc (.cells #[.func (.func g) #[] caps] 262)).alloc (.cells (kE (lB false 0)) 58)).heap.size=w.heap.size+3:=zLO;have c513:(kE S)[513]?=some (.int .i64 (M:Int)):=by rw[mN _ _ zLS,←hM];rfl
 have HM:=zW hM;have HF:=zW hf;have GG:=zW (zM hT (zM hG h0));clear hM hf hT hG h0;refine callsIn_of_wp_marks Tryz.func166 rfl trivial ?_ rfl;simp only[Tryz.ntmps166,jZ,List.length_cons,List.length_nil,Nat.reduceAdd,Nat.reduceSub,qO,Array.replicate_zero,jK,q8,List.nil_append,List.cons_append];gi_wp2_with fail
 generalize ((w.alloc (.cells (kE S) 58)).alloc (.cells #[.func (.func g) #[] caps] 262)).alloc (.cells (kE (lB false 0)) 58)=w2 at*;clear c513 hz;refine⟨trivial,?_⟩;refine(pH _ _ _).mono ?_;rintro e w' ⟨rfl,rfl⟩;simp only[];gi_wp2_with fail
 have BM:=jB w2 3 (.int .i64 (M:Int));have S1:=zW (S0.out.alloc (.cells #[.int .i64 (M:Int)] 3));have F1:=zW (F0.out.alloc (.cells #[.int .i64 (M:Int)] 3));have R1:=zW (R0.out.alloc (.cells #[.int .i64 (M:Int)] 3));have B1:=zW (B0.out.alloc B0.out.size (.cells #[.int .i64 (M:Int)] 3));have Z1:(w2.alloc (.cells #[.int .i64 (M:Int)] 3)).heap.size=w.heap.size+4:=by simp[Z0]
 rw[Z0]at BM⊢;generalize w2.alloc (.cells #[.int .i64 (M:Int)] 3)=w3 at*;clear Z0 S0 F0 R0 B0;refine wpIn_rangeFunc_ownG rfl zLS (gf:=195) (lb:=#[.pointer (some ⟨w.heap.size+3,0,none⟩)]) rfl trivial (enters_of Tryz.func195 zLE rfl)
  (t8 _ zLS (w.heap.size+3) M M1 w3 BM) e9.trans (fun W l o o' hl _ _ _=>ZF zLS) (zB _ _) (fun _=>rfl)
  (fun pre W=>ChI step T G S (.func (.func g) #[] caps) w (yD step 0 S pre) (tA step 0 S pre) W)
  (fun _ _ _=>False)
  (fun pre W W' row hs hg hr=>⟨Blk.turn hs.s hg (fun r e=>(hr r e).2),Blk.turn hs.f hg (fun r e=>(hr r e).2),Blk.turn hs.r hg (fun r e=>(hr r e).2),GG.out.2.1 _ _ _ hs.g ⟨hg.os,hg.tape,hg.output,hg.size,fun k hk=>hg.block k (zF hk hs.b.size) (fun e=>by have:=(hr k e.symm).1;omega)⟩,hs.b.turn hg (fun r e=>by have:=(hr r e).1;omega),zR hs.sz hg.size⟩)
  (fun _ _ _ _ _ hs _ _=>hs)
  ⟨S1.out,F1.out,R1.out,GG.out.2.1 _ _ _ GG.out.2.2 B1.out,But.of_below B1.out,by omega⟩
  (fun x=>{tmps:=#[.agg (kE S),.func (.func g) #[] caps,.pointer (some ⟨w.heap.size,0,none⟩),.pointer (some ⟨w.heap.size+1,0,none⟩),.pointer (some ⟨w.heap.size+1+1,0,none⟩),.int .i64 (x.val:Int),.pointer (some ⟨w.heap.size,513,none⟩),.int .i64 (M:Int),.func (.func 195) #[] #[.pointer (some ⟨w.heap.size+3,0,none⟩)],.int .i64 (x.val:Int),undef,undef,undef,undef,undef,undef,undef,undef,undef,undef],defers:=[]}) ?assign ?body ?done ?stop
 case assign=>
  intro l x W K hK
  gi_wp2
  exact hK
 case body=>
  rintro l pre x W H hlt
  obtain⟨k,hk⟩:=x
  obtain⟨Z,hZ⟩:∃Z,tA step 0 S pre=Z:=⟨_,rfl⟩
  obtain⟨ps,hps⟩:∃ps,yD step 0 S pre=ps:=⟨_,rfl⟩
  have hpl:ps.length=pre.length:=by rw[←hps,a8]
  have HP:=zW (show yD step 0 S (pre++[⟨k,hk⟩])=ps++[Z.P k] by rw[gJ,hps,hZ])
  rw[hps]at H
  clear hps
  have HZ:=zW (show tA step 0 S (pre++[⟨k,hk⟩])=Z.put k (step ps.length (Z.P k)) by rw[sY,hZ,qY,hpl])
  rw[hZ]at H
  have HH:=zW H
  have HL:=zW (zM hlt hk)
  clear H hlt hZ
  gi_step
  apply wpIn_block
  refine sJ (C:=fun w'=>∃x:ChW w.heap.size Z (.func (.func g) #[] caps),w'=x.w) 9 [([0,1,2,3,4,5,7],6,false)] [8] [] zLE zLE ?_ ?_ ?_ ⟨⟨W.drew,HH.out.s.drew,HH.out.f.drew⟩,rfl⟩ ?_
  ·exact fun _ _ d _ _ h=>by cases d<;>exact h
  ·exact fun _ _ h=>h
  ·rintro _ w' ⟨x,rfl⟩ h
   exact⟨⟨w',x.s.step h,x.f.step h⟩,rfl⟩
  intro wd hwd
  have D:=zW (show ChI step T G S (.func (.func g) #[] caps) w ps Z wd from by rw[hwd];exact⟨HH.out.s.drew,HH.out.f.drew,HH.out.r.drew,GG.out.2.1 _ _ _ HH.out.g ⟨rfl,rfl,rfl,zH _,fun _ _=>rfl⟩,HH.out.b.trans But.drew,HH.out.sz⟩)
  have KW:=zW (show But T W wd from by rw[hwd];exact But.drew)
  have kI:(k:Int)<4:=zLS
  have cf:∀x:ChW w.heap.size Z (.func (.func g) #[] caps),x.w.cell? ⟨w.heap.size+1,0,none⟩=some (.func (.func g) #[] caps):=fun x=>by rw[x.f.cell];rfl
  have CF:=zW (fun(w':World) (h:∃x:ChW w.heap.size Z (.func (.func g) #[] caps),w'=x.w)=>show w'.cell? ⟨w.heap.size+1,0,none⟩=some (.func (.func g) #[] caps) by obtain⟨x,rfl⟩:=h;exact cf x)
  have HS:=zW (fun(w':World) (h:∃x:ChW w.heap.size Z (.func (.func g) #[] caps),w'=x.w)=>show SB w.heap.size Z w' by obtain⟨x,rfl⟩:=h;exact x.s)
  clear hwd
  dsimp only
  refine vF zLC zLU ?_
  go_big_quiet_step (rfl)
  refine aU ⟨_,Tryz.underlying262,rfl⟩ CF.out rfl (.tmp 3) rfl zL0 ?_
  simp only[Act.put,zQ,zZ,zJ]
  go_big_quiet_step (rfl)
  go_big_quiet_step (rfl)
  go_big_quiet_step (rfl)
  refine lV (o:=k*128) (n:=128) uP HS.out zMV rfl (.tmp 14) rfl zL0 ?_
  rw[U4 _ _ hk]
  simp only[Act.put,zQ,zZ,zJ]
  go_big_quiet_step (rfl)
  refine zY ?_
  refine vT rfl ?_
  intro w1 g1 C1 K hK
  have D1:=zW (show ChI step T G S (.func (.func g) #[] caps) w ps Z w1 from⟨D.out.s.step g1,D.out.f.step g1,D.out.r.step g1,GG.out.2.1 _ _ _ D.out.g (g1.mono D.out.b.size),D.out.b.trans (But.of_below g1),zR D.out.sz g1.size⟩)
  have K1:=zW (KW.out.trans (But.of_below g1))
  refine lE (g:=g) (caps:=caps) (args:=#[.agg (kA (Z.P k))]++caps) (.tmp 11) #[.tmp 15] #[55] rfl eg zLP zLP ?_
  refine(HF.out ps (Z.P k) w1 (by rw[hpl];exact HL.out.1) D1.out.g D1.out.b).mono ?_
  rintro e w2' ⟨rfl,hg2,b2⟩
  have nT:∀j,w.heap.size≤j→¬T j:=fun j hj ht=>by have:=GG.out.1 j ht;omega
  have D2:=zW (show ChI step T G S (.func (.func g) #[] caps) w (ps++[Z.P k]) Z w2' from⟨Blk.but D1.out.s b2 (nT _ zLS),Blk.but D1.out.f b2 (nT _ zLS),Blk.but D1.out.r b2 (nT _ zLS),hg2,D1.out.b.trans b2,zR D1.out.sz b2.size⟩)
  have K2:=zW (K1.out.trans b2)
  clear D D1 K1 KW b2 hg2 g1 C1
  refine⟨_,rfl,?_⟩
  refine hK _ _ ⟨⟨w2',D2.out.s,D2.out.f⟩,rfl⟩ ?_
  clear hK K
  simp only[Act.put,zQ,zZ,zJ]
  refine lR zLC zLU ?_
  go_big_quiet_step (rfl)
  refine zY ?_
  refine lT rfl ?_
  intro w3' g3 C3 K hK
  obtain⟨st,hst⟩:∃st,step ps.length (Z.P k)=st:=⟨_,rfl⟩
  rw[hst]at HZ⊢
  refine mW (o:=k*128) (ds:=kA st) uP (D2.out.s.step g3) (lZ _) zMV (vY _) (.tmp 18) (.tmp 16) rfl zLP zLP ?_
  rw[sc_put _ _ hk]
  refine hK _ _ ?_
  clear hK K
  refine zY ?_
  intro w4 g4
  have D3:=zW (show ChI step T G S (.func (.func g) #[] caps) w (ps++[Z.P k]) Z w3' from⟨D2.out.s.step g3,D2.out.f.step g3,D2.out.r.step g3,GG.out.2.1 _ _ _ D2.out.g (g3.mono D2.out.b.size),D2.out.b.trans (But.of_below g3),zR D2.out.sz g3.size⟩)
  have K3:=zW (K2.out.trans (But.of_below g3))
  have q1:=Z1
  have hsz:=K3.out.size
  have B4:=zW (show But (fun j=>j=w.heap.size) w3' w4 from(But.row (T:=fun j=>j=w.heap.size) _ rfl).trans (But.of_below g4))
  have hgr:Below w.heap.size w3' w4:=B4.out.below (D3.out.b.size) (fun j hj=>by omega)
  have hWs:=HH.out.sz
  have hkeep:∀j,w.heap.size+1≤j→j<W.heap.size→w4.heap[j]?=W.heap[j]?:=fun j hj hl=>by
   have h1:=K3.out.block j hl (fun ht=>by have:=GG.out.1 j ht;omega);have h2:=B4.out.block j (zF hl K3.out.size) (by show¬j=w.heap.size;omega);exact h2.trans h1
  refine⟨⟨zR K3.out.size B4.out.size,fun j o hB ho hc=>?_⟩,?_,?_⟩
  ·rw[hkeep j zLS (qK.1 ho).1,ho]
  ·exact hkeep _ zLS zLS
  ·show ChI step T G S (.func (.func g) #[] caps) w (yD step 0 S (pre++[(⟨k,hk⟩:Fin 4)])) (tA step 0 S (pre++[(⟨k,hk⟩:Fin 4)])) w4
   rw[HP.out,HZ.out]
   refine⟨?_,?_,?_,?_,?_,zR D3.out.sz B4.out.size⟩
   ·exact Blk.but (Blk.store D3.out.s _) (But.of_below (T:=fun _=>False) g4) id
   ·exact Blk.but D3.out.f B4.out (by show¬w.heap.size+1=w.heap.size;omega)
   ·exact Blk.but D3.out.r B4.out (by show¬w.heap.size+1+1=w.heap.size;omega)
   ·exact GG.out.2.1 _ _ _ D3.out.g hgr
   ·exact⟨hgr.os.trans D3.out.b.os,hgr.tape.trans D3.out.b.tape,hgr.output.trans D3.out.b.output,zR D3.out.b.size hgr.size,fun j hj ht=>(hgr.block j hj).trans (D3.out.b.block j hj ht)⟩
 case done=>
  rintro D ys W hD rfl H hK
  obtain⟨Z,hZ⟩:∃Z,tA step 0 S (nY M 4)=Z:=⟨_,rfl⟩
  rw[hZ]at H
  have HH:=zW H
  have HZ:=zW hZ
  clear H hZ
  simp only[Exit.inBlock,Exit.then]
  gi_step
  refine wpIn_wide.2 ?_
  go_step
  refine zG ?_
  refine kO vB HH.out.s (lQ _) rfl (.tmp 2) rfl zL0 ?_
  refine kU (ds:=kE Z) vB HH.out.r (lQ _) (lQ _) (nQ _) rfl (.tmp 4) (.tmp 19) rfl zLP zLP ?_
  simp only[Act.put,zQ,zZ,zJ]
  have hDs:w.heap.size+4≤D:=zLS
  have R5:SB (w.heap.size+1+1) Z ((W.setRow (w.heap.size+1+1) (kE Z)).putObj D (.deferred none)):=(jX zLS).trans (Blk.store HH.out.r (kE Z))
  have B5:Below w.heap.size W ((W.setRow (w.heap.size+1+1) (kE Z)).putObj D (.deferred none)):=
   ⟨rfl,rfl,rfl,by simp[World.setRow,World.putObj],fun j hj=>(jX zLS).trans (zO W _ j _ zLS)⟩
  have hK5:(W.setRow (w.heap.size+1+1) (kE Z)).heap[D]?=some (.deferred (some [])):=(zO W _ D _ zLS).trans hK
  have RR:=zW (zM R5 (zM B5 hK5))
  clear R5 B5 hK5
  generalize W.setRow (w.heap.size+1+1) (kE Z)=W5 at*
  iterate 4 go_step
  refine⟨by simp,.inl ⟨_,_,rfl,run_takeDeferred RR.out.2.2,?_⟩⟩
  refine⟨_,zE rfl _ _ (w.heap.size+1+1) _ _ _ _ rfl RR.out.1 Tryz.underlying58 rfl zMB,?_,?_,?_⟩
  ·rw[HZ.out]
  ·exact GG.out.2.1 _ _ _ HH.out.g RR.out.2.1
  ·have h1:=RR.out.2.1
   exact⟨h1.os.trans HH.out.b.os,h1.tape.trans HH.out.b.tape,h1.output.trans HH.out.b.output,zR HH.out.b.size h1.size,fun j hj ht=>(h1.block j hj).trans (HH.out.b.block j hj ht)⟩
 case stop=>
  rintro D c pre W _ _ h _
  exact h.elim
def xO(f:Nat→Pl→Pl)(M:Nat)(S:Sc):Sc:=⟨fun i=>if onB M i then f i (S.P i)else S.P i,S.hi,S.M⟩
theorem dN(step:Nat→Pl→Pl):∀(l:List (Fin 4)) (n:Nat) (S:Sc),(tA step n S l).hi=S.hi∧(tA step n S l).M=S.M
 |[],n,S=>⟨rfl,rfl⟩
 |x::xs,n,S=>dN step xs (n+1) _
theorem M9(step:Nat→Pl→Pl)(S:Sc)(M k:Nat)(hk:k≤4):∀j,(tA step 0 S (nY M k)).P j=if j<k∧onB M j=true then step (nY M j).length (S.P j)else S.P j:=by
 induction k with
 |zero=>intro j;rw[y8,zL zLS];rfl
 |succ k ih=>
  intro j
  rw[vU M k zLS]
  have ih:=ih zLS
  cases h:onB M k
  ·rw[zL zLA,kN,ih j]
   by_cases e:j<k∧onB M j=true
   ·rw[zN e,zN ⟨by omega,e.2⟩]
   ·rw[zL e,zL]
    rintro⟨h1,h2⟩
    rcases(show j<k∨j=k by omega)with h3|rfl
    ·exact e ⟨h3,h2⟩
    ·rw[h]at h2;cases h2
  ·rw[zN rfl,sY,qY]
   unfold Sc.put
   simp only
   by_cases e:j=k
   ·subst e
    rw[zN rfl,zN ⟨by omega,h⟩,ih j,zL zLS]
   ·rw[zL e,ih j]
    by_cases e2:j<k∧onB M j=true
    ·rw[zN e2,zN ⟨by omega,e2.2⟩]
    ·rw[zL e2,zL (fun h=>e2 ⟨by omega,h.2⟩)]
theorem WY(step:Nat→Pl→Pl)(S:Sc)(M k:Nat)(hk:k≤4):yD step 0 S (nY M k)=(nY M k).map fun i=>S.P i.val:=by
 induction k with
 |zero=>rw[y8];rfl
 |succ k ih=>
  rw[vU M k zLS]
  split
  ·rw[gJ,ih zLS,kY,M9 step S M k zLS k,zL zLS]
   rfl
  ·rw[kN,ih zLS]
theorem dH(step:Nat→Pl→Pl)(S:Sc)(M:Nat):kE (tA step 0 S (nY M 4))=kE (xO (fun i p=>step (nY M i).length p) M S):=by
 refine tJ (fun i hi y hy=>?_) (dN _ _ _ _).1 (dN _ _ _ _).2;rw[M9 step S M 4 zLS i];unfold xO;simp only;by_cases h:onB M i=true
 ·rw[zN ⟨hi,h⟩,zN h]
 ·rw[zL (fun e=>h e.2),zL h]
theorem PX:(match Tryz.prog.underlying 58 with|some (.struct fields)=>fields.toList.mapM (fun f=>(Tryz.prog.info? f.type).map fun i=>(f.offset,i.size))|_=>none)=some [(0,512),(512,1),(513,1)]:=by kernel_rfl
theorem QZ(parts:List (Nat×Value)):Tryz.prog.built 58 parts=Instr.fill ([(0,512),(512,1),(513,1)].toArray[·]?) (kE (lB false 0)) parts:=by
 obtain⟨it,hit,hz⟩:=kW.1 XJ;simp only[jU]at hz;have hp:=PX;rw[Tryz.underlying58]at hp;unfold Program.built;rw[hit,Tryz.underlying58];simp only at hp⊢;rw[hz.1,hp];rfl
theorem TW(m:Int):Tryz.prog.built 58 [(2,.int .i64 m)]=some (kE (lB false m)):=by
 rw[QZ];have e:kE (lB false m)=(kE (lB false 0)).setIfInBounds 513 (.int .i64 m):=by rw[JW];rfl
 rw[e];have hC:=lQ (lB false 0);generalize kE (lB false 0)=C at*;simp[Instr.fill,Value.cells,hC]
theorem U5(S:Sc)(v:Bool):(kE S).setIfInBounds 512 (.bool v)=kE ⟨S.P,v,S.M⟩:=by
 apply qZ
 intro j
 rw[qX,lQ];by_cases h1:512=j
 ·subst h1;rw[zN rfl,zN zLS,mN _ _ zLS];rfl
 ·rw[zL h1];by_cases h3:j<514
  ·rw[mN _ _ h3,mN _ _ h3];unfold yZ;by_cases h5:j<512
   ·rw[zN h5,zN h5]
   ·rw[zL h5,zL h5,zL zLS,zL zLS]
  ·rw[zD zMV,zD zMV]
theorem TY(v:Bool)(m:Int):Tryz.prog.built 58 [(1,.bool v),(2,.int .i64 m)]=some (kE (lB v m)):=by
 rw[QZ];have e:kE (lB v m)=((kE (lB false 0)).setIfInBounds 512 (.bool v)).setIfInBounds 513 (.int .i64 m):=by rw[U5,JW];rfl
 rw[e];have hC:=lQ (lB false 0);generalize kE (lB false 0)=C at*;simp[Instr.fill,Value.cells,hC]
theorem zQP(w:World):Calls Tryz.prog 47 #[] w fun e w'=>e=.returned (.agg (kE (lB false 1)))∧Below w.heap.size w w':=by
 have hz:=xE;go_enter Tryz.func47,Tryz.ntmps47;go_upto_region 1 with fail;refine zG ?_;have R:=zW (SB.new w (lB false 0));have B:=zW (nE w (.cells (kE (lB false 0)) 58));generalize w.alloc (.cells (kE (lB false 0)) 58)=w1 at*;clear hz;refine mQ (cs:=kE (lB false 1)) rfl rfl (by simp[Act.eval];exact TW 1) ?_;refine kU (ds:=kE (lB false 1)) vB R.out (lQ _) (lQ _) (nQ _) rfl (.tmp 0) (.tmp 1) rfl zLP zLP ?_;have R2:=zW (R.out.store (lB false 1));have B2:=zW (vS B.out (zH _) (kE (lB false 1)));generalize w1.setRow w.heap.size (kE (lB false 1))=w2 at*;iterate 4 go_step
 exact zS (zE rfl _ _ w.heap.size _ _ _ _ rfl R2.out Tryz.underlying58 rfl zMB) rfl ⟨rfl,B2.out⟩
theorem MU(S:Sc)(m:Int)(w:World):Calls Tryz.prog 140 #[.agg (kE S),.int .i64 m] w fun e w'=>e=.returned (.agg (kE (S.mask m)))∧Below w.heap.size w w':=by
 have hz:=xE;go_enter Tryz.func140,Tryz.ntmps140;go_upto_region 1 with fail;have S0:=zW ((SB.new w S).alloc (.cells (kE (lB false 0)) 58));have R:=zW (SB.new (w.alloc (.cells (kE S) 58)) (lB false 0));have B:=zW ((nE w (.cells (kE S) 58)).alloc zLO (.cells (kE (lB false 0)) 58));rw[zT]at R;generalize (w.alloc (.cells (kE S) 58)).alloc (.cells (kE (lB false 0)) 58)=w1 at*;clear hz;have c1:=S0.out.maskc;have c2:=S0.out.fz 513;go_upto_region 2 with fail;refine zG ?_;have S1:=zW (S0.out.setMask m);have R1:=zW (R.out.other (g:=w.heap.size) zLS 513 (.int .i64 m));have B1:=zW (B.out.setCell (p:=⟨w.heap.size,513,none⟩) (zH _) (.int .i64 m));generalize w1.setCell ⟨w.heap.size,513,none⟩ (.int .i64 m)=w2 at*;clear c1 c2;refine kO vB S1.out (lQ _) rfl (.tmp 2) rfl zL0 ?_;refine kU (ds:=kE (S.mask m)) vB R1.out (lQ _) (lQ _) (nQ _) rfl (.tmp 4) (.tmp 7) rfl zLP zLP ?_;have R2:=zW (R1.out.store (S.mask m));have B2:=zW (vS B1.out (jW _) (kE (S.mask m)));generalize w2.setRow (w.heap.size+1) (kE (S.mask m))=w3 at*;exact zN2
theorem OG(S:Sc)(v:Bool)(w:World):Calls Tryz.prog 136 #[.agg (kE S),.bool v] w fun e w'=>e=.returned (.agg (kE (lB v S.M)))∧Below w.heap.size w w':=by
 have hz:=xE;obtain⟨m,hm⟩:∃m,S.M=m:=⟨_,rfl⟩;rw[hm];go_enter Tryz.func136,Tryz.ntmps136;go_upto_region 1 with fail;refine zG ?_;have S0:=zW ((SB.new w S).alloc (.cells (kE (lB false 0)) 58));have R:=zW (SB.new (w.alloc (.cells (kE S) 58)) (lB false 0));have B:=zW ((nE w (.cells (kE S) 58)).alloc zLO (.cells (kE (lB false 0)) 58));rw[zT]at R;generalize (w.alloc (.cells (kE S) 58)).alloc (.cells (kE (lB false 0)) 58)=w1 at*;clear hz;have c1:=S0.out.maskc;rw[hm]at c1;clear hm;iterate 9 go_step
 refine mQ (cs:=kE (lB v m)) rfl rfl (by simp[Act.eval];exact TY v m) ?_;refine kU (ds:=kE (lB v m)) vB R.out (lQ _) (lQ _) (nQ _) rfl (.tmp 4) (.tmp 8) rfl zLP zLP ?_;have R2:=zW (R.out.store (lB v m));have B2:=zW (vS B.out (jW _) (kE (lB v m)));generalize w1.setRow (w.heap.size+1) (kE (lB v m))=w2 at*;exact zN2
theorem RU(p:Pl)(w:World):Calls Tryz.prog 167 #[.agg (kA p)] w fun e w'=>e=.returned (.agg (kA fun _=>0#128))∧Below w.heap.size w w':=by
 have hz:=yX;go_enter Tryz.func167,Tryz.ntmps167;go_upto_region 1 with fail;refine zG ?_;have R:=zW (mR.new (w.alloc (.cells (kA p) 55)) (fun _=>0#128) 55);have B:=zW ((nE w (.cells (kA p) 55)).alloc zLO (.cells (kA fun _=>0#128) 55));rw[zT]at R;generalize (w.alloc (.cells (kA p) 55)).alloc (.cells (kA fun _=>0#128) 55)=w1 at*;clear hz;refine WH rfl rfl ?_;refine kU (ds:=kA fun _=>0#128) uP R.out (lZ _) (lZ _) (vY _) rfl (.tmp 2) (.tmp 3) rfl zLP zLP ?_;have R2:=zW (R.out.store fun _=>0#128);have B2:=zW (vS B.out (jW _) (kA fun _=>0#128));generalize w1.setRow (w.heap.size+1) (kA fun _=>0#128)=w2 at*;iterate 4 go_step
 exact zS (zE rfl _ _ (w.heap.size+1) _ _ _ _ rfl R2.out Tryz.underlying55 rfl (by rw[uP.i,lZ])) rfl ⟨rfl,B2.out⟩
theorem RP(S:Sc)(M:Nat)(hM:S.M=(M:Int))(M1:M≤10000)(w:World):Calls Tryz.prog 135 #[.agg (kE S)] w fun e w'=>e=.returned (.agg (kE (xO (fun _ _ _=>0#128) M S)))∧Below w.heap.size w w':=by
 have hz:=xE;obtain⟨Z,hZ⟩:∃Z,xO (fun _ _ _=>0#128) M S=Z:=⟨_,rfl⟩;rw[hZ];have CH:=zW fun w=>dF M (g:=167) (caps:=#[]) (enters_of Tryz.func167 zLE rfl) (fun _ _ _=>0#128) (fun _=>False) (fun _ _=>True) w (fun _ h=>h.elim) (fun _ _ _ _ _=>trivial)
  (fun n p W _ _ _=>(RU p W).mono fun e W' h=>⟨h.1,trivial,But.of_below h.2⟩) S hM M1 trivial
 have RC:=zW ((dH (fun _ _ _=>0#128) S M).trans (by rw[hZ]));clear hZ;go_enter Tryz.func135,Tryz.ntmps135;go_upto_region 1 with fail;refine zG ?_;have S0:=zW ((SB.new w S).alloc (.cells (kE (lB false 0)) 58));have R:=zW (SB.new (w.alloc (.cells (kE S) 58)) (lB false 0));have B:=zW ((nE w (.cells (kE S) 58)).alloc zLO (.cells (kE (lB false 0)) 58));rw[zT]at R;generalize (w.alloc (.cells (kE S) 58)).alloc (.cells (kE (lB false 0)) 58)=w1 at*;clear hz;refine kO vB S0.out (lQ _) rfl (.tmp 1) rfl zL0 ?_;simp only[Act.put,zQ,zZ,zJ];refine qH rfl fun K hK=>?_;refine lE (g:=166) (caps:=#[]) (args:=#[.agg (kE S),.func (.func 167) #[] #[]]) (.func 166) #[.tmp 3,.func 167] #[58,262] rfl (enters_of Tryz.func166 zLE rfl) rfl zL0 ?_;refine(CH.out w1).mono ?_;rintro e w2 ⟨rfl,-,b2⟩;have b2:=b2.all;have R2:=zW (R.out.step b2);have B2:=zW (B.out.trans (b2.mono B.out.size));refine⟨_,rfl,hK _ _ ?_⟩;clear hK K b2 S0 R B;rw[RC.out];simp only[Act.put,zQ,zZ,zJ];refine kU (ds:=kE Z) vB R2.out (lQ _) (lQ _) (nQ _) rfl (.tmp 2) (.tmp 4) rfl zLP zLP ?_;have R3:=zW (R2.out.store Z);have B3:=zW (vS B2.out (jW _) (kE Z));generalize w2.setRow (w.heap.size+1) (kE Z)=w3 at*;iterate 4 go_step
 exact zS (zE rfl _ _ (w.heap.size+1) _ _ _ _ rfl R3.out Tryz.underlying58 rfl zMB) rfl ⟨rfl,B3.out⟩
def ScG(bx bY bs:Nat)(dx dy:Int)(S:Sc)(W:World):Prop:=Boxed W bx 3 (.int .i64 dx)∧Boxed W bY 3 (.int .i64 dy)∧SB bs S W
theorem mO{w w':World}{b:Nat}{t:TypeId}{v:Value}(h:Boxed w b t v)(hb:Below w.heap.size w w'):Boxed w' b t v:=(hb.block b h.lt).trans h
theorem M7(bx bY bs:Nat)(dx dy:Int)(S:Sc)(m h:Nat)(hr:Res S.hi m h)(d0: -1000≤dx)(d1:dx≤1000)(e0: -1000≤dy)(e1:dy≤1000)(p:Pl)(w:World)(G:ScG bx bY bs dx dy S w):
  Calls Tryz.prog 175 #[.agg (kA p),.pointer (some ⟨bx,0,none⟩),.pointer (some ⟨bY,0,none⟩),.pointer (some ⟨bs,0,none⟩)] w fun e w'=>e=.returned (.agg (kA (mH p dx dy m h)))∧Below w.heap.size w w':=by
 have hz:=yX;obtain⟨v,hv⟩:∃v,S.hi=v:=⟨_,rfl⟩;obtain⟨Q,hQ⟩:∃Q,mH p dx dy m h=Q:=⟨_,rfl⟩;rw[hv]at hr;have SC:=zW fun w=>scW hr hQ d0 d1 e0 e1 w;rw[hQ];clear hQ d0 d1 e0 e1 hr;have P0:=zW ((mR.new w p 55).alloc (.cells (kA fun _=>0#128) 55));have R:=zW (mR.new (w.alloc (.cells (kA p) 55)) (fun _=>0#128) 55);have B:=zW ((nE w (.cells (kA p) 55)).alloc zLO (.cells (kA fun _=>0#128) 55));have cx:=(mO G.1 B.out).cell;have cy:=(mO G.2.1 B.out).cell;have cs:=(G.2.2.step B.out).hires;rw[hv]at cs;rw[zT]at R;clear G hv;go_enter Tryz.func175,Tryz.ntmps175;go_upto_region 1 with fail;refine zG ?_;generalize (w.alloc (.cells (kA p) 55)).alloc (.cells (kA fun _=>0#128) 55)=w1 at*;clear hz;refine kO uP P0.out (lZ _) rfl (.tmp 4) rfl zL0 ?_;simp only[Act.put,zQ,zZ,zJ];go_wp2_with fail;refine(SC.out _).mono ?_;rintro e w2 ⟨rfl,b2⟩;have R2:=zW (R.out.step b2);have B2:=zW (B.out.trans (b2.mono B.out.size));clear b2 P0 R B cx cy cs;simp only[];go_at_K
 go_step
 refine kU (ds:=kA Q) uP R2.out (lZ _) (lZ _) (vY _) rfl (.tmp 5) (.tmp 11) rfl zLP zLP ?_;have R3:=zW (R2.out.store Q);have B3:=zW (vS B2.out (jW _) (kA Q));generalize w2.setRow (w.heap.size+1) (kA Q)=w3 at*;iterate 4 go_step
 exact zS (zE rfl _ _ (w.heap.size+1) _ _ _ _ rfl R3.out Tryz.underlying55 rfl (by rw[uP.i,lZ])) rfl ⟨rfl,B3.out⟩
theorem wA(S:Sc)(M:Nat)(hM:S.M=(M:Int))(M1:M≤10000)(dx dy:Int)(m h:Nat)(hr:Res S.hi m h)(d0: -64≤dx)(d1:dx≤64)(e0: -64≤dy)(e1:dy≤64)(w:World):
  Calls Tryz.prog 141 #[.agg (kE S),.int .i64 dx,.int .i64 dy] w fun e w'=>e=.returned (.agg (kE (xO (fun _ p=>mH p dx dy m h) M S)))∧Below w.heap.size w w':=by
 have hz:=xE;obtain⟨Z,hZ⟩:∃Z,xO (fun _ p=>mH p dx dy m h) M S=Z:=⟨_,rfl⟩;rw[hZ];have CH:=zW fun(bx bY bs:Nat) (w:World) (l1:bx<w.heap.size) (l2:bY<w.heap.size) (l3:bs<w.heap.size) (H:ScG bx bY bs dx dy S w)=>dF M (g:=175) (caps:=#[.pointer (some ⟨bx,0,none⟩),.pointer (some ⟨bY,0,none⟩),.pointer (some ⟨bs,0,none⟩)]) (enters_of Tryz.func175 zLE rfl) (fun _ p=>mH p dx dy m h) (fun _=>False) (fun _ W=>ScG bx bY bs dx dy S W∧w.heap.size≤W.heap.size) w (fun _ h=>h.elim)
  (fun _ W W' G b=>⟨⟨(b.block bx l1).trans G.1.1,(b.block bY l2).trans G.1.2.1,(b.block bs l3).trans G.1.2.2⟩,zR G.2 b.size⟩)
  (fun n p W _ G _=>(M7 bx bY bs dx dy S m h hr zLS zLS zLS zLS p W G.1).mono fun e W' h=>⟨h.1,⟨⟨mO G.1.1 h.2,mO G.1.2.1 h.2,G.1.2.2.step h.2⟩,zR G.2 h.2.size⟩,But.of_below h.2⟩) S hM M1 ⟨H,zH _⟩
 have RC:=zW ((dH (fun _ p=>mH p dx dy m h) S M).trans (by rw[hZ]));clear hZ;have S0:=zW ((((SB.new w S).alloc (.cells #[.int .i64 dx] 3)).alloc (.cells #[.int .i64 dy] 3)).alloc (.cells (kE (lB false 0)) 58));have X0:=zW (((jB (w.alloc (.cells (kE S) 58)) 3 (.int .i64 dx)).alloc (.cells #[.int .i64 dy] 3)).alloc (.cells (kE (lB false 0)) 58));have Y0:=zW ((jB ((w.alloc (.cells (kE S) 58)).alloc (.cells #[.int .i64 dx] 3)) 3 (.int .i64 dy)).alloc (.cells (kE (lB false 0)) 58));have R:=zW (SB.new (((w.alloc (.cells (kE S) 58)).alloc (.cells #[.int .i64 dx] 3)).alloc (.cells #[.int .i64 dy] 3)) (lB false 0));have B:=zW ((((nE w (.cells (kE S) 58)).alloc zLO (.cells #[.int .i64 dx] 3)).alloc zL2 (.cells #[.int .i64 dy] 3)).alloc zL2 (.cells (kE (lB false 0)) 58));rw[zT]at X0;rw[zT,zT]at Y0;rw[zT,zT,zT]at R;go_enter Tryz.func141,Tryz.ntmps141;go_upto_region 1 with fail;generalize (((w.alloc (.cells (kE S) 58)).alloc (.cells #[.int .i64 dx] 3)).alloc (.cells #[.int .i64 dy] 3)).alloc (.cells (kE (lB false 0)) 58)=w1 at*;clear hz;have cx:=X0.out.cell;have cy:=Y0.out.cell;have fx:=X0.out.frozen;have fy:=Y0.out.frozen;have mx:max dx (-128)=dx:=zLS;have mx2:min dx 128=dx:=zLS;have my:max dy (-64)=dy:=zLS;have my2:min dy 64=dy:=zLS;go_upto_region 3 with fail;have S1:=zW ((S0.out.other (g:=w.heap.size+1) zLS 0 (.int .i64 dx)).other (g:=w.heap.size+1+1) zLS 0 (.int .i64 dy));have X1:=zW ((X0.out.set (.int .i64 dx)).other (B':=w.heap.size+1+1) zLS (.int .i64 dy));have Y1:=zW ((Y0.out.other (B':=w.heap.size+1) zLS (.int .i64 dx)).set (.int .i64 dy));have R1:=zW ((R.out.other (g:=w.heap.size+1) zLS 0 (.int .i64 dx)).other (g:=w.heap.size+1+1) zLS 0 (.int .i64 dy));have B1:=zW ((B.out.setCell (p:=⟨w.heap.size+1,0,none⟩) (by show w.heap.size≤w.heap.size+1;omega) (.int .i64 dx)).setCell (p:=⟨w.heap.size+1+1,0,none⟩) (by show w.heap.size≤w.heap.size+1+1;omega) (.int .i64 dy));generalize (w1.setCell ⟨w.heap.size+1,0,none⟩ (.int .i64 dx)).setCell ⟨w.heap.size+1+1,0,none⟩ (.int .i64 dy)=w2 at*;clear cx cy fx fy mx mx2 my my2 S0 X0 Y0 R B;refine zG ?_;refine kO vB S1.out (lQ _) rfl (.tmp 3) rfl zL0 ?_;simp only[Act.put,zQ,zZ,zJ];iterate 3 go_step
 refine qH rfl fun K hK=>?_;refine lE (g:=166) (caps:=#[]) (args:=#[.agg (kE S),.func (.func 175) #[] #[.pointer (some ⟨w.heap.size+1,0,none⟩),.pointer (some ⟨w.heap.size+1+1,0,none⟩),.pointer (some ⟨w.heap.size,0,none⟩)]]) (.func 166) #[.tmp 13,.tmp 14] #[58,262] rfl (enters_of Tryz.func166 zLE rfl) rfl zL0 ?_;refine(CH.out _ _ _ w2 X1.out.lt Y1.out.lt S1.out.lt ⟨X1.out,Y1.out,S1.out⟩).mono ?_;rintro e w3 ⟨rfl,-,b2⟩;have b2:=b2.all;have R2:=zW (R1.out.step b2);have B2:=zW (B1.out.trans (b2.mono B1.out.size));refine⟨_,rfl,hK _ _ ?_⟩;clear hK K b2 S1 R1 B1 X1 Y1;rw[RC.out];simp only[Act.put,zQ,zZ,zJ];refine kU (ds:=kE Z) vB R2.out (lQ _) (lQ _) (nQ _) rfl (.tmp 6) (.tmp 15) rfl zLP zLP ?_;have R3:=zW (R2.out.store Z);have B3:=zW (vS B2.out (show w.heap.size≤w.heap.size+1+1+1 by omega) (kE Z));generalize w3.setRow (w.heap.size+1+1+1) (kE Z)=w4 at*;iterate 4 go_step
 exact zS (zE rfl _ _ (w.heap.size+1+1+1) _ _ _ _ rfl R3.out Tryz.underlying58 rfl zMB) rfl ⟨rfl,B3.out⟩
attribute [local go_sem] Oper.semAt_some
def yJ(g o:Nat)(F:Nat→Nat)(n:Nat)(A:Option Addr)(w:World):Prop:=0<n→A=some ⟨g,o,none⟩∧g<w.heap.size∧∀j,j<n→w.cell? ⟨g,o+j,none⟩=some (.int .u8 (F j:Int))
theorem yJ.step{g o:Nat}{F:Nat→Nat}{n:Nat}{A:Option Addr}{w w':World}(h:yJ g o F n A w)(hb:Below w.heap.size w w'):yJ g o F n A w':=fun hn=>by
 obtain⟨h1,h2,h3⟩:=h hn;exact⟨h1,zF h2 hb.size,fun j hj=>(hb.cell (p:=⟨g,o+j,none⟩) h2).trans (h3 j hj)⟩
def fK(b1 b2:Nat)(W W':World):Prop:=W'.heap[b1]?=W.heap[b1]?∧W'.heap[b2]?=W.heap[b2]?
theorem fK.trans{b1 b2:Nat}{u v w:World}(h:fK b1 b2 u v)(h':fK b1 b2 v w):fK b1 b2 u w:=⟨h'.1.trans h.1,h'.2.trans h.2⟩
theorem F3{b1 b2:Nat}{W:World}{l:Nat}{o':Obj}(h1:b1≠l)(h2:b2≠l):fK b1 b2 W (W.putObj l o'):=⟨jX h1,jX h2⟩
theorem zZC{n k:Nat}(hk:k<n):(List.finRange n).take (k+1)=(List.finRange n).take k++[⟨k,hk⟩]:=by
 rw[kG (by simpa using hk)];simp
def sC(g o z k:Nat):Value:=.slice (some ⟨g,o+k*z,none⟩) z z
theorem CZ(m:Nat)(hm:1≤m)(l Bs Bz g o n z c:Nat)(A:Option Addr)(z0:0<z)(z1:z≤2)(n1:n≤16)(hc:n*z≤c)(c1:c≤1000)(hA:0<n→A=some ⟨g,o,none⟩)(J Jx:List (Fin n)→World→Prop)
  (hY:∀pre x W,J pre W→pre.length<n→YieldAt Fence.wide (m-1) Tryz.prog l #[sC g o z (x:Fin n).val] W fun e W'=>
   (e=.returned (.bool true)∧J (pre++[x]) W'∧fK Bs Bz W W')∨(e=.returned (.bool false)∧Jx (pre++[x]) W'))
  (W:World) (hS:Boxed W Bs 22 (.slice A (n*z) c)) (hZ:Boxed W Bz 3 (.int .i64 (z:Int))) (hJd:∀pre W,J pre W→J pre W.drew) (h0:J [] W):
  CallsIn Fence.wide m Tryz.prog 206 #[.func (.yield l) #[] #[],.pointer (some ⟨Bs,0,none⟩),.pointer (some ⟨Bz,0,none⟩)] W fun e W'=>(∃v,e=.returned v)∧
   ((∃ys,ys=List.finRange n∧J ys W')∨(∃pre,True∧Jx pre W')):=by
 obtain⟨t,ht⟩:∃t,n*z=t:=⟨_,rfl⟩;have t1:t≤32:=by rw[←ht];exact Nat.mul_le_mul n1 z1
 rw[ht]at hc hS;have HT:=zW ht;have zI:(0:Int)<(z:Int):=zLS;clear ht;refine callsIn_of_wp Tryz.func206 rfl trivial ?_ rfl;simp only[Tryz.ntmps206,jZ,List.length_cons,List.length_nil,Nat.reduceAdd,Nat.reduceSub,qO,Array.replicate_zero,jK,q8,List.nil_append,List.cons_append];gi_wp2
 gi_loopw [4] (fun i wr=>∃k q:Nat,k≤n∧q=k*z∧i=.int .i64 (q:Int)∧Boxed wr Bs 22 (.slice A t c)∧Boxed wr Bz 3 (.int .i64 (z:Int))∧J ((List.finRange n).take k) wr) (fun i _=>t-(intOf i).toNat)
 case atStart=>exact⟨0,0,by omega,by simp,rfl,hS,hZ,by simpa using h0⟩
 case round=>
  clear h0 hS hZ
  obtain⟨k,q,hk,hq,rfl,hS,hZ,hJ⟩:=hrel
  by_cases hlt:k<n
  ·have q1:q+z≤t:=by
    rw[hq,←HT.out,←Nat.succ_mul];exact Nat.mul_le_mul_right z hlt
   have hqt:(q:Int)<(t:Int):=zLS
   have hA':=hA zLS
   subst hA'
   have cS:=hS.cell
   have cZ:=hZ.cell
   obtain⟨fn,tmps,assign,body,hy,hR⟩:=hY ((List.finRange n).take k) ⟨k,hlt⟩ wr.drew (hJd _ _ hJ) zL2
   unfold sC at hy
   dsimp only at hy
   rw[←hq]at hy
   have HQ:=zW hq
   clear hq
   have cq:¬c=q:=zLS
   have e1:min (z:Int) ((t:Int)-(q:Int))=(z:Int):=zLS
   have e1':min (z:Int) ((t-q:Nat):Int)=(z:Int):=zLS
   have e2:(q:Int)≤(t:Int):=zLS
   gi_wp2
   gi_region
   have e3:(q:Int)+(z:Int)≤(c:Int):=zLS
   have e4:¬z=0:=zLS
   gi_wp2
   refine hR.mono ?_
   rintro e W3 (⟨rfl,hJ3,hk3⟩|⟨rfl,hJx3⟩)
   ·have cZ3:=(show Boxed W3 Bz 3 (.int .i64 (z:Int))from hk3.2.trans hZ).cell
    gi_wp2
    go_roundw
    case rel=>exact⟨k+1,q+z,by omega,by rw[HQ.out,Nat.succ_mul],by go_num,hk3.1.trans hS,hk3.2.trans hZ,by rw[zZC hlt];exact hJ3⟩
    case measure=>simp[intOf];omega
   ·gi_wp2
    refine zS (results_none rfl _ _ _) rfl ?_
    exact⟨⟨_,rfl⟩,.inr ⟨_,trivial,hJx3⟩⟩
  ·have hkn:k=n:=zLS
   have hqt:¬(q:Int)<(t:Int):=by rw[hq,←HT.out,hkn];omega
   have cS:=hS.cell
   clear hq
   gi_wp2
   go_end0
   rw[hkn,qR zLO]at hJ
   exact⟨⟨_,rfl⟩,.inl hJ⟩
theorem YW(m:Nat)(hm:1≤m)(Bs Bz g o n z c:Nat)(A:Option Addr)(z0:0<z)(z1:z≤2)(n1:n≤16)(hc:n*z≤c)(c1:c≤1000)(hA:0<n→A=some ⟨g,o,none⟩)(w:World)(hS:Boxed w Bs 22 (.slice A (n*z) c))(hZ:Boxed w Bz 3 (.int .i64 (z:Int))):
  SeqStopsK Fence.wide m Tryz.prog 206 #[.pointer (some ⟨Bs,0,none⟩),.pointer (some ⟨Bz,0,none⟩)] (fun x:Fin n=> #[sC g o z x.val]) (fK Bs Bz) (fun ys=>ys=List.finRange n) (fun _=>True) n w:=fun l J Jx W hW hJ _ hY h0=>
 CZ m hm l Bs Bz g o n z c A z0 z1 n1 hc c1 hA J Jx hY W ((hW.block Bs hS.lt).trans hS) ((hW.block Bz hZ.lt).trans hZ) (fun pre W h=>hJ pre W W.drew none h ⟨rfl,rfl,rfl,zH _,fun _ _ _=>rfl⟩ (fun _ e=>by cases e)) h0
theorem zJQ(m:Nat)(A:Option Addr)(t c z:Nat)(z0:0<z)(w:World):CallsIn Fence.wide m Tryz.prog 196 #[.slice A t c,.int .i64 (z:Int)] w fun e w'=>
   e=.returned (.func (.func 206) #[] #[.pointer (some ⟨w.heap.size,0,none⟩),.pointer (some ⟨w.heap.size+1,0,none⟩)])∧w'=(w.alloc (.cells #[.slice A t c] 22)).alloc (.cells #[.int .i64 (z:Int)] 3):=by
 have zI:¬(z:Int)<1:=zLS;refine callsIn_of_wp Tryz.func196 rfl trivial ?_ rfl;simp only[Tryz.ntmps196,jZ,List.length_cons,List.length_nil,Nat.reduceAdd,Nat.reduceSub,qO,Array.replicate_zero,jK,q8,List.nil_append,List.cons_append];gi_wp2
 exact zNT
attribute [local go_sem] Oper.semAt_some
def YA(F:Nat→Nat)(q:Nat):Nat→Nat
 |0=>0
 |j+1=>YA F q j*256+F (q+j)
def JL(F:Nat→Nat)(z k:Nat):Nat:=YA F (k*z) z
theorem or16(x b:Nat)(hx:x≤255)(hb:b≤255):bits .or .u16 ((x*256:Nat):Int) (b:Int)=((x*256+b:Nat):Int):=by
 unfold bits;have e:(BitVec.ofInt IntKind.u16.bits ((x*256:Nat):Int)|||BitVec.ofInt IntKind.u16.bits (b:Int)).toNat=x*256+b:=by
  show(BitVec.ofInt 16 ((x*256:Nat):Int)|||BitVec.ofInt 16 (b:Int)).toNat=x*256+b;rw[BitVec.ofInt_natCast,BitVec.ofInt_natCast,BitVec.toNat_or,BitVec.toNat_ofNat,BitVec.toNat_ofNat,kV zLS,kV zLS];rw[show x*256=2^8*x by omega,Nat.two_pow_add_eq_or_of_lt (by omega:b<2^8) x]
 simp only[e];simp[IntKind.wrap,IntKind.bits,IntKind.signed];omega
theorem shl16(x:Nat)(hx:x≤255):IntKind.u16.wrap ((x:Int)*2^8)=((x*256:Nat):Int):=by
 simp[IntKind.wrap,IntKind.bits,IntKind.signed];omega
theorem wrap16(b:Nat)(hb:b≤65535):IntKind.u16.wrap (b:Int)=(b:Int):=by
 simp[IntKind.wrap,IntKind.bits,IntKind.signed];omega
theorem zX4{F:Nat→Nat}(hF:∀j,F j≤255)(z k:Nat)(hz:z≤2):JL F z k≤65535:=by
 unfold JL;rcases(show z=0∨z=1∨z=2 by omega)with rfl|rfl|rfl<;>simp only[YA]
 ·omega
 ·have:=hF (k*1+0);omega
 ·have h0:=hF (k*2+0);have h1:=hF (k*2+1);simp only[Nat.zero_mul,qY,Nat.add_zero]at*;omega
theorem zYC{F:Nat→Nat}(hF:∀j,F j≤255)(q j:Nat)(hj:j<2):YA F q j≤255:=by
 rcases(show j=0∨j=1 by omega)with rfl|rfl<;>simp only[YA]
 ·omega
 ·have:=hF (q+0);omega
theorem info16:(Tryz.prog.info? 281).map (fun i=>(i.zero,i.size,i.bytes))=some (some (.int .u16 0),1,2):=by kernel_rfl
theorem QX{W w1:World}{B B0 n1 k:Nat}{e:TypeId}{v v':Value}{xs:List Value}{tmp:Obj}(hrow:W.ownsRow n1 e 1 v k xs)(hB:B<n1)(hW:n1≤W.heap.size)(hne:B≠B0)
  (hgrow:(W.alloc tmp).grownBy w1 v.ownBlock):(w1.setCell ⟨B0,0,none⟩ v').heap[B]?=W.heap[B]?:=by
 have h1:(W.alloc tmp).heap[B]?=W.heap[B]?:=heap_alloc_old W tmp (by omega:B<W.heap.size);have h2:w1.heap[B]?=(W.alloc tmp).heap[B]?:=hgrow.block B zL2 (fun e=>by have:=(hrow.lt B e.symm).1;omega);have h3:(w1.setCell ⟨B0,0,none⟩ v').heap[B]?=w1.heap[B]?:=qL w1 _ v' B hne;rw[h3,h2,h1]
theorem NJ(g o n z c:Nat)(A:Option Addr)(F:Nat→Nat)(z0:0<z)(z1:z≤2)(n1:n≤16)(hc:n*z≤c)(c1:c≤1000)(hF:∀j,F j≤255)(w:World)(hD:yJ g o F (n*z) A w):
  Calls Tryz.prog 172 #[.slice A (n*z) c,.int .i64 (z:Int)] w fun e w'=>∃A' c',e=.returned (.slice A' n c')∧tQ w' A' ((List.range n).map (JL F z))∧(∀ad,A'=some ad→w.heap.size≤ad.block)∧Below w.heap.size w w':=by
 refine(callsIn_wide (n:=6)).1 ?_;obtain⟨i0,hi,hz0,hz1,hz2⟩:=kM info16;have hA:0<n→A=some ⟨g,o,none⟩:=fun h=>(hD (Nat.mul_pos h z0)).1;have DD:=zW (zM hD hF);clear hD hF;refine callsIn_of_wp_marks Tryz.func172 rfl trivial ?_ rfl;simp only[Tryz.ntmps172,jZ,List.length_cons,List.length_nil,Nat.reduceAdd,Nat.reduceSub,qO,Array.replicate_zero,jK,q8,List.nil_append,List.cons_append];gi_wp2_with fail
 refine⟨trivial,?_⟩;refine(zJQ _ _ _ _ _ z0 _).mono ?_;rintro e w' ⟨rfl,rfl⟩;simp only[];gi_wp2_with fail
 have b5:=((jB w 269 (.slice none 0 0)).alloc (.cells #[.slice A (n*z) c] 22)).alloc (.cells #[.int .i64 (z:Int)] 3);have bS:=(jB (w.alloc (.cells #[.slice none 0 0] 269)) 22 (.slice A (n*z) c)).alloc (.cells #[.int .i64 (z:Int)] 3);have bZ:=jB ((w.alloc (.cells #[.slice none 0 0] 269)).alloc (.cells #[.slice A (n*z) c] 22)) 3 (.int .i64 (z:Int));have BB:=((((zB _ w).alloc (zH _) (.cells #[.slice none 0 0] 269)).alloc zLO (.cells #[.slice A (n*z) c] 22)).alloc zL2 (.cells #[.int .i64 (z:Int)] 3));rw[zT]at bS;rw[zT,zT]at bZ;have Z3:(((w.alloc (.cells #[.slice none 0 0] 269)).alloc (.cells #[.slice A (n*z) c] 22)).alloc (.cells #[.int .i64 (z:Int)] 3)).heap.size=w.heap.size+3:=zLO;rw[zT];generalize ((w.alloc (.cells #[.slice none 0 0] 269)).alloc (.cells #[.slice A (n*z) c] 22)).alloc (.cells #[.int .i64 (z:Int)] 3)=w3 at*;refine wpIn_rangeFunc_ownG rfl zLS (gf:=206) (lb:=#[.pointer (some ⟨w.heap.size+1,0,none⟩),.pointer (some ⟨w.heap.size+1+1,0,none⟩)]) rfl trivial (enters_of Tryz.func206 zLE rfl)
  (YW _ zLS (w.heap.size+1) (w.heap.size+1+1) g o n z c A z0 z1 n1 hc c1 hA w3 bS bZ) fK.trans (fun W l o o' hl _ _ _=>F3 zLS zLS) (zB _ _) (fun _=>rfl)
  (fun pre W=>(∃v,Boxed W w.heap.size 269 v∧W.ownsRow (w.heap.size+3) 281 1 v pre.length (pre.map fun x:Fin n=>Value.int .u16 (JL F z x.val:Int))∧True)∧(w.heap.size+3≤W.heap.size∧Below w.heap.size w W))
  (fun _ _ _=>False)
  (OwnFrom.and (Own.from (holdsRow_own (w.heap.size+3) w.heap.size 269 281 1 (fun pre:List (Fin n)=>pre.length) (fun pre=>pre.map fun x:Fin n=>Value.int .u16 (JL F z x.val:Int)) (fun pre v=>True)) _) (OwnFrom.and (fun s A B row hs hg _=>zR hs hg.size) (ownFrom_below (zH _) zLS)))
  (fun _ _ _ _ _ hs _ _=>hs)
  ⟨⟨_,b5,kZ _ _ _ _,trivial⟩,by omega,BB⟩
  (fun x=>{tmps:=#[.slice A (n*z) c,.int .i64 (z:Int),undef,undef,.slice none 0 0,.pointer (some ⟨w.heap.size,0,none⟩),sC g o z x.val,undef,undef,undef,.slice A (n*z) c,.int .i64 (z:Int),.func (.func 206) #[] #[.pointer (some ⟨w.heap.size+1,0,none⟩),.pointer (some ⟨w.heap.size+1+1,0,none⟩)],sC g o z x.val,undef,undef,undef,undef,undef,undef,undef,undef,undef,undef,undef,undef,undef,undef,undef,undef,undef],defers:=[]}) ?assign ?body ?done ?stop
 case assign=>
  intro l x W K hK
  gi_wp2
  exact hK
 case body=>
  rintro l pre ⟨k,hk⟩ W ⟨⟨v,hv,hrow,_⟩,hz,hB⟩ hlt
  have HH:=zW (zM hv (zM hrow (zM hz hB)))
  clear hv hrow hz hB
  unfold sC
  dsimp only
  obtain⟨q,hq⟩:∃q,k*z=q:=⟨_,rfl⟩
  have q1:q+z≤n*z:=by rw[←hq,←Nat.succ_mul];exact Nat.mul_le_mul_right z hk
  rw[hq]
  have HQ:=zW (zM hq (zM q1 hlt))
  clear hq q1 hlt
  gi_wp2
  gi_loop [7,16] (fun b i=>∃j X:Nat,j≤z∧b=.int .u16 (X:Int)∧i=.int .i64 (j:Int)∧X=YA F q j) (fun _ i=>z-(intOf i).toNat)
  case atStart=>exact⟨0,0,by omega,rfl,rfl,rfl⟩
  case round=>
   obtain⟨j,X,hj,rfl,rfl,hX⟩:=hrel
   have XX:=zW hX
   by_cases hlt:j<z
   ·have jI:(j:Int)<(z:Int):=zLS
    have X1:X≤255:=by rw[hX];exact zYC DD.out.2 q j zLS
    obtain⟨_,hgl,hcs⟩:=DD.out.1 (by have:=HQ.out.2.1;omega)
    obtain⟨b,hb⟩:∃b,F (q+j)=b:=⟨_,rfl⟩
    have b1:b≤255:=by rw[←hb];exact DD.out.2 _
    have cb:W.cell? ⟨g,o+q+j,none⟩=some (.int .u8 (b:Int)):=by
     rw[qF,HH.out.2.2.2.cell (p:=⟨g,o+(q+j),none⟩) hgl,hcs _ (by have:=HQ.out.2.1;omega),hb]
    have e1:=shl16 X X1
    have e2:=or16 X b X1 b1
    have e3:=wrap16 b zLS
    obtain⟨V,hV⟩:∃V,X*256+b=V:=⟨_,rfl⟩
    rw[hV]at e2
    have e2:bits .or .u16 ((X:Int)*256) (b:Int)=(V:Int):=by rw[←e2];simp
    have VV:=zW (show V=YA F q (j+1) by rw[←hV,YA,←hX,hb])
    clear hX hV hcs hb hgl e1 e3
    gi_wp2
    go_round
    case rel=>exact⟨j+1,V,by omega,by go_num,by go_num,VV.out⟩
    case measure=>simp[intOf];omega
   ·have je:j=z:=zLS
    subst je
    clear hlt
    have RV:=zW (show X=JL F j k by rw[hX,←HQ.out.1];rfl)
    clear hX
    have hc:=HH.out.1.cell
    gi_wp2_with (gi_at_builtin;refine wpListIn_append_own _ rfl _ _ 269 rfl (w.heap.size+3) 281 i0 (.int .u16 0) 1 2 Tryz.underlying269 hi hz0 hz1 hz2 rfl zLA _ _ _ rfl (HH.out.2.1.alloc _) ⟨W.heap.size,0,none⟩ 1 1 [.int .u16 (X:Int)] rfl rfl (cell_one_new _ _ _) zMS (by unfold maxLen;have:=HQ.out.2.2;omega) (by have:=HQ.out.2.2;omega) (by have:=HH.out.2.2.1;simp;omega) ?_;intro v' w1 hown' hgrow _;obtain⟨g',cap',rfl⟩:=ownsRow_succ hown';obtain⟨hv1,hv2,hr2,hk2,hb2⟩:=HH.out.1.appended zLA (gX HH.out.2.1 (by omega:w.heap.size≤w.heap.size+3)) HH.out.2.2.2.size (zH _) (gX hown' (by omega:w.heap.size≤w.heap.size+3)) hgrow;have hc1:=hv1.cell;have hf1:=hv1.frozen)
    have hr3:=hown'.kept (grownBy_setCell' w1 w.heap.size (.slice (some ⟨g',0,none⟩) (pre.length+1) cap')) (.inr (hv1.not_row zLA hown').symm)
    refine⟨hk2.from _,⟨QX HH.out.2.1 zLS HH.out.2.2.1 zLS hgrow,QX HH.out.2.1 zLS HH.out.2.2.1 zLS hgrow⟩,⟨_,hv2,by simpa [RV.out]using hr3⟩,zR HH.out.2.2.1 (zR zLO (zR hgrow.size zLO)),HH.out.2.2.2.trans hb2⟩
 case done=>
  rintro D ys W hD rfl ⟨⟨v,hv,hrow,_⟩,_,hB⟩ hK
  have hc:=hv.cell
  gi_wp2
  refine⟨by simp,.inl ⟨_,_,rfl,run_takeDeferred hK,?_⟩⟩
  obtain⟨A',c',rfl⟩:=yF hrow
  have hr:=ownsRow_putObj hrow (.deferred none) hK rfl
  rw[List.length_finRange]at hr⊢
  have hl:(List.finRange n).map (fun x:Fin n=>Value.int .u16 (JL F z x.val:Int))=((List.range n).map (JL F z)).map (fun x:Nat=>Value.int .u16 (x:Int)):=by
   apply List.ext_getElem
   ·simp
   ·intro i h1 h2;simp
  rw[hl]at hr
  refine⟨_,results_tmp rfl _ _ _,A',c',rfl,?_,fun ad had=>?_,hB.trans (belowK_b (w:=w) (zH _) W D _ _ zLS hK rfl rfl)⟩
  intro hne
  obtain⟨b,o',hA',hlt',hcs⟩:=Row.of_own hr hne
  refine⟨⟨b,o',none⟩,hA',hlt',fun j hj=>?_⟩
  rw[Addr.add_mid]
  exact hcs j hj
  ·rcases hr.2 with⟨h,_⟩|⟨g2,cp,cur,h,hg,_⟩
   ·cases h
    try cases had
   ·injection h with h1 h2 h3
    subst h1
    injection had with had
    subst had
    exact zR (Nat.le_add_right _ 3) hg
 case stop=>
  rintro D c pre W _ _ h _
  exact h.elim
theorem But.rowNew{T:Nat→Prop}{u w:World}(h:But T u w){b:Nat}(hb:u.heap.size≤b)(cs:Array Value):But T u (w.setRow b cs):=
 ⟨h.os,h.tape,h.output,by simpa [World.setRow]using h.size,fun k hk ht=>(zO w b k cs zLS).trans (h.block k hk ht)⟩
structure DrD where
 g:Nat
 o:Nat
 F:Nat→Nat
 N:Nat
 r:Nat
 z:Nat
 x:Nat
 y:Nat
 m:Nat
 h:Nat
 clip:Bool
 S:Sc
def pR(F:Nat→Nat)(r z q:Nat):List Nat:=(List.range r).map (JL (fun j=>F (q+j)) z)
def DrD.sp(D:DrD)(k:Nat):Pl:=spr (nth (pR D.F D.r D.z (k*(D.r*D.z)))) D.r (D.z*8) (D.x%D.m) (D.y%D.h) D.m D.h D.clip
def DrD.coll(D:DrD):Nat→List Pl→Bool
 |_,[]=>false
 |k,p::ps=>tP p (D.sp k)||D.coll (k+1) ps
theorem sE(D:DrD)(p:Pl):∀(ps:List Pl) (k:Nat),D.coll k (ps++[p])=(D.coll k ps||tP p (D.sp (k+ps.length)))
 |[],k=>by simp[DrD.coll]
 |q::ps,k=>by
  rw[List.cons_append,DrD.coll,sE D p ps,DrD.coll,List.length_cons,Bool.or_assoc,show k+1+ps.length=k+(ps.length+1) by omega]
structure zYI(D:DrD):Prop where
 r1:D.r≤16
 z0:D.z=1∨D.z=2
 F1:∀j,D.F j≤255
 N1:D.N≤4
 x1:D.x≤1000
 y1:D.y≤1000
 res:Res D.S.hi D.m D.h
structure DrB(D:DrD)(s0:Nat)(W:World):Prop where
 rows:Boxed W (s0+6) 3 (.int .i64 (D.r:Int))
 size:Boxed W (s0+7) 3 (.int .i64 (D.z:Int))
 x:Boxed W (s0+1) 3 (.int .i64 (D.x:Int))
 y:Boxed W (s0+2) 3 (.int .i64 (D.y:Int))
 wd:Boxed W (s0+8) 3 (.int .i64 (D.m:Int))
 ht:Boxed W (s0+9) 3 (.int .i64 (D.h:Int))
 clip:Boxed W (s0+3) 4 (.bool D.clip)
 s:SB s0 D.S W
section
variable {D:DrD} {s0 b:Nat} {w w':World}
theorem xH{t:TypeId}{v:Value}{k:Nat}(h:Boxed w k t v)(hne:k≠b)(o:Nat)(u:Value):Boxed (w.setCell ⟨b,o,none⟩ u) k t v:=(qL w ⟨b,o,none⟩ u k hne).trans h
theorem yE{t:TypeId}{v:Value}{k:Nat}(h:Boxed w k t v)(hne:k≠b)(cs:Array Value):Boxed (w.setRow b cs) k t v:=(zO w b k cs hne).trans h
theorem DrB.step(H:DrB D s0 w)(hb:Below w.heap.size w w'):DrB D s0 w':=⟨mO H.rows hb,mO H.size hb,mO H.x hb,mO H.y hb,mO H.wd hb,mO H.ht hb,mO H.clip hb,H.s.step hb⟩
theorem DrB.other(H:DrB D s0 w)(hb:b=s0+4∨s0+10≤b)(o:Nat)(u:Value):DrB D s0 (w.setCell ⟨b,o,none⟩ u):=
 ⟨xH H.rows zLS o u,xH H.size zLS o u,xH H.x zLS o u,xH H.y zLS o u,xH H.wd zLS o u,xH H.ht zLS o u,xH H.clip zLS o u,H.s.other zLS o u⟩
theorem DrB.row(H:DrB D s0 w)(hb:s0+10≤b)(cs:Array Value):DrB D s0 (w.setRow b cs):=
 ⟨yE H.rows zLS cs,yE H.size zLS cs,yE H.x zLS cs,yE H.y zLS cs,yE H.wd zLS cs,yE H.ht zLS cs,yE H.clip zLS cs,H.s.otherRow zLS cs⟩
theorem yJ.other{g o n:Nat}{F:Nat→Nat}{A:Option Addr}(h:yJ g o F n A w)(hb:0<n→g≠b)(k:Nat)(u:Value):yJ g o F n A (w.setCell ⟨b,k,none⟩ u):=fun hn=>by
 obtain⟨h1,h2,h3⟩:=h hn;exact⟨h1,by simpa using h2,fun j hj=>by rw[qG _ _ _ _ (by simp[Ne.symm (hb hn)])];exact h3 j hj⟩
theorem yJ.row{g o n:Nat}{F:Nat→Nat}{A:Option Addr}(h:yJ g o F n A w)(hb:0<n→g≠b)(cs:Array Value):yJ g o F n A (w.setRow b cs):=fun hn=>by
 obtain⟨h1,h2,h3⟩:=h hn;exact⟨h1,by simpa [World.setRow]using h2,fun j hj=>by rw[qE (a:=⟨g,o+j,none⟩) (zO w b g cs (hb hn))];exact h3 j hj⟩
theorem tQ.other{A:Option Addr}{L:List Nat}(h:tQ w A L)(hb:∀ad,A=some ad→ad.block≠b)(o:Nat)(u:Value):tQ (w.setCell ⟨b,o,none⟩ u) A L:=fun hne=>by
 obtain⟨ad,hA,hlt,hc⟩:=h hne;refine⟨ad,hA,by simpa using hlt,fun j hj=>?_⟩;rw[qE (a:=ad.add j) (qL w ⟨b,o,none⟩ u (ad.add j).block (by rw[fX];exact hb ad hA))];exact hc j hj
theorem yJ.notBox{g o n:Nat}{F:Nat→Nat}{A:Option Addr}{t:TypeId}{v:Value}(h:yJ g o F n A w)(hx:Boxed w b t v)(hv:∀x,v≠ .int .u8 x)(hn:0<n):g≠b:=fun e=>by
 obtain⟨_,_,h3⟩:=h hn;have h4:=h3 0 hn;rw[e,jC w b (o+0) #[v] t (0,0) hx]at h4;rcases(show o=0∨1≤o by omega)with rfl|h5
 ·simp at h4;exact hv _ h4
 ·rw[zD zL2]at h4;cases h4
theorem yJ.notPl{g o n:Nat}{F:Nat→Nat}{A:Option Addr}{t:TypeId}{Q:Pl}(h:yJ g o F n A w)(hx:mR b t Q w)(hn:0<n):g≠b:=fun e=>by
 obtain⟨_,_,h3⟩:=h hn;have h4:=h3 0 hn;rw[e]at h4;by_cases h5:o+0<128
 ·rw[hx.cell _ h5]at h4;cases h4
 ·rw[jC w b (o+0) _ t (0,0) hx,zD zMR]at h4;cases h4
end
structure DrG(D:DrD)(s0:Nat)(ps:List Pl)(W:World):Prop where
 b:DrB D s0 W
 data:∃A c,Boxed W (s0+4) 22 (.slice A ((D.N-ps.length)*(D.r*D.z)) c)∧(D.N-ps.length)*(D.r*D.z)≤c∧c≤1000∧yJ D.g (D.o+ps.length*(D.r*D.z)) (fun j=>D.F (ps.length*(D.r*D.z)+j)) ((D.N-ps.length)*(D.r*D.z)) A W
 coll:Boxed W (s0+10) 4 (.bool (D.coll 0 ps))
theorem DrG.step{D:DrD}{s0:Nat}{ps:List Pl}{w w':World}(G:DrG D s0 ps w)(hb:Below w.heap.size w w'):DrG D s0 ps w':=by
 obtain⟨A,c,d1,d2,d3,d4⟩:=G.data;exact⟨G.b.step hb,⟨A,c,mO d1 hb,d2,d3,d4.step hb⟩,mO G.coll hb⟩
def DrT(s0:Nat)(k:Nat):Prop:=k=s0+4∨k=s0+10
theorem yJ.short{g o n k:Nat}{F:Nat→Nat}{A:Option Addr}{w:World}(h:yJ g o F n A w)(hk:k≤n):yJ g o F k A w:=fun h0=>by
 obtain⟨h1,h2,h3⟩:=h zLS;exact⟨h1,h2,fun j hj=>h3 j zLS⟩
theorem yJ.rest{g o n k c:Nat}{F:Nat→Nat}{A:Option Addr}{w:World}(h:yJ g o F (n+k) A w)(hc:n+k≤c):yJ g (o+k) (fun j=>F (k+j)) n (if c=k then A else A.map fun a=>a.add k) w:=fun h0=>by
 obtain⟨h1,h2,h3⟩:=h zLS;subst h1;rw[zL zLS];exact⟨by simp[Addr.add_mid],h2,fun j hj=>by have:=h3 (k+j) zLS;rwa [←qF]at this⟩
theorem own_le(D:DrD)(ok:zYI D):D.r*D.z≤32:=by
 refine zR (Nat.mul_le_mul ok.r1 (show D.z≤2 by rcases ok.z0 with h|h<;>omega)) zLS
theorem UH{N n:Nat}(q:Nat)(hn:n<N):(N-n)*q=(N-(n+1))*q+q:=by
 rw[←Nat.succ_mul];congr 1;omega
theorem AF(D:DrD)(ok:zYI D)(s0:Nat)(ps:List Pl)(hn:ps.length<D.N)(p:Pl)(w:World)(G:DrG D s0 ps w):
  Calls Tryz.prog 171 #[.agg (kA p),.pointer (some ⟨s0+6,0,none⟩),.pointer (some ⟨s0+7,0,none⟩),.pointer (some ⟨s0+4,0,none⟩),.pointer (some ⟨s0+1,0,none⟩),.pointer (some ⟨s0+8,0,none⟩),.pointer (some ⟨s0+2,0,none⟩),.pointer (some ⟨s0+9,0,none⟩),.pointer (some ⟨s0,0,none⟩),.pointer (some ⟨s0+3,0,none⟩),.pointer (some ⟨s0+10,0,none⟩)] w
   fun e w'=>e=.returned (.agg (kA (wB p (D.sp ps.length))))∧DrG D s0 (ps++[p]) w'∧But (DrT s0) w w':=by
 have hz:=yX;obtain⟨q,hq⟩:∃q,D.r*D.z=q:=⟨_,rfl⟩;have q1:=own_le D ok;rw[hq]at q1;obtain⟨m',hm'⟩:∃m',(D.N-(ps.length+1))*q=m':=⟨_,rfl⟩;have hm:(D.N-ps.length)*(D.r*D.z)=m'+q:=by rw[UH _ hn,hq,hm']
 obtain⟨Q,hQ⟩:∃Q,wB p (D.sp ps.length)=Q:=⟨_,rfl⟩;obtain⟨P,hP⟩:∃P,D.sp ps.length=P:=⟨_,rfl⟩;obtain⟨hv,hhv⟩:∃v,tP p P=v:=⟨_,rfl⟩;rw[hP]at hQ;have DR:=zW fun w=>drW hQ hhv w;have CO:=zW (show D.coll 0 (ps++[p])=(D.coll 0 ps||hv) by rw[sE,qY,hP,hhv]);rw[hP,hQ];have P0:=zW ((mR.new w p 55).alloc (.cells (kA fun _=>0#128) 55));have R:=zW (mR.new (w.alloc (.cells (kA p) 55)) (fun _=>0#128) 55);have B:=zW ((nE w (.cells (kA p) 55)).alloc zLO (.cells (kA fun _=>0#128) 55));rw[zT]at R;have G1:=zW (G.step B.out);have Z1:((w.alloc (.cells (kA p) 55)).alloc (.cells (kA fun _=>0#128) 55)).heap.size=w.heap.size+2:=zLO;have Gs:=zW (show s0+10<w.heap.size from G.coll.lt);have OK:=zW (zM ok (zM hn (zM hq (zM hm hP))));have HM:=zW hm';clear G ok hn hP hhv hQ hm';go_enter Tryz.func171,Tryz.ntmps171;go_upto_region 1 with fail;generalize (w.alloc (.cells (kA p) 55)).alloc (.cells (kA fun _=>0#128) 55)=w1 at*;clear hz;obtain⟨A,c,d1,d2,d3,d4⟩:=G1.out.data;rw[hm]at d1 d2 d4;have DD:=zW (zM d1 (zM d2 (zM d3 d4)));have c1:=G1.out.b.rows.cell;have c2:=G1.out.b.size.cell;have c3:=d1.cell;obtain⟨r,hr⟩:∃r,D.r=r:=⟨_,rfl⟩;obtain⟨z,hzz⟩:∃z,D.z=z:=⟨_,rfl⟩;rw[hr]at c1;rw[hzz]at c2;have e1:(r:Int)*(z:Int)=(q:Int):=by rw[←hq,hr,hzz];simp
 have e2:max (q:Int) 0=(q:Int):=zLS;have e3:min (q:Int) ((m':Int)+(q:Int))=(q:Int):=zLS;have RZ:=zW (zM hr hzz);clear d1 d2 d3 d4 hm hr hzz hq;go_upto_region 2 with fail;have RB:=zW (show∀w',Below w1.heap.size w1 w'→Calls Tryz.prog 172 #[.slice A q c,.int .i64 (z:Int)] w' fun e w''=>∃A' c',e=.returned (.slice A' r c')∧tQ w'' A' (pR D.F r z (ps.length*(D.r*D.z)))∧(∀ad,A'=some ad→w'.heap.size≤ad.block)∧Below w'.heap.size w' w'' from fun w' hb=>by
  have h:=NJ D.g (D.o+ps.length*(D.r*D.z)) r z c A (fun j=>D.F (ps.length*(D.r*D.z)+j)) zMK zMK (by have:=OK.out.1.r1;have:=RZ.out.1;omega) (by have h2:=DD.out.2.1;have h3:=OK.out.2.2.1;rw[RZ.out.1,RZ.out.2]at h3;omega) DD.out.2.2.1 (fun j=>OK.out.1.F1 _) w' (by
   have h3:=OK.out.2.2.1;rw[RZ.out.1,RZ.out.2]at h3;rw[h3];exact(DD.out.2.2.2.step hb).short zLS)
  have h3:=OK.out.2.2.1;rw[RZ.out.1,RZ.out.2]at h3;rw[h3]at h;exact h)
 have k3:∀x:lH w1,x.w.cell? ⟨s0+4,0,none⟩=some (.slice A (m'+q) c):=fun x=>(mO DD.out.1 x.below).cell;have k2:∀x:lH w1,x.w.cell? ⟨s0+7,0,none⟩=some (.int .i64 (z:Int)):=fun x=>by rw[←RZ.out.2];exact(mO G1.out.b.size x.below).cell
 have qc:(q:Int)≤(c:Int):=by have:=DD.out.2.1;omega
 have LL:=zW (zM P0.out (zM R.out (zM B.out G1.out)));refine mJ (C:=fun w'=>∃x:lH w1,w'=x.w) [([0,1,2,3],4)] [5] zLE zLE (fun _ _ d _ _ h=>by cases d<;>exact h) ⟨⟨w1.drew,(zB _ _).drew⟩,rfl⟩ ?_;intro wd hwd;have bd:Below w1.heap.size w1 wd:=by rw[hwd];exact(zB _ _).drew
 clear hwd c1 c2 c3;refine mV zLC zLU ?_;repeat(go_big_quiet_step (rfl))
 refine zY ?_;refine lA zLI ?_;intro K hK;go_wp2_with fail;refine(RB.out _ bd).mono ?_;rintro e w2 ⟨A',c',rfl,hrd,hab,b2⟩;have hab:=zW fun ad h=>zR bd.size (hab ad h);have b2':=bd.trans (b2.mono bd.size);have L2:=zW (zM (P0.out.step b2') (zM (R.out.step b2') (zM (B.out.trans (b2'.mono B.out.size)) (zM (G1.out.step b2') (zM (mO DD.out.1 b2') (zM (DD.out.2.2.2.step b2') hrd))))));simp only[];refine hK _ _ ⟨⟨w2,b2'⟩,rfl⟩ ?_;clear hK K b2 hrd LL P0 R B G1 RB k3 k2;refine nF zLC ?_;repeat(go_big_quiet_step (rfl))
 refine zY ?_;have k3:=L2.out.2.2.2.2.1.cell;have f3:=L2.out.2.2.2.2.1.frozen;go_upto_region 4 with fail;have hcq:=DD.out.2.1;have DA:=zW (L2.out.2.2.2.2.2.1.rest hcq);obtain⟨A3,hA3⟩:∃A3,(if c=q then A else Option.map (fun x=>x.add q) A)=A3:=⟨_,rfl⟩;rw[hA3]at DA⊢;have nb:0<m'→D.g≠s0+4:=L2.out.2.2.2.2.2.1.short (by omega:m'≤m'+q)|>.notBox L2.out.2.2.2.2.1 (fun x h=>by cases h)
 have S3:=zW (show DrB D s0 (w2.setCell ⟨s0+4,0,none⟩ (.slice A3 m' (c-q)))∧Boxed (w2.setCell ⟨s0+4,0,none⟩ (.slice A3 m' (c-q))) (s0+4) 22 (.slice A3 m' (c-q))∧
   yJ D.g (D.o+ps.length*(D.r*D.z)+q) (fun j=>D.F (ps.length*(D.r*D.z)+(q+j))) m' A3 (w2.setCell ⟨s0+4,0,none⟩ (.slice A3 m' (c-q)))∧Boxed (w2.setCell ⟨s0+4,0,none⟩ (.slice A3 m' (c-q))) (s0+10) 4 (.bool (D.coll 0 ps))∧
   mR w.heap.size 55 p (w2.setCell ⟨s0+4,0,none⟩ (.slice A3 m' (c-q)))∧mR (w.heap.size+1) 55 (fun _=>0#128) (w2.setCell ⟨s0+4,0,none⟩ (.slice A3 m' (c-q)))∧tQ (w2.setCell ⟨s0+4,0,none⟩ (.slice A3 m' (c-q))) A' (pR D.F r z (ps.length*(D.r*D.z)))∧But (DrT s0) w (w2.setCell ⟨s0+4,0,none⟩ (.slice A3 m' (c-q)))∧w.heap.size+2≤(w2.setCell ⟨s0+4,0,none⟩ (.slice A3 m' (c-q))).heap.size from
  ⟨L2.out.2.2.2.1.b.other (.inl rfl) _ _,L2.out.2.2.2.2.1.set _,DA.out.other nb _ _,xH L2.out.2.2.2.1.coll zLS _ _,L2.out.1.other zL3 _ _,L2.out.2.1.other zL3 _ _,
   L2.out.2.2.2.2.2.2.other (fun ad h=>by have:=hab.out ad h;have:=Gs.out;omega) _ _,(But.of_below L2.out.2.2.1).trans (But.cell _ _ (.inl rfl)),by have:=b2'.size;simp;omega⟩)
 generalize w2.setCell ⟨s0+4,0,none⟩ (.slice A3 m' (c-q))=w3 at*;clear k3 f3 hA3 nb DA L2 bd b2' qc e1 e2 e3;obtain⟨x,hx⟩:∃x,D.x=x:=⟨_,rfl⟩;obtain⟨y,hy⟩:∃y,D.y=y:=⟨_,rfl⟩;obtain⟨m,hm⟩:∃m,D.m=m:=⟨_,rfl⟩;obtain⟨h,hh⟩:∃h,D.h=h:=⟨_,rfl⟩;obtain⟨hi,hhi⟩:∃hi,D.S.hi=hi:=⟨_,rfl⟩;obtain⟨cl,hcl⟩:∃cl,D.clip=cl:=⟨_,rfl⟩;have VV:=zW (zM hx (zM hy (zM hm (zM hh (zM hhi hcl)))));have res:=OK.out.1.res;rw[hm,hh,hhi]at res;obtain⟨m0,m1,h0,h1⟩:=res.bounds;have k2:∀u:lH w3,u.w.cell? ⟨s0+7,0,none⟩=some (.int .i64 (z:Int)):=fun u=>by rw[←RZ.out.2];exact(mO S3.out.1.size u.below).cell
 have k4:∀u:lH w3,u.w.cell? ⟨s0+1,0,none⟩=some (.int .i64 (x:Int)):=fun u=>by rw[←hx];exact(mO S3.out.1.x u.below).cell
 have k5:∀u:lH w3,u.w.cell? ⟨s0+8,0,none⟩=some (.int .i64 (m:Int)):=fun u=>by rw[←hm];exact(mO S3.out.1.wd u.below).cell
 have k6:∀u:lH w3,u.w.cell? ⟨s0+2,0,none⟩=some (.int .i64 (y:Int)):=fun u=>by rw[←hy];exact(mO S3.out.1.y u.below).cell
 have k7:∀u:lH w3,u.w.cell? ⟨s0+9,0,none⟩=some (.int .i64 (h:Int)):=fun u=>by rw[←hh];exact(mO S3.out.1.ht u.below).cell
 have k8:∀u:lH w3,u.w.cell? ⟨s0,512,none⟩=some (.bool hi):=fun u=>by rw[←hhi];exact(S3.out.1.s.step u.below).hires
 have k9:∀u:lH w3,u.w.cell? ⟨s0+3,0,none⟩=some (.bool cl):=fun u=>by rw[←hcl];exact(mO S3.out.1.clip u.below).cell
 have kp:=zW (fun(w':World) (hw:∃u:lH w3,w'=u.w)=>show Blk w.heap.size 55 (kA p) w' by obtain⟨u,rfl⟩:=hw;exact S3.out.2.2.2.2.1.step u.below);have z8:(z:Int)≤2:=by have:=OK.out.1.z0;have:=RZ.out.2;omega
 have mI:(0:Int)<(m:Int):=zLS;have hI:(0:Int)<(h:Int):=zLS;have RS:=zW res;clear hx hy hm hh hhi hcl res hcq;refine lK (C:=fun w'=>∃u:lH w3,w'=u.w) 18 [([0,1,2,3,4,5,6,7,8,9,10,11,12],13,true),([],14,true)] [15,16,17] [19] zLE zLE ?_ ?_ ⟨⟨w3.drew,(zB _ _).drew⟩,rfl⟩ ?_
 ·exact zMO
 ·exact zMA
 intro wd hwd;have bd:=zW (show Below w3.heap.size w3 wd by rw[hwd];exact(zB _ _).drew);clear hwd;refine lF zLC zLU ?_;refine mX uP kp.out (lZ _) rfl (.tmp 11) rfl zL0 ?_;simp only[Act.put,zQ,zZ,zJ];repeat(go_big_quiet_step (rfl))
 refine zY ?_;have HSP:spr (nth (pR D.F r z (ps.length*(D.r*D.z)))) r (z*8) (x%m) (y%h) m h cl=P:=by
  have e:=OK.out.2.2.2.2;unfold DrD.sp at e;obtain⟨v1,v2,v3,v4,v5,v6⟩:=VV.out;rw[v1,v2,v3,v4,v6]at e;rw[←e];rw[RZ.out.1,RZ.out.2]
 have SP:∀w',(∃u:lH w3,w'=u.w)→Calls Tryz.prog 174 #[.slice A' r c',.int .i64 ((z:Int)*8),.int .i64 ((x:Int)%(m:Int)),.int .i64 ((y:Int)%(h:Int)),.bool hi,.bool cl] w' fun e w''=>e=.returned (.agg (kA P))∧Gr w' w'':=by
  rintro w' ⟨u,rfl⟩;exact spW RS.out (S3.out.2.2.2.2.2.2.1.step u.below) (by
   intro v hv;unfold pR at hv;obtain⟨j,_,rfl⟩:=jV.1 hv;exact zX4 (fun j=>OK.out.1.F1 _) z j zMK) (by simp[pR]) (by have:=OK.out.1.r1;have:=RZ.out.1;omega) zMK (kB _ zLS) (kB _ zLS) zLO zLO zLO HSP
 refine lS (v:=.agg (kA P)) (mM (g:=174) (caps:=#[]) (args:=#[.slice A' r c',.int .i64 ((z:Int)*8),.int .i64 ((x:Int)%(m:Int)),.int .i64 ((y:Int)%(h:Int)),.bool hi,.bool cl]) (.func 174) #[.tmp 33,.tmp 35,.tmp 38,.tmp 41,.tmp 43,.tmp 44] #[269,3,3,3,4,4] rfl rfl (enters_of Tryz.func174 zLE rfl) SP rfl zL0) ?_;clear SP HSP k2 k4 k5 k6 k7 k8 k9;simp only[Act.put,zQ,zZ,zJ];refine lF zLC zLU ?_;refine zY ?_;refine lS (v:=.tuple #[.agg (kA Q),.bool hv]) (mM (g:=173) (caps:=#[]) (args:=#[.agg (kA p),.agg (kA P)]) (.func 173) #[.tmp 32,.tmp 45] #[55,55] rfl rfl (enters_of Tryz.func173 zLE rfl) (fun w' _=>DR.out w') rfl zL0) ?_;simp only[Act.put,zQ,zZ,zJ];refine lR zLC zLU ?_;repeat(go_big_quiet_step (rfl))
 refine zY ?_;refine lT rfl ?_;intro w4 g4 C4 K hK;have b4:=zW (bd.out.trans (g4.mono bd.out.size));refine nM (ds:=kA Q) uP (mR.step S3.out.2.2.2.2.1 b4.out) (lZ _) (lZ _) (vY _) (.tmp 11) (.tmp 47) rfl zLP zLP ?_;refine hK _ _ ?_;clear hK K;simp only[Act.put,zQ,zZ,zJ];simp only[kC,zX,zK,zV];repeat(go_big_quiet_step (rfl))
 refine zY ?_;intro w5 g5;obtain⟨cv,hcv⟩:∃cv,D.coll 0 ps=cv:=⟨_,rfl⟩;rw[hcv]at S3 CO;have S4:=S3.out;obtain⟨s1,s2,s3,s4,s5,s6,-,s8,s9⟩:=S4;have ng:0<m'→D.g≠w.heap.size:=fun h0=>(s3.step b4.out).notPl (mR.step s5 b4.out) h0;have S5:=zW (show DrB D s0 w5∧Boxed w5 (s0+4) 22 (.slice A3 m' (c-q))∧yJ D.g (D.o+ps.length*(D.r*D.z)+q) (fun j=>D.F (ps.length*(D.r*D.z)+(q+j))) m' A3 w5∧Boxed w5 (s0+10) 4 (.bool cv)∧
   mR w.heap.size 55 Q w5∧mR (w.heap.size+1) 55 (fun _=>0#128) w5∧But (DrT s0) w w5 from
  ⟨((s1.step b4.out).row zL3 _).step g5,mO (yE (mO s2 b4.out) zL3 _) g5,((s3.step b4.out).row ng _).step g5,mO (yE (mO s4 b4.out) zL3 _) g5,
   (mR.store (mR.step s5 b4.out) Q).step g5,((mR.step s6 b4.out).otherRow zLS _).step g5,((s8.trans (But.of_below b4.out)).rowNew (zH _) _).trans (But.of_below g5)⟩)
 clear S3 s1 s2 s3 s4 s5 s6 s8 s9 ng b4 g4 C4 g5 bd kp VV m0 m1 h0 h1 z8 mI hI RS;have CB:=zW (zM DD.out.2.1 DD.out.2.2.1);clear DD;have k10:=S5.out.2.2.2.1.cell;have f10:=S5.out.2.2.2.1.frozen;obtain⟨nv,hnv⟩:∃nv,(cv||hv)=nv:=⟨_,rfl⟩;rw[hnv]at CO;have NV:=zW hnv;clear hnv hcv;have fin:∀(K:Act→World→Prop),True:=fun _=>trivial;clear fin;have stage:cv=true∧nv=true∨cv=false∧nv=hv:=by
  have:=NV.out;cases cv
  ·exact .inr ⟨rfl,by rw[←this];rfl⟩
  ·exact .inl ⟨rfl,by rw[←this];rfl⟩
 rcases stage with⟨rfl,rfl⟩|⟨rfl,rfl⟩
 ·go_upto_region 6 with fail;obtain⟨s1,s2,s3,s4,s5,s6,s8⟩:=S5.out;have ng:0<m'→D.g≠s0+10:=fun h0=>s3.notBox s4 (fun x h=>by cases h) h0;have ng2:0<m'→D.g≠w.heap.size+1:=fun h0=>s3.notPl s6 h0;have S6:=zW (show DrB D s0 (w5.setCell ⟨s0+10,0,none⟩ (.bool true))∧Boxed (w5.setCell ⟨s0+10,0,none⟩ (.bool true)) (s0+4) 22 (.slice A3 m' (c-q))∧yJ D.g (D.o+ps.length*(D.r*D.z)+q) (fun j=>D.F (ps.length*(D.r*D.z)+(q+j))) m' A3 (w5.setCell ⟨s0+10,0,none⟩ (.bool true))∧Boxed (w5.setCell ⟨s0+10,0,none⟩ (.bool true)) (s0+10) 4 (.bool true)∧
    mR w.heap.size 55 Q (w5.setCell ⟨s0+10,0,none⟩ (.bool true))∧mR (w.heap.size+1) 55 (fun _=>0#128) (w5.setCell ⟨s0+10,0,none⟩ (.bool true))∧But (DrT s0) w (w5.setCell ⟨s0+10,0,none⟩ (.bool true))from
   ⟨s1.other (.inr (zH _)) _ _,xH s2 zLS _ _,s3.other ng _ _,s4.set _,s5.other zL3 _ _,s6.other zL3 _ _,s8.trans (But.cell _ _ (.inr rfl))⟩)
  generalize w5.setCell ⟨s0+10,0,none⟩ (.bool true)=w6 at*;exact zM1
 ·go_upto_region 6 with fail;obtain⟨s1,s2,s3,s4,s5,s6,s8⟩:=S5.out;have ng:0<m'→D.g≠s0+10:=fun h0=>s3.notBox s4 (fun x h=>by cases h) h0;have ng2:0<m'→D.g≠w.heap.size+1:=fun h0=>s3.notPl s6 h0;have S6:=zW (show DrB D s0 (w5.setCell ⟨s0+10,0,none⟩ (.bool nv))∧Boxed (w5.setCell ⟨s0+10,0,none⟩ (.bool nv)) (s0+4) 22 (.slice A3 m' (c-q))∧yJ D.g (D.o+ps.length*(D.r*D.z)+q) (fun j=>D.F (ps.length*(D.r*D.z)+(q+j))) m' A3 (w5.setCell ⟨s0+10,0,none⟩ (.bool nv))∧Boxed (w5.setCell ⟨s0+10,0,none⟩ (.bool nv)) (s0+10) 4 (.bool nv)∧
    mR w.heap.size 55 Q (w5.setCell ⟨s0+10,0,none⟩ (.bool nv))∧mR (w.heap.size+1) 55 (fun _=>0#128) (w5.setCell ⟨s0+10,0,none⟩ (.bool nv))∧But (DrT s0) w (w5.setCell ⟨s0+10,0,none⟩ (.bool nv))from
   ⟨s1.other (.inr (zH _)) _ _,xH s2 zLS _ _,s3.other ng _ _,s4.set _,s5.other zL3 _ _,s6.other zL3 _ _,s8.trans (But.cell _ _ (.inr rfl))⟩)
  generalize w5.setCell ⟨s0+10,0,none⟩ (.bool nv)=w6 at*;exact zM1
theorem zXI(S:Sc)(x y:Nat)(clip:Bool)(A:Option Addr)(t c:Nat)(w:World):∃w1,w1=((((((w.alloc (.cells (kE S) 58)).alloc (.cells #[.int .i64 (x:Int)] 3)).alloc (.cells #[.int .i64 (y:Int)] 3)).alloc (.cells #[.bool clip] 4)).alloc (.cells #[.slice A t c] 22)).alloc (.cells (kE (lB false 0)) 58))∧SB w.heap.size S w1∧Boxed w1 (w.heap.size+1) 3 (.int .i64 (x:Int))∧Boxed w1 (w.heap.size+2) 3 (.int .i64 (y:Int))∧Boxed w1 (w.heap.size+3) 4 (.bool clip)∧Boxed w1 (w.heap.size+4) 22 (.slice A t c)∧SB (w.heap.size+5) (lB false 0) w1∧Below w.heap.size w w1∧w1.heap.size=w.heap.size+6:=by
 refine⟨_,rfl,?_,?_,?_,?_,?_,?_,?_,by simp⟩
 ·exact(((((SB.new w S).alloc _).alloc _).alloc _).alloc _).alloc _
 ·have h:=(((((jB (w.alloc (.cells (kE S) 58)) 3 (.int .i64 (x:Int))).alloc (.cells #[.int .i64 (y:Int)] 3)).alloc (.cells #[.bool clip] 4)).alloc (.cells #[.slice A t c] 22)).alloc (.cells (kE (lB false 0)) 58));simpa using h
 ·have h:=((((jB ((w.alloc (.cells (kE S) 58)).alloc (.cells #[.int .i64 (x:Int)] 3)) 3 (.int .i64 (y:Int))).alloc (.cells #[.bool clip] 4)).alloc (.cells #[.slice A t c] 22)).alloc (.cells (kE (lB false 0)) 58));simpa using h
 ·have h:=(((jB (((w.alloc (.cells (kE S) 58)).alloc (.cells #[.int .i64 (x:Int)] 3)).alloc (.cells #[.int .i64 (y:Int)] 3)) 4 (.bool clip)).alloc (.cells #[.slice A t c] 22)).alloc (.cells (kE (lB false 0)) 58));simpa using h
 ·have h:=((jB ((((w.alloc (.cells (kE S) 58)).alloc (.cells #[.int .i64 (x:Int)] 3)).alloc (.cells #[.int .i64 (y:Int)] 3)).alloc (.cells #[.bool clip] 4)) 22 (.slice A t c)).alloc (.cells (kE (lB false 0)) 58));simpa using h
 ·have h:=SB.new (((((w.alloc (.cells (kE S) 58)).alloc (.cells #[.int .i64 (x:Int)] 3)).alloc (.cells #[.int .i64 (y:Int)] 3)).alloc (.cells #[.bool clip] 4)).alloc (.cells #[.slice A t c] 22)) (lB false 0);simpa using h
 ·exact((((((zB _ w).alloc (zH _) _).alloc zLO _).alloc zL2 _).alloc zL2 _).alloc zL2 _).alloc zL2 _
theorem zZP(r z m h k:Nat)(w1:World)(hk:w1.heap.size=k):∃w2,w2=(((((w1.alloc (.cells #[.int .i64 (r:Int)] 3)).alloc (.cells #[.int .i64 (z:Int)] 3)).alloc (.cells #[.int .i64 (m:Int)] 3)).alloc (.cells #[.int .i64 (h:Int)] 3)).alloc (.cells #[.bool false] 4))∧Boxed w2 k 3 (.int .i64 (r:Int))∧Boxed w2 (k+1) 3 (.int .i64 (z:Int))∧Boxed w2 (k+2) 3 (.int .i64 (m:Int))∧Boxed w2 (k+3) 3 (.int .i64 (h:Int))∧Boxed w2 (k+4) 4 (.bool false)∧Below w1.heap.size w1 w2∧w2.heap.size=k+5:=by
 subst hk;refine⟨_,rfl,?_,?_,?_,?_,?_,?_,by simp⟩
 ·have h:=(((((jB w1 3 (.int .i64 (r:Int))).alloc (.cells #[.int .i64 (z:Int)] 3)).alloc (.cells #[.int .i64 (m:Int)] 3)).alloc (.cells #[.int .i64 (h:Int)] 3)).alloc (.cells #[.bool false] 4));simpa using h
 ·have h:=((((jB (w1.alloc (.cells #[.int .i64 (r:Int)] 3)) 3 (.int .i64 (z:Int))).alloc (.cells #[.int .i64 (m:Int)] 3)).alloc (.cells #[.int .i64 (h:Int)] 3)).alloc (.cells #[.bool false] 4));simpa using h
 ·have h:=(((jB ((w1.alloc (.cells #[.int .i64 (r:Int)] 3)).alloc (.cells #[.int .i64 (z:Int)] 3)) 3 (.int .i64 (m:Int))).alloc (.cells #[.int .i64 (h:Int)] 3)).alloc (.cells #[.bool false] 4));simpa using h
 ·have h:=((jB (((w1.alloc (.cells #[.int .i64 (r:Int)] 3)).alloc (.cells #[.int .i64 (z:Int)] 3)).alloc (.cells #[.int .i64 (m:Int)] 3)) 3 (.int .i64 (h:Int))).alloc (.cells #[.bool false] 4));simpa using h
 ·have h:=(jB ((((w1.alloc (.cells #[.int .i64 (r:Int)] 3)).alloc (.cells #[.int .i64 (z:Int)] 3)).alloc (.cells #[.int .i64 (m:Int)] 3)).alloc (.cells #[.int .i64 (h:Int)] 3)) 4 (.bool false));simpa using h
 ·exact(((((zB _ w1).alloc (zH _) _).alloc zLO _).alloc zL2 _).alloc zL2 _).alloc zL2 _
structure DrW(b1 b2:Nat)(Z:Sc)(cv:Bool) where
 w:World
 s:SB b1 Z w
 c:Boxed w b2 4 (.bool cv)
theorem yC{w w':World}{b n:Nat}{t:TypeId}{v:Value}(h:Boxed w b t v)(hb:Below n w w')(hn:b<n):Boxed w' b t v:=(hb.block b hn).trans h
theorem DrG.below{D:DrD}{s0 n:Nat}{ps:List Pl}{w w':World}(G:DrG D s0 ps w)(hb:Below n w w')(hs:s0+10<n)(hg:0<D.N*(D.r*D.z)→D.g<n):DrG D s0 ps w':=by
 obtain⟨A,c,d1,d2,d3,d4⟩:=G.data;have b:=G.b;refine⟨⟨yC b.rows hb zLS,yC b.size hb zLS,yC b.x hb zLS,yC b.y hb zLS,yC b.wd hb zLS,yC b.ht hb zLS,yC b.clip hb zLS,b.s.below hb zLS⟩,⟨A,c,yC d1 hb zLS,d2,d3,fun hn=>?_⟩,yC G.coll hb zLS⟩;obtain⟨h1,h2,h3⟩:=d4 hn;have hp:0<D.N*(D.r*D.z):=zF hn (Nat.mul_le_mul_right _ (Nat.sub_le _ _));have hgn:=hg hp;exact⟨h1,zF h2 hb.size,fun j hj=>(hb.cell (p:=⟨D.g,_,none⟩) hgn).trans (h3 j hj)⟩
theorem AR(D:DrD)(ok:zYI D)(M n:Nat)(big:Bool)(hM:D.S.M=(M:Int))(M1:M≤10000)(hN:D.N=(nY M 4).length)(hr:(if big then 16 else n)=D.r)(hzz:(if big then 2 else 1)=D.z)(A:Option Addr)(t c:Nat)(ht:D.N*(D.r*D.z)=t)(hc:t≤c)(c1:c≤1000)(w:World)(hD:yJ D.g D.o D.F t A w):
  Calls Tryz.prog 139 #[.agg (kE D.S),.int .i64 (D.x:Int),.int .i64 (D.y:Int),.int .i64 (n:Int),.bool big,.bool D.clip,.slice A t c] w fun e w'=>
   e=.returned (.tuple #[.agg (kE (xO (fun i p=>wB p (D.sp (nY M i).length)) M D.S)),.bool (D.coll 0 ((nY M 4).map fun i=>D.S.P i.val))])∧Below w.heap.size w w':=by
 have hz:=xE;obtain⟨Z,hZ⟩:∃Z,xO (fun i p=>wB p (D.sp (nY M i).length)) M D.S=Z:=⟨_,rfl⟩;obtain⟨cv,hcv⟩:∃cv,D.coll 0 ((nY M 4).map fun i=>D.S.P i.val)=cv:=⟨_,rfl⟩;rw[hZ,hcv];have RC:=zW ((dH (fun k p=>wB p (D.sp k)) D.S M).trans (by rw[hZ]));have PC:=zW (show D.coll 0 (yD (fun k p=>wB p (D.sp k)) 0 D.S (nY M 4))=cv by rw[WY _ _ _ _ zLS,hcv]);have CH:=zW fun(s0:Nat) (w:World) (l1:s0+10<w.heap.size) (lg:0<D.N*(D.r*D.z)→D.g<w.heap.size) (H:DrG D s0 [] w)=>dF M (g:=171) (caps:=#[.pointer (some ⟨s0+6,0,none⟩),.pointer (some ⟨s0+7,0,none⟩),.pointer (some ⟨s0+4,0,none⟩),.pointer (some ⟨s0+1,0,none⟩),.pointer (some ⟨s0+8,0,none⟩),.pointer (some ⟨s0+2,0,none⟩),.pointer (some ⟨s0+9,0,none⟩),.pointer (some ⟨s0,0,none⟩),.pointer (some ⟨s0+3,0,none⟩),.pointer (some ⟨s0+10,0,none⟩)]) (enters_of Tryz.func171 zLE rfl) (fun k p=>wB p (D.sp k)) (DrT s0) (fun ps W=>DrG D s0 ps W∧∀j,j<w.heap.size→j<W.heap.size) w (fun k h=>by rcases h with h|h<;>omega)
  (fun _ W W' G b=>⟨G.1.below b l1 lg,fun j hj=>zF (G.2 j hj) b.size⟩)
  (fun ps p W hn G _=>(AF D ok s0 ps (by rw[hN];exact hn) p W G.1).mono fun e W' h=>⟨h.1,⟨h.2.1,fun j hj=>zF (G.2 j hj) h.2.2.size⟩,h.2.2⟩) D.S hM M1 ⟨H,fun j hj=>hj⟩
 clear hZ hcv;obtain⟨w1,hw1,S0,X0,Y0,C0,D0,R0,B0,Z0⟩:=zXI D.S D.x D.y D.clip A t c w;have L1:=zW (zM S0 (zM X0 (zM Y0 (zM C0 (zM D0 (zM R0 (zM B0 Z0)))))));have HW:=zW hw1;obtain⟨r,hrr⟩:∃r,D.r=r:=⟨_,rfl⟩;obtain⟨z,hz2⟩:∃z,D.z=z:=⟨_,rfl⟩;obtain⟨x,hx⟩:∃x,D.x=x:=⟨_,rfl⟩;obtain⟨y,hy⟩:∃y,D.y=y:=⟨_,rfl⟩;obtain⟨m,hm⟩:∃m,D.m=m:=⟨_,rfl⟩;obtain⟨h,hh⟩:∃h,D.h=h:=⟨_,rfl⟩;obtain⟨hi,hhi⟩:∃hi,D.S.hi=hi:=⟨_,rfl⟩;obtain⟨cl,hcl⟩:∃cl,D.clip=cl:=⟨_,rfl⟩;have VV:=zW (zM hrr (zM hz2 (zM hx (zM hy (zM hm (zM hh (zM hhi hcl)))))));have SH:=zW fun w=>o9 n big w;rw[hr,hzz,hrr,hz2]at SH;have res:=ok.res;rw[hm,hh,hhi]at res;have SZ:=zW fun w=>aF res w;have TT:=zW (zM hN (zM ht (zM hc (zM c1 hD))));rw[hx,hy,hcl];rw[hx,hy,hcl]at hw1;clear hrr hz2 hx hy hm hh hcl hr hzz res S0 X0 Y0 C0 D0 R0 B0 Z0 hN ht hc c1 hD hM ok;go_enter Tryz.func139,Tryz.ntmps139;go_wp2_with fail;rw[←hw1];clear hz hw1;simp only[qF,Nat.reduceAdd];refine(SH.out _).mono ?_;rintro e w' ⟨rfl,rfl⟩;have k512:=L1.out.1.hires;rw[hhi]at k512;have l0:=L1.out.1.lt;have Z0:=L1.out.2.2.2.2.2.2.2;go_wp2_with fail;simp only[qF,Nat.reduceAdd];refine(SZ.out _).mono ?_;rintro e w' ⟨rfl,rfl⟩;go_upto_region 4 with fail;simp only[qF,Nat.reduceAdd];obtain⟨w2,hw2,r2,z2,m2,h2,f2,b2,n2⟩:=zZP r z m h (w.heap.size+6) w1 Z0;rw[←hw2];clear hw2 k512 l0;have G2:=zW (show DrG D w.heap.size [] w2 from by
  obtain⟨l1,l2,l3,l4,l5,l6,l7,l8⟩:=L1.out;obtain⟨v1,v2,v3,v4,v5,v6,v7,v8⟩:=VV.out;obtain⟨t1,t2,t3,t4,t5⟩:=TT.out;refine⟨⟨by rw[v1];exact r2,by rw[v2];exact z2,mO l2 b2,mO l3 b2,by rw[v5];exact m2,by rw[v6];exact h2,mO l4 b2,l1.step b2⟩,⟨A,c,?_,?_,t4,?_⟩,f2⟩
  ·simp only[List.length_nil,Nat.sub_zero];rw[t2];exact mO l5 b2
  ·simp only[List.length_nil,Nat.sub_zero];omega
  ·simp only[List.length_nil,Nat.sub_zero,Nat.zero_mul,qY,Nat.add_zero];rw[t2];exact(t5.step l7).step b2)
 have S2:=zW (L1.out.1.step b2)
 have R2:=zW (L1.out.2.2.2.2.2.1.step b2);have B2:=zW (L1.out.2.2.2.2.2.2.1.trans (b2.mono L1.out.2.2.2.2.2.2.1.size));have lg:=zW (show 0<D.N*(D.r*D.z)→D.g<w2.heap.size from fun h0=>by
  have:=(TT.out.2.2.2.2 (by rw[←TT.out.2.1];exact h0)).2.1;omega)
 clear r2 z2 m2 h2 f2 b2;refine zG ?_;refine kO vB S2.out (lQ _) rfl (.tmp 7) rfl zL0 ?_;simp only[Act.put,zQ,zZ,zJ];iterate 3 go_step
 refine qH rfl fun K hK=>?_;refine lE (g:=166) (caps:=#[]) (args:=#[.agg (kE D.S),.func (.func 171) #[] #[.pointer (some ⟨w.heap.size+6,0,none⟩),.pointer (some ⟨w.heap.size+7,0,none⟩),.pointer (some ⟨w.heap.size+4,0,none⟩),.pointer (some ⟨w.heap.size+1,0,none⟩),.pointer (some ⟨w.heap.size+8,0,none⟩),.pointer (some ⟨w.heap.size+2,0,none⟩),.pointer (some ⟨w.heap.size+9,0,none⟩),.pointer (some ⟨w.heap.size,0,none⟩),.pointer (some ⟨w.heap.size+3,0,none⟩),.pointer (some ⟨w.heap.size+10,0,none⟩)]]) (.func 166) #[.tmp 34,.tmp 35] #[58,262] rfl (enters_of Tryz.func166 zLE rfl) rfl zL0 ?_;refine(CH.out w.heap.size w2 (by rw[n2];omega) lg.out G2.out).mono ?_;rintro e w3 ⟨rfl,⟨g3,-⟩,b3⟩;have R3:=zW (show SB (w.heap.size+5) (lB false 0) w3 from Blk.but R2.out b3 (by unfold DrT;omega));have B3:=zW (show Below w.heap.size w w3 from B2.out.trans (b3.below zLS (fun k hk=>by rcases hk with h|h<;>omega)));have C3:=zW (show Boxed w3 (w.heap.size+10) 4 (.bool cv)from by have h:=g3.coll;rw[PC.out]at h;exact h);refine⟨_,rfl,hK _ _ ?_⟩;clear hK K b3 g3 G2 S2 R2 B2 lg;rw[RC.out];simp only[Act.put,zQ,zZ,zJ];have n3:w.heap.size+10<w3.heap.size:=C3.out.lt;refine mT (ds:=kE Z) vB QG (lQ _) (lQ _) (nQ _) rfl rfl rfl (.tmp 21) (.tmp 36) rfl zLP zLP ?_;simp only[Act.put,zQ,zZ,zJ];have V4:=zW (SB.new w3 Z);have R4:=zW (R3.out.alloc (.cells (kE Z) 58));have B4:=zW (B3.out.alloc B3.out.size (.cells (kE Z) 58));have C4:=zW (C3.out.alloc (.cells (kE Z) 58));generalize w3.alloc (.cells (kE Z) 58)=w4 at*;clear R3 B3 C3;go_upto_region 5 with fail;have kc:∀u:DrW w3.heap.size (w.heap.size+10) Z cv,u.w.cell? ⟨w.heap.size+10,0,none⟩=some (.bool cv):=fun u=>u.c.cell;have kp:=zW (fun(w':World) (hw:∃u:DrW w3.heap.size (w.heap.size+10) Z cv,w'=u.w)=>show Blk w3.heap.size 58 (kE Z) w' by obtain⟨u,rfl⟩:=hw;exact u.s);refine mJ (C:=fun w'=>∃u:DrW w3.heap.size (w.heap.size+10) Z cv,w'=u.w) [([0,1],2)] [3] zLE zLE (fun _ _ d _ _ h=>by cases d<;>exact h) ⟨⟨w4.drew,V4.out.drew,C4.out⟩,rfl⟩ ?_;intro wd hwd;have bd:=zW (show Below w4.heap.size w4 wd by rw[hwd];exact(zB _ _).drew);clear hwd;refine mV zLC zLU ?_;refine mX vB kp.out (lQ _) rfl (.tmp 21) rfl zL0 ?_;simp only[Act.put,zQ,zZ,zJ];repeat(go_big_quiet_step (rfl))
 refine zY ?_;refine lA zLI ?_;intro K hK;refine nM (ds:=kE Z) vB (R4.out.step bd.out) (lQ _) (lQ _) (nQ _) (.tmp 14) (.tmp 37) rfl zLP zLP ?_;have R6:=zW ((R4.out.step bd.out).store Z);have B6:=zW (vS (B4.out.trans (bd.out.mono B4.out.size)) (by omega:w.heap.size≤w.heap.size+5) (kE Z));have D6:∃u:DrW w3.heap.size (w.heap.size+10) Z cv,wd.setRow (w.heap.size+5) (kE Z)=u.w:=⟨⟨_,(V4.out.step bd.out).otherRow zLS _,yE (mO C4.out bd.out) zLS _⟩,rfl⟩;generalize wd.setRow (w.heap.size+5) (kE Z)=w6 at*;refine hK _ _ D6 ?_;clear hK K D6 V4 R4 B4 C4 kp kc bd;simp only[Act.put,zQ,zZ,zJ];refine nF zLC ?_;repeat(go_big_quiet_step (rfl))
 refine zY ?_;iterate 3 go_step
 exact zS (rF rfl _ _ (w.heap.size+5) _ _ _ _ (.bool cv) rfl rfl R6.out Tryz.underlying58 rfl zMB) rfl ⟨rfl,B6.out⟩
structure Stp where
 k:Int
 m:Int
 hires:Bool
 x:Int
 y:Int
 n:Int
 big:Bool
 clip:Bool
 A:Option Addr
 len:Nat
 cap:Nat
def InI(x:Int):Prop:= -9223372036854775808≤x∧x≤9223372036854775807
structure zJ0(q:Stp)(L:List Nat)(w:World):Prop where
 k:InI q.k
 m:InI q.m
 x:InI q.x
 y:InI q.y
 n:InI q.n
 rd:Rd8 w q.A L
 len:L.length=q.len
 max:q.len≤maxLen
 le:∀b∈L,b≤255
theorem zJ0.step{x:Stp}{L:List Nat}{w w':World}(h:zJ0 x L w)(hb:Below w.heap.size w w'):zJ0 x L w':=⟨h.k,h.m,h.x,h.y,h.n,h.rd.step hb,h.len,h.max,h.le⟩
def wid(hires:Bool):Nat:=if hires then 128 else 64
def hei(hires:Bool):Nat:=if hires then 64 else 32
theorem res_of(hires:Bool):Res hires (wid hires) (hei hires):=by
 cases hires
 ·exact .inr ⟨rfl,rfl,rfl⟩
 ·exact .inl ⟨rfl,rfl,rfl⟩
def mkD(F:Nat→Nat)(S:Sc)(M n:Nat)(big clip:Bool)(x y g o:Nat):DrD:=
 ⟨g,o,F,(nY M 4).length,if big then 16 else n,if big then 2 else 1,x,y,wid S.hi,hei S.hi,clip,S⟩
theorem mkD_ok(F:Nat→Nat)(hF:∀j,F j≤255)(S:Sc)(M n:Nat)(hn:n≤16)(big clip:Bool)(x y g o:Nat)(hx:x≤1000)(hy:y≤1000):zYI (mkD F S M n big clip x y g o):=
 ⟨by unfold mkD;simp only;split<;>omega,by unfold mkD;simp only;cases big<;>simp,hF,by unfold mkD;exact ZQ M 4,hx,hy,res_of S.hi⟩
def drS(D:DrD)(M:Nat):Sc:=xO (fun i p=>wB p (D.sp (nY M i).length)) M D.S
def coS(D:DrD)(M:Nat):Bool:=D.coll 0 ((nY M 4).map fun i=>D.S.P i.val)
theorem YX(F:Nat→Nat)(S:Sc)(M n:Nat)(big clip:Bool)(x y g o g' o':Nat):∀(ps:List Pl) (k:Nat),(mkD F S M n big clip x y g o).coll k ps=(mkD F S M n big clip x y g' o').coll k ps
 |[],k=>rfl
 |p::ps,k=>by rw[DrD.coll,DrD.coll,YX F S M n big clip x y g o g' o' ps];rfl
theorem zYZ(F:Nat→Nat)(S:Sc)(M n:Nat)(big clip:Bool)(x y g o g' o':Nat):coS (mkD F S M n big clip x y g o) M=coS (mkD F S M n big clip x y g' o') M:=YX _ _ _ _ _ _ _ _ _ _ _ _ _ _
theorem N0(M n:Nat)(big:Bool)(hn:n≤32):yY M n big 4≤128:=zK7 M n big hn 4
end
section
open Go.RowKit Num

end
section
open Go.RowKit Go.Shelf Num
section
variable {ops:Array Oper} {C:World→Prop}
end
def drZ(F:Nat→Nat)(S:Sc)(M n:Nat)(big clip:Bool)(x y:Nat):Sc:=drS (mkD F S M n big clip x y 0 0) M
def coZ(F:Nat→Nat)(S:Sc)(M n:Nat)(big clip:Bool)(x y:Nat):Bool:=coS (mkD F S M n big clip x y 0 0) M
theorem drawM(S:Sc)(M n:Nat)(hM:S.M=(M:Int))(M1:M≤15)(n1:n≤15)(big clip:Bool)(x y:Nat)(x1:x≤255)(y1:y≤255)(F:Nat→Nat)(hF:∀j,F j≤255)(g o nd:Nat)(A:Option Addr)(c:Nat)(hnd:yY M n big 4=nd)(hc:nd≤c)(c1:c≤1000)(w:World)(hD:yJ g o F nd A w):
  Calls Tryz.prog 139 #[.agg (kE S),.int .i64 (x:Int),.int .i64 (y:Int),.int .i64 (n:Int),.bool big,.bool clip,.slice A nd c] w fun e w'=>
   e=.returned (.tuple #[.agg (kE (drZ F S M n big clip x y)),.bool (coZ F S M n big clip x y)])∧Below w.heap.size w w':=by
 have hl:(nY M 4).length*((if big then 16 else n)*(if big then 2 else 1))=nd:=by rw[←hnd,iY M n big 4 zLS,sM]
 have h:=AR (mkD F S M n big clip x y g o) (mkD_ok _ hF S M n zLS big clip x y g o zLS zLS) M n big hM zLS rfl rfl rfl A nd c hl hc c1 w hD;refine h.mono fun e w' ⟨he,hb⟩=>⟨he.trans ?_,hb⟩;have e2:=zYZ F S M n big clip x y g o 0 0;unfold coS at e2;unfold drZ coZ drS coS;rw[e2];rfl
theorem drZ_hi(F:Nat→Nat)(S:Sc)(M n:Nat)(big clip:Bool)(x y:Nat):(drZ F S M n big clip x y).hi=S.hi:=rfl
def spZ(F:Nat→Nat)(S:Sc)(M n:Nat)(big clip:Bool)(x y k:Nat):Pl:=(mkD F S M n big clip x y 0 0).sp k
theorem drZ_P(F:Nat→Nat)(S:Sc)(M n:Nat)(big clip:Bool)(x y i:Nat):(drZ F S M n big clip x y).P i=if onB M i then wB (S.P i) (spZ F S M n big clip x y (nY M i).length)else S.P i:=rfl
end
section
open Go.RowKit Num
section
variable (F:Nat→Nat) (S:Sc) (m n:Nat) (big clip:Bool) (x y:Nat)
def uTo(j:Nat):Nat→Pl:=fun i=>if i<j∧onB m i=true then wB (S.P i) (spZ F S m n big clip x y (nY m i).length)else S.P i
def zJB(j:Nat):Bool:=(mkD F S m n big clip x y 0 0).coll 0 ((nY m j).map fun i=>S.P i.val)
theorem PT:(∀i,i<4→S.P i=uTo F S m n big clip x y 0 i)∧zJB F S m n big clip x y 0=false:=by
 constructor
 ·intro i hi;unfold uTo;rw[zL zLS]
 ·unfold zJB;rw[y8];rfl
end
structure Dat(g n:Nat)(F:Nat→Nat)(w:World):Prop where
 lt:g<w.heap.size
 at_:∀j,j<n→w.cell? ⟨g,j,none⟩=some (.int .u8 (F j:Int))
theorem Dat.step{g n:Nat}{F:Nat→Nat}{w w':World}(h:Dat g n F w)(hb:Below w.heap.size w w'):Dat g n F w':=⟨zF h.lt hb.size,fun j hj=>(hb.cell (p:=⟨g,j,none⟩) h.lt).trans (h.at_ j hj)⟩
theorem Dat.otherRow{g n:Nat}{F:Nat→Nat}{w:World}(h:Dat g n F w){b:Nat}(hb:g≠b)(cs:Array Value):Dat g n F (w.setRow b cs):=
 ⟨by have:=h.lt;simpa [World.setRow]using this,fun j hj=>by
  have e:=zO w b g cs hb;have:=h.at_ j hj;unfold World.cell? at*;simp only at*;rw[e];exact this⟩
theorem Dat.all{g n:Nat}{F:Nat→Nat}{w:World}(h:Dat g n F w):yJ g 0 F n (some ⟨g,0,none⟩) w:=fun _=>⟨rfl,h.lt,fun j hj=>by rw[qY];exact h.at_ j hj⟩
def cutA(g n fr:Nat):Option Addr:=if n=fr then some ⟨g,0,none⟩else some ⟨g,fr,none⟩
theorem Dat.cut{g n:Nat}{F:Nat→Nat}{w:World}(h:Dat g n F w){fr k:Nat}(hk:fr+k≤n):yJ g fr (fun j=>F (fr+j)) k (cutA g n fr) w:=fun h0=>by
 unfold cutA;rw[zL zLS];exact⟨rfl,h.lt,fun j hj=>h.at_ _ zLS⟩
end
end Go.Proofs.YthknmadinmigfaaGreatDoor
