/- ScrIter, ScrNeed, ScrChange, ScrOps, ScrChunk, ScrBits, ScrDraw1, ScrDraw, ScrDo, ScrScr, ScrSame, ScrLawD, ScrOne. -/
import Derived.Test.YthknmadinmigfaaGreatDoorMk2a
set_option maxRecDepth 400000
set_option maxHeartbeats 64000000
set_option linter.unusedVariables false
set_option linter.unusedSimpArgs false
namespace Go.Proofs.YthknmadinmigfaaGreatDoor
section
open Go.RowKit Go.Shelf Num
attribute [local go_sem] Oper.semAt_some
def nY(M k:Nat):List (Fin 4):=(List.finRange 4).filter fun i=>decide (i.val<k)&&onB M i.val
theorem uZ(M:Nat):nY M 0=[]:=by simp[nY]
theorem vO(M k:Nat)(hk:k<4):nY M (k+1)=nY M k++if onB M k then[⟨k,hk⟩]else[]:=by
 unfold nY;generalize h0:onB M 0=b0;generalize h1:onB M 1=b1;generalize h2:onB M 2=b2;generalize h3:onB M 3=b3;have e:∀k,(List.finRange 4).filter (fun i=>decide (i.val<k)&&onB M i.val)=(List.finRange 4).filter (fun i=>decide (i.val<k)&&(if i.val=0 then b0 else if i.val=1 then b1 else if i.val=2 then b2 else b3)):=fun k=>by
  refine List.filter_congr fun i _=>?_;rcases i with⟨i,hi⟩;rcases(show i=0∨i=1∨i=2∨i=3 by omega)with rfl|rfl|rfl|rfl<;>simp[h0,h1,h2,h3]
 rw[e,e];clear e;rcases(show k=0∨k=1∨k=2∨k=3 by omega)with rfl|rfl|rfl|rfl
 ·rw[h0];clear h0 h1 h2 h3 M;revert b0 b1 b2 b3 hk;decide
 ·rw[h1];clear h0 h1 h2 h3 M;revert b0 b1 b2 b3 hk;decide
 ·rw[h2];clear h0 h1 h2 h3 M;revert b0 b1 b2 b3 hk;decide
 ·rw[h3];clear h0 h1 h2 h3 M;revert b0 b1 b2 b3 hk;decide
theorem o7(M k:Nat):(nY M k).length≤k:=by
 by_cases h:k≤4
 ·induction k with
  |zero=>rw[uZ];simp
  |succ k ih=>
   have:=ih zLG
   rw[vO M k zLG]
   split<;>simp<;>omega
 ·exact zR (List.length_filter_le _ _) zLA
theorem VG(M:Nat){j k:Nat}(h:j≤k)(hk:k≤4):(nY M j).length≤(nY M k).length:=by
 induction k with
 |zero=>
  obtain rfl:j=0:=by omega
  exact zH _
 |succ k ih=>
  rcases(show j=k+1∨j≤k by omega)with rfl|h1
  ·exact zH _
  ·refine zR (ih h1 zLG) ?_
   rw[vO M k zLG,qI]
   omega
theorem UD(M:Nat){k:Nat}(hk:k<4)(h:onB M k=true):(nY M k).length<(nY M 4).length:=by
 have h1:=VG M (show k+1≤4 by omega) (zH 4);rw[vO M k hk,zN h,qI,List.length_singleton]at h1;omega
def eC(b:Nat)(W W':World):Prop:=W'.heap[b]?=W.heap[b]?
theorem zYJ(a:Nat)(ha:a<9223372036854775808):bits .and .i64 (a:Int) 1=((a%2:Nat):Int):=by
 unfold bits;have e:(BitVec.ofInt IntKind.i64.bits (a:Int)&&&BitVec.ofInt IntKind.i64.bits 1).toNat=a%2:=by
  show(BitVec.ofInt 64 (a:Int)&&&BitVec.ofInt 64 1).toNat=a%2;rw[BitVec.ofInt_natCast,BitVec.toNat_and,BitVec.toNat_ofNat,kV zLG,show(BitVec.ofInt 64 1).toNat=1 by decide,Nat.and_one_is_mod]
 simp only[e];rcases(show a%2=0∨a%2=1 by omega)with h|h<;>rw[h]<;>decide
theorem shr_on(M k:Nat)(hM:M≤10000):∃z:Nat,(M:Int)/2^k=(z:Int)∧bits .and .i64 (z:Int) 1=(if onB M k then 1 else 0):=by
 refine⟨M/2^k,by simp,?_⟩;have:=Nat.div_le_self M (2^k);rw[zYJ _ zLG];unfold onB;by_cases h:M/2^k%2=1
 ·rw[h];simp
 ·rw[show M/2^k%2=0 by omega];simp
theorem Q8(m:Nat)(hm:1≤m)(l Bm M:Nat)(hM:M≤10000)(J Jx:List (Fin 4)→World→Prop)
  (hY:∀pre x W,J pre W→pre.length<(nY M 4).length→YieldAt Fence.wide (m-1) Tryz.prog l #[.int .i64 ((x:Fin 4).val:Int)] W fun e W'=>
   (e=.returned (.bool true)∧J (pre++[x]) W'∧eC Bm W W')∨(e=.returned (.bool false)∧Jx (pre++[x]) W'))
  (W:World) (hB:Boxed W Bm 3 (.int .i64 (M:Int))) (h0:J [] W):
  CallsIn Fence.wide m Tryz.prog 195 #[.func (.yield l) #[] #[],.pointer (some ⟨Bm,0,none⟩)] W fun e W'=>(∃v,e=.returned v)∧
   ((∃ys,ys=nY M 4∧J ys W')∨(∃pre,True∧Jx pre W')):=by
 refine callsIn_of_wp Tryz.func195 rfl trivial ?_ rfl;simp only[Tryz.ntmps195,jZ,List.length_cons,List.length_nil,Nat.reduceAdd,Nat.reduceSub,q8,Array.replicate_zero,jK,q9,List.nil_append,List.cons_append];gi_wp2
 gi_loopw [4] (fun i wr=>∃k:Nat,k≤4∧i=.int .i64 k∧Boxed wr Bm 3 (.int .i64 (M:Int))∧J (nY M k) wr) (fun i _=>4-(intOf i).toNat)
 case atStart=>exact⟨0,by omega,rfl,hB,by rw[uZ];exact h0⟩
 case round=>
  obtain⟨k,hk,rfl,hB,hJ⟩:=hrel
  by_cases hlt:k<4
  ·have cm:=hB.cell
   have ki:(k:Int)<4:=zLG
   obtain⟨z,z1,z2⟩:=shr_on M k hM
   have SU:=zW (vO M k hlt)
   cases hon:onB M k
   ·rw[hon,zL zLD]at z2
    have SV:=zW hon
    clear hon
    gi_wp2
    refine⟨fun _ h=>(by cases h),?_⟩
    gi_wp2
    go_roundw
    case rel=>exact⟨k+1,by omega,by go_num,hB,by rw[SU.out,SV.out,zL zLD,kG];exact hJ⟩
    case measure=>simp[intOf];omega
   ·rw[hon,zN rfl]at z2
    have SV:=zW hon
    clear hon
    obtain⟨fn,tmps,assign,body,hy,hR⟩:=hY (nY M k) ⟨k,hlt⟩ wr hJ (UD M hlt SV.out)
    dsimp only at hy
    gi_wp2
    refine hR.mono ?_
    rintro e W3 (⟨rfl,hJ3,hk3⟩|⟨rfl,hJx3⟩)
    ·gi_wp2
     go_roundw
     case rel=>exact⟨k+1,by omega,by go_num,hk3.trans hB,by rw[SU.out,SV.out,zN rfl];exact hJ3⟩
     case measure=>simp[intOf];omega
    ·gi_wp2
     refine zF (results_none rfl _ _ _) rfl ?_
     exact⟨⟨_,rfl⟩,.inr ⟨_,trivial,hJx3⟩⟩
  ·have hkn:k=4:=zLG
   subst hkn
   gi_wp2
   go_end0
   exact⟨⟨_,rfl⟩,.inl ⟨_,rfl,hJ⟩⟩
theorem pK(m:Nat)(M:Int)(w:World):CallsIn Fence.wide m Tryz.prog 169 #[.int .i64 M] w fun e w'=>
   e=.returned (.func (.func 195) #[] #[.pointer (some ⟨w.heap.size,0,none⟩)])∧w'=w.alloc (.cells #[.int .i64 M] 3):=by
 refine callsIn_of_wp Tryz.func169 rfl trivial ?_ rfl;simp only[Tryz.ntmps169,jZ,List.length_cons,List.length_nil,Nat.reduceAdd,Nat.reduceSub,q8,Array.replicate_zero,jK,q9,List.nil_append,List.cons_append];gi_wp2
 exact zNM
theorem t8(m:Nat)(hm:1≤m)(Bm M:Nat)(hM:M≤10000)(w:World)(hB:Boxed w Bm 3 (.int .i64 (M:Int))):
  SeqStopsK Fence.wide m Tryz.prog 195 #[.pointer (some ⟨Bm,0,none⟩)] (fun x:Fin 4=> #[Value.int .i64 (x.val:Int)]) (eC Bm) (fun ys=>ys=nY M 4) (fun _=>True) (nY M 4).length w:=fun l J Jx W hW _ _ hY h0=>
 Q8 m hm l Bm M hM J Jx hY W ((hW.block Bm hB.lt).trans hB) h0
theorem eC.trans{b:Nat}{u v w:World}(h:eC b u v)(h':eC b v w):eC b u w:=Eq.trans h' h
theorem ZR{b:Nat}{W:World}{l:Nat}{o':Obj}(h1:b≠l):eC b W (W.putObj l o'):=jX h1
theorem oO(n:Nat)(big:Bool)(w:World):Calls Tryz.prog 168 #[.int .i64 (n:Int),.bool big] w fun e w'=>e=.returned (.tuple #[.int .i64 ((if big then 16 else n:Nat):Int),.int .i64 ((if big then 2 else 1:Nat):Int)])∧w=w':=by
 cases big
 all_goals
  go_enter Tryz.func168,Tryz.ntmps168
  go_wp2
  go_ret2
  exact⟨rfl,rfl⟩
attribute [local go_sem] Oper.semAt_some
theorem iV(M n:Nat)(big:Bool)(k:Nat)(hk:k≤4):yL M n big k=(nY M k).length*per n big:=by
 induction k with
 |zero=>rw[uZ];simp[yL]
 |succ k ih=>
  rw[yL,ih zLG,vO M k zLG]
  split
  ·simp[Nat.add_mul]
  ·simp
theorem sV(n:Nat)(big:Bool):(if big then 16 else n)*(if big then 2 else 1)=per n big:=by
 unfold per;cases big<;>simp
theorem ZV(S:Sc)(M n:Nat)(big:Bool)(hM:S.M=(M:Int))(M1:M≤10000)(n1:n≤32)(w:World):
  Calls Tryz.prog 137 #[.agg (kC S),.int .i64 (n:Int),.bool big] w fun e w'=>e=.returned (.int .i64 (yL M n big 4:Nat))∧Below w.heap.size w w':=by
 refine(callsIn_wide (n:=6)).1 ?_;have S0:=zW (SB.new w S);have B0:=zW (nC w (.cells (kC S) 58));have Z0:(w.alloc (.cells (kC S) 58)).heap.size=w.heap.size+1:=zLP;obtain⟨r,hr⟩:∃r:Nat,(if big then 16 else n)=r:=⟨_,rfl⟩;obtain⟨z,hz⟩:∃z:Nat,(if big then 2 else 1)=z:=⟨_,rfl⟩;have r1:(r:Int)≤32:=by rw[←hr];split<;>omega
 have z1:(z:Int)≤2:=by rw[←hz];split<;>omega
 have PZ:=zW (show r*z=per n big by rw[←hr,←hz,sV]);have SH:=zW fun w=>oO n big w;rw[hr,hz]at SH;have HM:=zW hM;clear hr hz hM;refine callsIn_of_wp_marks Tryz.func137 rfl trivial ?_ rfl;simp only[Tryz.ntmps137,jZ,List.length_cons,List.length_nil,Nat.reduceAdd,Nat.reduceSub,q8,Array.replicate_zero,jK,q9,List.nil_append,List.cons_append];gi_wp2_with fail
 generalize w.alloc (.cells (kC S) 58)=w1 at*;refine⟨trivial,?_⟩;gi_at_call 168
 refine(callsIn_wide.2 (SH.out _)).mono ?_;rintro e w' ⟨rfl,rfl⟩;have c513:=S0.out.maskc;have l0:=S0.out.lt;rw[HM.out]at c513;gi_wp2_with fail
 clear c513 l0;have B7:=zW (((jB w1 3 (.int .i64 (r:Int))).alloc (.cells #[.int .i64 (z:Int)] 3)).alloc (.cells #[.int .i64 0] 3));have B8:=zW ((jB (w1.alloc (.cells #[.int .i64 (r:Int)] 3)) 3 (.int .i64 (z:Int))).alloc (.cells #[.int .i64 0] 3));have B9:=zW (jB ((w1.alloc (.cells #[.int .i64 (r:Int)] 3)).alloc (.cells #[.int .i64 (z:Int)] 3)) 3 (.int .i64 0));have BB:=zW (((B0.out.alloc B0.out.size (.cells #[.int .i64 (r:Int)] 3)).alloc (by simp[Z0];omega) (.cells #[.int .i64 (z:Int)] 3)).alloc (by simp[Z0];omega) (.cells #[.int .i64 0] 3));rw[zT,Z0]at B8;rw[zT,zT,Z0]at B9;rw[Z0]at B7;have Z3:(((w1.alloc (.cells #[.int .i64 (r:Int)] 3)).alloc (.cells #[.int .i64 (z:Int)] 3)).alloc (.cells #[.int .i64 0] 3)).heap.size=w.heap.size+4:=by simp[Z0]
 generalize ((w1.alloc (.cells #[.int .i64 (r:Int)] 3)).alloc (.cells #[.int .i64 (z:Int)] 3)).alloc (.cells #[.int .i64 0] 3)=w2 at*;clear Z0 S0 B0 w1;refine⟨trivial,?_⟩;refine(pK _ _ _).mono ?_;rintro e w' ⟨rfl,rfl⟩;simp only[];gi_wp2_with fail
 have BM:=jB w2 3 (.int .i64 (M:Int));have B7:=zW (B7.out.alloc (.cells #[.int .i64 (M:Int)] 3));have B8:=zW (B8.out.alloc (.cells #[.int .i64 (M:Int)] 3));have B9:=zW (B9.out.alloc (.cells #[.int .i64 (M:Int)] 3));have BB:=zW (BB.out.alloc (by rw[Z3];omega) (.cells #[.int .i64 (M:Int)] 3));have Z4:(w2.alloc (.cells #[.int .i64 (M:Int)] 3)).heap.size=w.heap.size+5:=by simp[Z3]
 rw[Z3]at BM⊢;generalize w2.alloc (.cells #[.int .i64 (M:Int)] 3)=w3 at*;clear Z3;obtain⟨pz,hpz⟩:∃pz:Nat,r*z=pz:=⟨_,rfl⟩;have pz1:pz≤64:=by rw[←hpz];exact Nat.mul_le_mul (by omega:r≤32) (by omega:z≤2)
 have hpI:(r:Int)*(z:Int)=(pz:Int):=by rw[←hpz];simp
 have PQ:=zW (show pz=per n big by rw[←hpz,PZ.out]);clear hpz PZ;refine wpIn_rangeFunc_ownG rfl zLG (gf:=195) (lb:=#[.pointer (some ⟨w.heap.size+4,0,none⟩)]) rfl trivial (enters_of Tryz.func195 zLR rfl)
  (t8 _ zLG (w.heap.size+4) M M1 w3 BM) eC.trans (fun W l o o' hl _ _ _=>ZR zLG) (zG _ _) (fun _=>rfl)
  (fun pre W=>Boxed W (w.heap.size+1) 3 (.int .i64 (r:Int))∧Boxed W (w.heap.size+1+1) 3 (.int .i64 (z:Int))∧Boxed W (w.heap.size+1+1+1) 3 (.int .i64 ((pre.length*pz:Nat):Int))∧Below w.heap.size w W)
  (fun _ _ _=>False)
  (OwnFrom.and (Own.from (boxed_own _ _ _) _) (OwnFrom.and (Own.from (boxed_own _ _ _) _) (OwnFrom.and (Own.from (boxed_own _ _ _) _) (ownFrom_below (zH _) zLG))))
  (fun _ _ _ _ _ hs _ _=>hs)
  ⟨B7.out,B8.out,by simpa using B9.out,BB.out⟩
  (fun x=>{tmps:=#[.agg (kC S),.int .i64 (n:Int),.bool big,.pointer (some ⟨w.heap.size,0,none⟩),undef,undef,.int .i64 0,.pointer (some ⟨w.heap.size+1,0,none⟩),.pointer (some ⟨w.heap.size+1+1,0,none⟩),.pointer (some ⟨w.heap.size+1+1+1,0,none⟩),.tuple #[.int .i64 (r:Int),.int .i64 (z:Int)],.int .i64 (n:Int),.bool big,.tuple #[.int .i64 (r:Int),.int .i64 (z:Int)],.int .i64 (r:Int),.int .i64 (z:Int),.pointer (some ⟨w.heap.size,513,none⟩),.int .i64 (M:Int),.func (.func 195) #[] #[.pointer (some ⟨w.heap.size+4,0,none⟩)],.int .i64 (x.val:Int),undef,undef,undef,undef,undef,undef],defers:=[]}) ?assign ?body ?done ?stop
 case assign=>
  intro l x W K hK
  gi_wp2
  go_simp
  exact hK
 case body=>
  rintro l pre x W ⟨h7,h8,h9,hB⟩ hlt
  have c7:=h7.cell
  have c8:=h8.cell
  have c9:=h9.cell
  have f9:=h9.frozen
  have HH:=zW (zM h7 (zM h8 (zM h9 hB)))
  obtain⟨t,ht⟩:∃t:Nat,pre.length*pz=t:=⟨_,rfl⟩
  have t1:t≤256:=by rw[←ht];exact Nat.mul_le_mul (by have:=o7 M 4;omega:pre.length≤4) pz1
  have HT:=zW (show(pre++[x]).length*pz=t+pz by rw[qI,Nat.add_mul,ht];simp)
  rw[ht]at c9 HH
  clear h7 h8 h9 hB ht hlt
  gi_wp2
  refine⟨(KeepsOthers.setCell _ _ _).from _,?_,HH.out.1.other zLG _,HH.out.2.1.other zLG _,?_,HH.out.2.2.2.setCell (p:=⟨w.heap.size+1+1+1,0,none⟩) (by show w.heap.size≤w.heap.size+1+1+1;omega) _⟩
  ·exact qY W ⟨w.heap.size+1+1+1,0,none⟩ _ _ (by show w.heap.size+4≠w.heap.size+1+1+1;omega)
  ·rw[HT.out]
   exact HH.out.2.2.1.set _
 case done=>
  rintro D ys W hD rfl ⟨h7,h8,h9,hB⟩ hK
  have c9:=h9.cell
  rw[show((nY M 4).length*pz:Nat)=yL M n big 4 by rw[iV M n big 4 zLG,PQ.out]]at c9
  gi_wp2
  refine⟨by simp,.inl ⟨_,_,rfl,run_takeDeferred hK,?_⟩⟩
  refine⟨_,results_tmp rfl _ _ _,rfl,?_⟩
  exact hB.trans (belowK_b (w:=w) (zH _) W D _ _ zLG hK rfl rfl)
 case stop=>
  rintro D c pre W _ _ h _
  exact h.elim
attribute [local go_sem] Oper.semAt_some
structure But(T:Nat→Prop)(w w':World):Prop where
 os:w'.os=w.os
 tape:w'.tape=w.tape
 output:w'.output=w.output
 size:w.heap.size≤w'.heap.size
 block:∀k,k<w.heap.size→¬T k→w'.heap[k]?=w.heap[k]?
section
variable {T:Nat→Prop} {u w w':World}
theorem But.refl(T:Nat→Prop)(w:World):But T w w:=⟨rfl,rfl,rfl,zH _,fun _ _ _=>rfl⟩
theorem But.trans(h:But T u w)(k:But T w w'):But T u w':=⟨k.os.trans h.os,k.tape.trans h.tape,k.output.trans h.output,zR h.size k.size,fun j hj ht=>(k.block j (zS hj h.size) ht).trans (h.block j hj ht)⟩
theorem But.of_below(h:Below w.heap.size w w'):But T w w':=⟨h.os,h.tape,h.output,h.size,fun k hk _=>h.block k hk⟩
theorem But.all(h:But (fun _=>False) w w'):Below w.heap.size w w':=⟨h.os,h.tape,h.output,h.size,fun k hk=>h.block k hk id⟩
theorem But.below(h:But T w w'){B:Nat}(hB:B≤w.heap.size)(hT:∀k,T k→B≤k):Below B w w':=⟨h.os,h.tape,h.output,h.size,fun k hk=>h.block k zLG fun ht=>by have:=hT k ht;omega⟩
theorem But.mono{T':Nat→Prop}(h:But T w w')(hT:∀k,T k→T' k):But T' w w':=⟨h.os,h.tape,h.output,h.size,fun k hk ht=>h.block k hk fun h=>ht (hT k h)⟩
theorem But.row{b:Nat}(cs:Array Value)(h:T b):But T w (w.setRow b cs):=⟨rfl,rfl,rfl,by simp[World.setRow],fun k hk ht=>zU w b k cs (fun e=>ht (e▸h))⟩
theorem But.cell{b:Nat}(o:Nat)(v:Value)(h:T b):But T w (w.setCell ⟨b,o,none⟩ v):=⟨rfl,rfl,rfl,by simp,fun k hk ht=>qY w _ v k (fun e=>ht (e▸h))⟩
theorem But.drew:But T w w.drew:=⟨rfl,rfl,rfl,zH _,fun _ _ _=>rfl⟩
theorem Blk.but{b:Nat}{t:TypeId}{cs:Array Value}(H:Blk b t cs w)(h:But T w w')(hb:¬T b):Blk b t cs w':=(h.block b H.lt hb).trans H
end
def tC(step:Nat→Pl→Pl)(n:Nat)(S:Sc):List (Fin 4)→Sc
 |[]=>S
 |x::xs=>tC step (n+1) (S.put x.val (step n (S.P x.val))) xs
theorem sJ(step:Nat→Pl→Pl):∀(pre:List (Fin 4)) (n:Nat) (S:Sc) (x:Fin 4),tC step n S (pre++[x])=(tC step n S pre).put x.val (step (n+pre.length) ((tC step n S pre).P x.val))
 |[],n,S,x=>rfl
 |y::ys,n,S,x=>by
  rw[List.cons_append,tC,sJ step ys,tC,List.length_cons,show n+1+ys.length=n+(ys.length+1) by omega]
def yS(step:Nat→Pl→Pl)(n:Nat)(S:Sc):List (Fin 4)→List Pl
 |[]=>[]
 |x::xs=>S.P x.val::yS step (n+1) (S.put x.val (step n (S.P x.val))) xs
theorem gJ(step:Nat→Pl→Pl):∀(pre:List (Fin 4)) (n:Nat) (S:Sc) (x:Fin 4),yS step n S (pre++[x])=yS step n S pre++[(tC step n S pre).P x.val]
 |[],n,S,x=>rfl
 |y::ys,n,S,x=>by
  rw[List.cons_append,yS,gJ step ys,yS,tC];rfl
theorem aI(step:Nat→Pl→Pl):∀(pre:List (Fin 4)) (n:Nat) (S:Sc),(yS step n S pre).length=pre.length
 |[],n,S=>rfl
 |y::ys,n,S=>by rw[yS,List.length_cons,aI step ys,List.length_cons]
structure ChW(b:Nat)(S:Sc)(fv:Value) where
 w:World
 s:SB b S w
 f:Blk (b+1) 262 #[fv] w
structure ChI(step:Nat→Pl→Pl)(T:Nat→Prop)(G:List Pl→World→Prop)(S:Sc)(fv:Value)(w:World)(ps:List Pl)(Z:Sc)(W:World):Prop where
 s:SB w.heap.size Z W
 f:Blk (w.heap.size+1) 262 #[fv] W
 r:SB (w.heap.size+1+1) (lR false 0) W
 g:G ps W
 b:But T w W
 sz:w.heap.size+4≤W.heap.size
theorem But.turn{T:Nat→Prop}{u W W':World}{row:Option Nat}(h:But T u W)(hg:W.grownBy W' row)(hr:∀r,row=some r→u.heap.size≤r):But T u W':=
 ⟨hg.os.trans h.os,hg.tape.trans h.tape,hg.output.trans h.output,zR h.size hg.size,fun k hk ht=>(hg.block k (zS hk h.size) (fun e=>by have:=hr k e.symm;omega)).trans (h.block k hk ht)⟩
theorem Blk.turn{b:Nat}{t:TypeId}{cs:Array Value}{W W':World}{row:Option Nat}(H:Blk b t cs W)(hg:W.grownBy W' row)(hr:∀r,row=some r→∃o:Obj,W.heap[r]?=some o∧o.isCells=false):Blk b t cs W':=
 (hg.block b H.lt fun e=>by obtain⟨o,ho,hc⟩:=hr b e.symm;rw[show W.heap[b]?=_ from H]at ho;cases ho;cases hc).trans H
theorem dG(M:Nat){g:Nat}{caps:Array Value}(eg:∀args w,(callFunc g args).run Tryz.prog w=.ok (.enter g args) w)(step:Nat→Pl→Pl)(T:Nat→Prop)(G:List Pl→World→Prop)(w:World)(hT:∀k,T k→k<w.heap.size)
  (hG:∀ps W W',G ps W→Below w.heap.size W W'→G ps W')
  (hf:∀ps p W,ps.length<(nY M 4).length→G ps W→But T w W→Calls Tryz.prog g (#[.agg (kU p)]++caps) W fun e W'=>e=.returned (.agg (kU (step ps.length p)))∧G (ps++[p]) W'∧But T W W')
  (S:Sc) (hM:S.M=(M:Int)) (M1:M≤10000) (h0:G [] w):
  Calls Tryz.prog 166 #[.agg (kC S),.func (.func g) #[] caps] w fun e w'=>e=.returned (.agg (kC (tC step 0 S (nY M 4))))∧G (yS step 0 S (nY M 4)) w'∧But T w w':=by
 refine(callsIn_wide (n:=6)).1 ?_;have hz:=xC;have S0:=zW (((SB.new w S).alloc (.cells #[.func (.func g) #[] caps] 262)).alloc (.cells (kC (lR false 0)) 58));have F0:=zW ((Blk.new (w.alloc (.cells (kC S) 58)) 262 #[.func (.func g) #[] caps]).alloc (.cells (kC (lR false 0)) 58));have R0:=zW (SB.new ((w.alloc (.cells (kC S) 58)).alloc (.cells #[.func (.func g) #[] caps] 262)) (lR false 0));have B0:=zW ((((zG _ w).alloc (zH _) (.cells (kC S) 58)).alloc zLP (.cells #[.func (.func g) #[] caps] 262)).alloc zLA (.cells (kC (lR false 0)) 58));rw[zT]at F0;rw[zT,zT]at R0;have Z0:(((w.alloc (.cells (kC S) 58)).alloc (.cells #[.func (.func g) #[] caps] 262)).alloc (.cells (kC (lR false 0)) 58)).heap.size=w.heap.size+3:=zLP;have c513:(kC S)[513]?=some (.int .i64 (M:Int)):=by rw[mN _ _ zLG,←hM];rfl
 have HM:=zW hM;have HF:=zW hf;have GG:=zW (zM hT (zM hG h0));clear hM hf hT hG h0;refine callsIn_of_wp_marks Tryz.func166 rfl trivial ?_ rfl;simp only[Tryz.ntmps166,jZ,List.length_cons,List.length_nil,Nat.reduceAdd,Nat.reduceSub,q8,Array.replicate_zero,jK,q9,List.nil_append,List.cons_append];gi_wp2_with fail
 generalize ((w.alloc (.cells (kC S) 58)).alloc (.cells #[.func (.func g) #[] caps] 262)).alloc (.cells (kC (lR false 0)) 58)=w2 at*;clear c513 hz;refine⟨trivial,?_⟩;refine(pK _ _ _).mono ?_;rintro e w' ⟨rfl,rfl⟩;simp only[];gi_wp2_with fail
 have BM:=jB w2 3 (.int .i64 (M:Int));have S1:=zW (S0.out.alloc (.cells #[.int .i64 (M:Int)] 3));have F1:=zW (F0.out.alloc (.cells #[.int .i64 (M:Int)] 3));have R1:=zW (R0.out.alloc (.cells #[.int .i64 (M:Int)] 3));have B1:=zW (B0.out.alloc B0.out.size (.cells #[.int .i64 (M:Int)] 3));have Z1:(w2.alloc (.cells #[.int .i64 (M:Int)] 3)).heap.size=w.heap.size+4:=by simp[Z0]
 rw[Z0]at BM⊢;generalize w2.alloc (.cells #[.int .i64 (M:Int)] 3)=w3 at*;clear Z0 S0 F0 R0 B0;refine wpIn_rangeFunc_ownG rfl zLG (gf:=195) (lb:=#[.pointer (some ⟨w.heap.size+3,0,none⟩)]) rfl trivial (enters_of Tryz.func195 zLR rfl)
  (t8 _ zLG (w.heap.size+3) M M1 w3 BM) eC.trans (fun W l o o' hl _ _ _=>ZR zLG) (zG _ _) (fun _=>rfl)
  (fun pre W=>ChI step T G S (.func (.func g) #[] caps) w (yS step 0 S pre) (tC step 0 S pre) W)
  (fun _ _ _=>False)
  (fun pre W W' row hs hg hr=>⟨Blk.turn hs.s hg (fun r e=>(hr r e).2),Blk.turn hs.f hg (fun r e=>(hr r e).2),Blk.turn hs.r hg (fun r e=>(hr r e).2),GG.out.2.1 _ _ _ hs.g ⟨hg.os,hg.tape,hg.output,hg.size,fun k hk=>hg.block k (zS hk hs.b.size) (fun e=>by have:=(hr k e.symm).1;omega)⟩,hs.b.turn hg (fun r e=>by have:=(hr r e).1;omega),zR hs.sz hg.size⟩)
  (fun _ _ _ _ _ hs _ _=>hs)
  ⟨S1.out,F1.out,R1.out,GG.out.2.1 _ _ _ GG.out.2.2 B1.out,But.of_below B1.out,by omega⟩
  (fun x=>{tmps:=#[.agg (kC S),.func (.func g) #[] caps,.pointer (some ⟨w.heap.size,0,none⟩),.pointer (some ⟨w.heap.size+1,0,none⟩),.pointer (some ⟨w.heap.size+1+1,0,none⟩),.int .i64 (x.val:Int),.pointer (some ⟨w.heap.size,513,none⟩),.int .i64 (M:Int),.func (.func 195) #[] #[.pointer (some ⟨w.heap.size+3,0,none⟩)],.int .i64 (x.val:Int),undef,undef,undef,undef,undef,undef,undef,undef,undef,undef],defers:=[]}) ?assign ?body ?done ?stop
 case assign=>
  intro l x W K hK
  gi_wp2
  exact hK
 case body=>
  rintro l pre x W H hlt
  obtain⟨k,hk⟩:=x
  obtain⟨Z,hZ⟩:∃Z,tC step 0 S pre=Z:=⟨_,rfl⟩
  obtain⟨ps,hps⟩:∃ps,yS step 0 S pre=ps:=⟨_,rfl⟩
  have hpl:ps.length=pre.length:=by rw[←hps,aI]
  have HP:=zW (show yS step 0 S (pre++[⟨k,hk⟩])=ps++[Z.P k] by rw[gJ,hps,hZ])
  rw[hps]at H
  clear hps
  have HZ:=zW (show tC step 0 S (pre++[⟨k,hk⟩])=Z.put k (step ps.length (Z.P k)) by rw[sJ,hZ,qM,hpl])
  rw[hZ]at H
  have HH:=zW H
  have HL:=zW (zM hlt hk)
  clear H hlt hZ
  gi_step
  apply wpIn_block
  refine eO (C:=fun w'=>∃x:ChW w.heap.size Z (.func (.func g) #[] caps),w'=x.w) 9 [([0,1,2,3,4,5,7],6,false)] [8] [] zLR zLR ?_ ?_ ?_ ⟨⟨W.drew,HH.out.s.drew,HH.out.f.drew⟩,rfl⟩ ?_
  ·exact fun _ _ d _ _ h=>by cases d<;>exact h
  ·exact fun _ _ h=>h
  ·rintro _ w' ⟨x,rfl⟩ h
   exact⟨⟨w',x.s.step h,x.f.step h⟩,rfl⟩
  intro wd hwd
  have D:=zW (show ChI step T G S (.func (.func g) #[] caps) w ps Z wd from by rw[hwd];exact⟨HH.out.s.drew,HH.out.f.drew,HH.out.r.drew,GG.out.2.1 _ _ _ HH.out.g ⟨rfl,rfl,rfl,zH _,fun _ _=>rfl⟩,HH.out.b.trans But.drew,HH.out.sz⟩)
  have KW:=zW (show But T W wd from by rw[hwd];exact But.drew)
  have kI:(k:Int)<4:=zLG
  have cf:∀x:ChW w.heap.size Z (.func (.func g) #[] caps),x.w.cell? ⟨w.heap.size+1,0,none⟩=some (.func (.func g) #[] caps):=fun x=>by rw[x.f.cell];rfl
  have CF:=zW (fun(w':World) (h:∃x:ChW w.heap.size Z (.func (.func g) #[] caps),w'=x.w)=>show w'.cell? ⟨w.heap.size+1,0,none⟩=some (.func (.func g) #[] caps) by obtain⟨x,rfl⟩:=h;exact cf x)
  have HS:=zW (fun(w':World) (h:∃x:ChW w.heap.size Z (.func (.func g) #[] caps),w'=x.w)=>show SB w.heap.size Z w' by obtain⟨x,rfl⟩:=h;exact x.s)
  clear hwd
  dsimp only
  refine vE zLT zLF ?_
  go_big_quiet_step (rfl)
  refine aC ⟨_,Tryz.underlying262,rfl⟩ CF.out rfl (.tmp 3) rfl zLE ?_
  simp only[Act.put,zQ,zZ,zJ]
  go_big_quiet_step (rfl)
  go_big_quiet_step (rfl)
  go_big_quiet_step (rfl)
  refine lW (o:=k*128) (n:=128) uA HS.out zL9 rfl (.tmp 14) rfl zLE ?_
  rw[UP _ _ hk]
  simp only[Act.put,zQ,zZ,zJ]
  go_big_quiet_step (rfl)
  refine zY ?_
  refine vS rfl ?_
  intro w1 g1 C1 K hK
  have D1:=zW (show ChI step T G S (.func (.func g) #[] caps) w ps Z w1 from⟨D.out.s.step g1,D.out.f.step g1,D.out.r.step g1,GG.out.2.1 _ _ _ D.out.g (g1.mono D.out.b.size),D.out.b.trans (But.of_below g1),zR D.out.sz g1.size⟩)
  have K1:=zW (KW.out.trans (But.of_below g1))
  refine lC (g:=g) (caps:=caps) (args:=#[.agg (kU (Z.P k))]++caps) (.tmp 11) #[.tmp 15] #[55] rfl eg zLB zLB ?_
  refine(HF.out ps (Z.P k) w1 (by rw[hpl];exact HL.out.1) D1.out.g D1.out.b).mono ?_
  rintro e w2' ⟨rfl,hg2,b2⟩
  have nT:∀j,w.heap.size≤j→¬T j:=fun j hj ht=>by have:=GG.out.1 j ht;omega
  have D2:=zW (show ChI step T G S (.func (.func g) #[] caps) w (ps++[Z.P k]) Z w2' from⟨Blk.but D1.out.s b2 (nT _ zLG),Blk.but D1.out.f b2 (nT _ zLG),Blk.but D1.out.r b2 (nT _ zLG),hg2,D1.out.b.trans b2,zR D1.out.sz b2.size⟩)
  have K2:=zW (K1.out.trans b2)
  clear D D1 K1 KW b2 hg2 g1 C1
  refine⟨_,rfl,?_⟩
  refine hK _ _ ⟨⟨w2',D2.out.s,D2.out.f⟩,rfl⟩ ?_
  clear hK K
  simp only[Act.put,zQ,zZ,zJ]
  refine lT zLT zLF ?_
  go_big_quiet_step (rfl)
  refine zY ?_
  refine lD rfl ?_
  intro w3' g3 C3 K hK
  obtain⟨st,hst⟩:∃st,step ps.length (Z.P k)=st:=⟨_,rfl⟩
  rw[hst]at HZ⊢
  refine mW (o:=k*128) (ds:=kU st) uA (D2.out.s.step g3) (lZ _) zL9 (vL _) (.tmp 18) (.tmp 16) rfl zLB zLB ?_
  rw[sc_put _ _ hk]
  refine hK _ _ ?_
  clear hK K
  refine zY ?_
  intro w4 g4
  have D3:=zW (show ChI step T G S (.func (.func g) #[] caps) w (ps++[Z.P k]) Z w3' from⟨D2.out.s.step g3,D2.out.f.step g3,D2.out.r.step g3,GG.out.2.1 _ _ _ D2.out.g (g3.mono D2.out.b.size),D2.out.b.trans (But.of_below g3),zR D2.out.sz g3.size⟩)
  have K3:=zW (K2.out.trans (But.of_below g3))
  have q1:=Z1
  have hsz:=K3.out.size
  have B4:=zW (show But (fun j=>j=w.heap.size) w3' w4 from(But.row (T:=fun j=>j=w.heap.size) _ rfl).trans (But.of_below g4))
  have hgr:Below w.heap.size w3' w4:=B4.out.below (D3.out.b.size) (fun j hj=>by omega)
  have hWs:=HH.out.sz
  have hkeep:∀j,w.heap.size+1≤j→j<W.heap.size→w4.heap[j]?=W.heap[j]?:=fun j hj hl=>by
   have h1:=K3.out.block j hl (fun ht=>by have:=GG.out.1 j ht;omega);have h2:=B4.out.block j (zS hl K3.out.size) (by show¬j=w.heap.size;omega);exact h2.trans h1
  refine⟨⟨zR K3.out.size B4.out.size,fun j o hB ho hc=>?_⟩,?_,?_⟩
  ·rw[hkeep j zLG (qK.1 ho).1,ho]
  ·exact hkeep _ zLG zLG
  ·show ChI step T G S (.func (.func g) #[] caps) w (yS step 0 S (pre++[(⟨k,hk⟩:Fin 4)])) (tC step 0 S (pre++[(⟨k,hk⟩:Fin 4)])) w4
   rw[HP.out,HZ.out]
   refine⟨?_,?_,?_,?_,?_,zR D3.out.sz B4.out.size⟩
   ·exact Blk.but (Blk.store D3.out.s _) (But.of_below (T:=fun _=>False) g4) id
   ·exact Blk.but D3.out.f B4.out (by show¬w.heap.size+1=w.heap.size;omega)
   ·exact Blk.but D3.out.r B4.out (by show¬w.heap.size+1+1=w.heap.size;omega)
   ·exact GG.out.2.1 _ _ _ D3.out.g hgr
   ·exact⟨hgr.os.trans D3.out.b.os,hgr.tape.trans D3.out.b.tape,hgr.output.trans D3.out.b.output,zR D3.out.b.size hgr.size,fun j hj ht=>(hgr.block j hj).trans (D3.out.b.block j hj ht)⟩
 case done=>
  rintro D ys W hD rfl H hK
  obtain⟨Z,hZ⟩:∃Z,tC step 0 S (nY M 4)=Z:=⟨_,rfl⟩
  rw[hZ]at H
  have HH:=zW H
  have HZ:=zW hZ
  clear H hZ
  simp only[Exit.inBlock,Exit.then]
  gi_step
  refine wpIn_wide.2 ?_
  go_step
  refine zB ?_
  refine lJ vT HH.out.s (lQ _) rfl (.tmp 2) rfl zLE ?_
  refine kO (ds:=kC Z) vT HH.out.r (lQ _) (lQ _) (nZ _) rfl (.tmp 4) (.tmp 19) rfl zLB zLB ?_
  simp only[Act.put,zQ,zZ,zJ]
  have hDs:w.heap.size+4≤D:=zLG
  have R5:SB (w.heap.size+1+1) Z ((W.setRow (w.heap.size+1+1) (kC Z)).putObj D (.deferred none)):=(jX zLG).trans (Blk.store HH.out.r (kC Z))
  have B5:Below w.heap.size W ((W.setRow (w.heap.size+1+1) (kC Z)).putObj D (.deferred none)):=
   ⟨rfl,rfl,rfl,by simp[World.setRow,World.putObj],fun j hj=>(jX zLG).trans (zU W _ j _ zLG)⟩
  have hK5:(W.setRow (w.heap.size+1+1) (kC Z)).heap[D]?=some (.deferred (some [])):=(zU W _ D _ zLG).trans hK
  have RR:=zW (zM R5 (zM B5 hK5))
  clear R5 B5 hK5
  generalize W.setRow (w.heap.size+1+1) (kC Z)=W5 at*
  iterate 4 go_step
  refine⟨by simp,.inl ⟨_,_,rfl,run_takeDeferred RR.out.2.2,?_⟩⟩
  refine⟨_,zE rfl _ _ (w.heap.size+1+1) _ _ _ _ rfl RR.out.1 Tryz.underlying58 rfl zMY,?_,?_,?_⟩
  ·rw[HZ.out]
  ·exact GG.out.2.1 _ _ _ HH.out.g RR.out.2.1
  ·have h1:=RR.out.2.1
   exact⟨h1.os.trans HH.out.b.os,h1.tape.trans HH.out.b.tape,h1.output.trans HH.out.b.output,zR HH.out.b.size h1.size,fun j hj ht=>(h1.block j hj).trans (HH.out.b.block j hj ht)⟩
 case stop=>
  rintro D c pre W _ _ h _
  exact h.elim
def yQ(f:Nat→Pl→Pl)(M:Nat)(S:Sc):Sc:=⟨fun i=>if onB M i then f i (S.P i)else S.P i,S.hi,S.M⟩
theorem dW(step:Nat→Pl→Pl):∀(l:List (Fin 4)) (n:Nat) (S:Sc),(tC step n S l).hi=S.hi∧(tC step n S l).M=S.M
 |[],n,S=>⟨rfl,rfl⟩
 |x::xs,n,S=>dW step xs (n+1) _
theorem MT(step:Nat→Pl→Pl)(S:Sc)(M k:Nat)(hk:k≤4):∀j,(tC step 0 S (nY M k)).P j=if j<k∧onB M j=true then step (nY M j).length (S.P j)else S.P j:=by
 induction k with
 |zero=>intro j;rw[uZ,zL zLG];rfl
 |succ k ih=>
  intro j
  rw[vO M k zLG]
  have ih:=ih zLG
  cases h:onB M k
  ·rw[zL zLD,kG,ih j]
   by_cases e:j<k∧onB M j=true
   ·rw[zN e,zN ⟨by omega,e.2⟩]
   ·rw[zL e,zL]
    rintro⟨h1,h2⟩
    rcases(show j<k∨j=k by omega)with h3|rfl
    ·exact e ⟨h3,h2⟩
    ·rw[h]at h2;cases h2
  ·rw[zN rfl,sJ,qM]
   unfold Sc.put
   simp only
   by_cases e:j=k
   ·subst e
    rw[zN rfl,zN ⟨by omega,h⟩,ih j,zL zLG]
   ·rw[zL e,ih j]
    by_cases e2:j<k∧onB M j=true
    ·rw[zN e2,zN ⟨by omega,e2.2⟩]
    ·rw[zL e2,zL (fun h=>e2 ⟨by omega,h.2⟩)]
theorem V9(step:Nat→Pl→Pl)(S:Sc)(M k:Nat)(hk:k≤4):yS step 0 S (nY M k)=(nY M k).map fun i=>S.P i.val:=by
 induction k with
 |zero=>rw[uZ];rfl
 |succ k ih=>
  rw[vO M k zLG]
  split
  ·rw[gJ,ih zLG,kY,MT step S M k zLG k,zL zLG]
   rfl
  ·rw[kG,ih zLG]
theorem dY(step:Nat→Pl→Pl)(S:Sc)(M:Nat):kC (tC step 0 S (nY M 4))=kC (yQ (fun i p=>step (nY M i).length p) M S):=by
 refine tZ (fun i hi y hy=>?_) (dW _ _ _ _).1 (dW _ _ _ _).2;rw[MT step S M 4 zLG i];unfold yQ;simp only;by_cases h:onB M i=true
 ·rw[zN ⟨hi,h⟩,zN h]
 ·rw[zL (fun e=>h e.2),zL h]
theorem E9:(match Tryz.prog.underlying 58 with|some (.struct fields)=>fields.toList.mapM (fun f=>(Tryz.prog.info? f.type).map fun i=>(f.offset,i.size))|_=>none)=some [(0,512),(512,1),(513,1)]:=by kernel_rfl
theorem Z8(parts:List (Nat×Value)):Tryz.prog.built 58 parts=Instr.fill ([(0,512),(512,1),(513,1)].toArray[·]?) (kC (lR false 0)) parts:=by
 obtain⟨it,hit,hz⟩:=kW.1 N6;simp only[jO]at hz;have hp:=E9;rw[Tryz.underlying58]at hp;unfold Program.built;rw[hit,Tryz.underlying58];simp only at hp⊢;rw[hz.1,hp];rfl
theorem RU(m:Int):Tryz.prog.built 58 [(2,.int .i64 m)]=some (kC (lR false m)):=by
 rw[Z8];have e:kC (lR false m)=(kC (lR false 0)).setIfInBounds 513 (.int .i64 m):=by rw[JQ];rfl
 rw[e];have hC:=lQ (lR false 0);generalize kC (lR false 0)=C at*;simp[Instr.fill,Value.cells,hC]
theorem UE(S:Sc)(v:Bool):(kC S).setIfInBounds 512 (.bool v)=kC ⟨S.P,v,S.M⟩:=by
 apply qZ
 intro j
 rw[qX,lQ];by_cases h1:512=j
 ·subst h1;rw[zN rfl,zN zLG,mN _ _ zLG];rfl
 ·rw[zL h1];by_cases h3:j<514
  ·rw[mN _ _ h3,mN _ _ h3];unfold yJ;by_cases h5:j<512
   ·rw[zN h5,zN h5]
   ·rw[zL h5,zL h5,zL zLG,zL zLG]
  ·rw[zD zL9,zD zL9]
theorem RI(v:Bool)(m:Int):Tryz.prog.built 58 [(1,.bool v),(2,.int .i64 m)]=some (kC (lR v m)):=by
 rw[Z8];have e:kC (lR v m)=((kC (lR false 0)).setIfInBounds 512 (.bool v)).setIfInBounds 513 (.int .i64 m):=by rw[UE,JQ];rfl
 rw[e];have hC:=lQ (lR false 0);generalize kC (lR false 0)=C at*;simp[Instr.fill,Value.cells,hC]
theorem zQL(w:World):Calls Tryz.prog 47 #[] w fun e w'=>e=.returned (.agg (kC (lR false 1)))∧Below w.heap.size w w':=by
 have hz:=xC;go_enter Tryz.func47,Tryz.ntmps47;go_upto_region 1 with fail;refine zB ?_;have R:=zW (SB.new w (lR false 0));have B:=zW (nC w (.cells (kC (lR false 0)) 58));generalize w.alloc (.cells (kC (lR false 0)) 58)=w1 at*;clear hz;refine mJ (cs:=kC (lR false 1)) rfl rfl (by simp[Act.eval];exact RU 1) ?_;refine kO (ds:=kC (lR false 1)) vT R.out (lQ _) (lQ _) (nZ _) rfl (.tmp 0) (.tmp 1) rfl zLB zLB ?_;have R2:=zW (R.out.store (lR false 1));have B2:=zW (vC B.out (zH _) (kC (lR false 1)));generalize w1.setRow w.heap.size (kC (lR false 1))=w2 at*;iterate 4 go_step
 exact zF (zE rfl _ _ w.heap.size _ _ _ _ rfl R2.out Tryz.underlying58 rfl zMY) rfl ⟨rfl,B2.out⟩
theorem MY(S:Sc)(m:Int)(w:World):Calls Tryz.prog 140 #[.agg (kC S),.int .i64 m] w fun e w'=>e=.returned (.agg (kC (S.mask m)))∧Below w.heap.size w w':=by
 have hz:=xC;go_enter Tryz.func140,Tryz.ntmps140;go_upto_region 1 with fail;have S0:=zW ((SB.new w S).alloc (.cells (kC (lR false 0)) 58));have R:=zW (SB.new (w.alloc (.cells (kC S) 58)) (lR false 0));have B:=zW ((nC w (.cells (kC S) 58)).alloc zLP (.cells (kC (lR false 0)) 58));rw[zT]at R;generalize (w.alloc (.cells (kC S) 58)).alloc (.cells (kC (lR false 0)) 58)=w1 at*;clear hz;have c1:=S0.out.maskc;have c2:=S0.out.fz 513;go_upto_region 2 with fail;refine zB ?_;have S1:=zW (S0.out.setMask m);have R1:=zW (R.out.other (g:=w.heap.size) zLG 513 (.int .i64 m));have B1:=zW (B.out.setCell (p:=⟨w.heap.size,513,none⟩) (zH _) (.int .i64 m));generalize w1.setCell ⟨w.heap.size,513,none⟩ (.int .i64 m)=w2 at*;clear c1 c2;refine lJ vT S1.out (lQ _) rfl (.tmp 2) rfl zLE ?_;refine kO (ds:=kC (S.mask m)) vT R1.out (lQ _) (lQ _) (nZ _) rfl (.tmp 4) (.tmp 7) rfl zLB zLB ?_;have R2:=zW (R1.out.store (S.mask m));have B2:=zW (vC B1.out (jW _) (kC (S.mask m)));generalize w2.setRow (w.heap.size+1) (kC (S.mask m))=w3 at*;exact zNA
theorem U7(S:Sc)(v:Bool)(w:World):Calls Tryz.prog 136 #[.agg (kC S),.bool v] w fun e w'=>e=.returned (.agg (kC (lR v S.M)))∧Below w.heap.size w w':=by
 have hz:=xC;obtain⟨m,hm⟩:∃m,S.M=m:=⟨_,rfl⟩;rw[hm];go_enter Tryz.func136,Tryz.ntmps136;go_upto_region 1 with fail;refine zB ?_;have S0:=zW ((SB.new w S).alloc (.cells (kC (lR false 0)) 58));have R:=zW (SB.new (w.alloc (.cells (kC S) 58)) (lR false 0));have B:=zW ((nC w (.cells (kC S) 58)).alloc zLP (.cells (kC (lR false 0)) 58));rw[zT]at R;generalize (w.alloc (.cells (kC S) 58)).alloc (.cells (kC (lR false 0)) 58)=w1 at*;clear hz;have c1:=S0.out.maskc;rw[hm]at c1;clear hm;iterate 9 go_step
 refine mJ (cs:=kC (lR v m)) rfl rfl (by simp[Act.eval];exact RI v m) ?_;refine kO (ds:=kC (lR v m)) vT R.out (lQ _) (lQ _) (nZ _) rfl (.tmp 4) (.tmp 8) rfl zLB zLB ?_;have R2:=zW (R.out.store (lR v m));have B2:=zW (vC B.out (jW _) (kC (lR v m)));generalize w1.setRow (w.heap.size+1) (kC (lR v m))=w2 at*;exact zNA
theorem W9(p:Pl)(w:World):Calls Tryz.prog 167 #[.agg (kU p)] w fun e w'=>e=.returned (.agg (kU fun _=>0#128))∧Below w.heap.size w w':=by
 have hz:=yK;go_enter Tryz.func167,Tryz.ntmps167;go_upto_region 1 with fail;refine zB ?_;have R:=zW (mD.new (w.alloc (.cells (kU p) 55)) (fun _=>0#128) 55);have B:=zW ((nC w (.cells (kU p) 55)).alloc zLP (.cells (kU fun _=>0#128) 55));rw[zT]at R;generalize (w.alloc (.cells (kU p) 55)).alloc (.cells (kU fun _=>0#128) 55)=w1 at*;clear hz;refine WX rfl rfl ?_;refine kO (ds:=kU fun _=>0#128) uA R.out (lZ _) (lZ _) (vL _) rfl (.tmp 2) (.tmp 3) rfl zLB zLB ?_;have R2:=zW (R.out.store fun _=>0#128);have B2:=zW (vC B.out (jW _) (kU fun _=>0#128));generalize w1.setRow (w.heap.size+1) (kU fun _=>0#128)=w2 at*;iterate 4 go_step
 exact zF (zE rfl _ _ (w.heap.size+1) _ _ _ _ rfl R2.out Tryz.underlying55 rfl (by rw[uA.i,lZ])) rfl ⟨rfl,B2.out⟩
theorem W8(S:Sc)(M:Nat)(hM:S.M=(M:Int))(M1:M≤10000)(w:World):Calls Tryz.prog 135 #[.agg (kC S)] w fun e w'=>e=.returned (.agg (kC (yQ (fun _ _ _=>0#128) M S)))∧Below w.heap.size w w':=by
 have hz:=xC;obtain⟨Z,hZ⟩:∃Z,yQ (fun _ _ _=>0#128) M S=Z:=⟨_,rfl⟩;rw[hZ];have CH:=zW fun w=>dG M (g:=167) (caps:=#[]) (enters_of Tryz.func167 zLR rfl) (fun _ _ _=>0#128) (fun _=>False) (fun _ _=>True) w (fun _ h=>h.elim) (fun _ _ _ _ _=>trivial)
  (fun n p W _ _ _=>(W9 p W).mono fun e W' h=>⟨h.1,trivial,But.of_below h.2⟩) S hM M1 trivial
 have RC:=zW ((dY (fun _ _ _=>0#128) S M).trans (by rw[hZ]));clear hZ;go_enter Tryz.func135,Tryz.ntmps135;go_upto_region 1 with fail;refine zB ?_;have S0:=zW ((SB.new w S).alloc (.cells (kC (lR false 0)) 58));have R:=zW (SB.new (w.alloc (.cells (kC S) 58)) (lR false 0));have B:=zW ((nC w (.cells (kC S) 58)).alloc zLP (.cells (kC (lR false 0)) 58));rw[zT]at R;generalize (w.alloc (.cells (kC S) 58)).alloc (.cells (kC (lR false 0)) 58)=w1 at*;clear hz;refine lJ vT S0.out (lQ _) rfl (.tmp 1) rfl zLE ?_;simp only[Act.put,zQ,zZ,zJ];refine qH rfl fun K hK=>?_;refine lC (g:=166) (caps:=#[]) (args:=#[.agg (kC S),.func (.func 167) #[] #[]]) (.func 166) #[.tmp 3,.func 167] #[58,262] rfl (enters_of Tryz.func166 zLR rfl) rfl zLE ?_;refine(CH.out w1).mono ?_;rintro e w2 ⟨rfl,-,b2⟩;have b2:=b2.all;have R2:=zW (R.out.step b2);have B2:=zW (B.out.trans (b2.mono B.out.size));refine⟨_,rfl,hK _ _ ?_⟩;clear hK K b2 S0 R B;rw[RC.out];simp only[Act.put,zQ,zZ,zJ];refine kO (ds:=kC Z) vT R2.out (lQ _) (lQ _) (nZ _) rfl (.tmp 2) (.tmp 4) rfl zLB zLB ?_;have R3:=zW (R2.out.store Z);have B3:=zW (vC B2.out (jW _) (kC Z));generalize w2.setRow (w.heap.size+1) (kC Z)=w3 at*;iterate 4 go_step
 exact zF (zE rfl _ _ (w.heap.size+1) _ _ _ _ rfl R3.out Tryz.underlying58 rfl zMY) rfl ⟨rfl,B3.out⟩
def ScG(bx bY bs:Nat)(dx dy:Int)(S:Sc)(W:World):Prop:=Boxed W bx 3 (.int .i64 dx)∧Boxed W bY 3 (.int .i64 dy)∧SB bs S W
theorem m3{w w':World}{b:Nat}{t:TypeId}{v:Value}(h:Boxed w b t v)(hb:Below w.heap.size w w'):Boxed w' b t v:=(hb.block b h.lt).trans h
theorem MN(bx bY bs:Nat)(dx dy:Int)(S:Sc)(m h:Nat)(hr:Res S.hi m h)(d0: -1000≤dx)(d1:dx≤1000)(e0: -1000≤dy)(e1:dy≤1000)(p:Pl)(w:World)(G:ScG bx bY bs dx dy S w):
  Calls Tryz.prog 175 #[.agg (kU p),.pointer (some ⟨bx,0,none⟩),.pointer (some ⟨bY,0,none⟩),.pointer (some ⟨bs,0,none⟩)] w fun e w'=>e=.returned (.agg (kU (mB p dx dy m h)))∧Below w.heap.size w w':=by
 have hz:=yK;obtain⟨v,hv⟩:∃v,S.hi=v:=⟨_,rfl⟩;obtain⟨Q,hQ⟩:∃Q,mB p dx dy m h=Q:=⟨_,rfl⟩;rw[hv]at hr;have SC:=zW fun w=>scW hr hQ d0 d1 e0 e1 w;rw[hQ];clear hQ d0 d1 e0 e1 hr;have P0:=zW ((mD.new w p 55).alloc (.cells (kU fun _=>0#128) 55));have R:=zW (mD.new (w.alloc (.cells (kU p) 55)) (fun _=>0#128) 55);have B:=zW ((nC w (.cells (kU p) 55)).alloc zLP (.cells (kU fun _=>0#128) 55));have cx:=(m3 G.1 B.out).cell;have cy:=(m3 G.2.1 B.out).cell;have cs:=(G.2.2.step B.out).hires;rw[hv]at cs;rw[zT]at R;clear G hv;go_enter Tryz.func175,Tryz.ntmps175;go_upto_region 1 with fail;refine zB ?_;generalize (w.alloc (.cells (kU p) 55)).alloc (.cells (kU fun _=>0#128) 55)=w1 at*;clear hz;refine lJ uA P0.out (lZ _) rfl (.tmp 4) rfl zLE ?_;simp only[Act.put,zQ,zZ,zJ];go_wp2_with fail;refine(SC.out _).mono ?_;rintro e w2 ⟨rfl,b2⟩;have R2:=zW (R.out.step b2);have B2:=zW (B.out.trans (b2.mono B.out.size));clear b2 P0 R B cx cy cs;simp only[];go_at_K
 go_step
 refine kO (ds:=kU Q) uA R2.out (lZ _) (lZ _) (vL _) rfl (.tmp 5) (.tmp 11) rfl zLB zLB ?_;have R3:=zW (R2.out.store Q);have B3:=zW (vC B2.out (jW _) (kU Q));generalize w2.setRow (w.heap.size+1) (kU Q)=w3 at*;iterate 4 go_step
 exact zF (zE rfl _ _ (w.heap.size+1) _ _ _ _ rfl R3.out Tryz.underlying55 rfl (by rw[uA.i,lZ])) rfl ⟨rfl,B3.out⟩
theorem wU(S:Sc)(M:Nat)(hM:S.M=(M:Int))(M1:M≤10000)(dx dy:Int)(m h:Nat)(hr:Res S.hi m h)(d0: -64≤dx)(d1:dx≤64)(e0: -64≤dy)(e1:dy≤64)(w:World):
  Calls Tryz.prog 141 #[.agg (kC S),.int .i64 dx,.int .i64 dy] w fun e w'=>e=.returned (.agg (kC (yQ (fun _ p=>mB p dx dy m h) M S)))∧Below w.heap.size w w':=by
 have hz:=xC;obtain⟨Z,hZ⟩:∃Z,yQ (fun _ p=>mB p dx dy m h) M S=Z:=⟨_,rfl⟩;rw[hZ];have CH:=zW fun(bx bY bs:Nat) (w:World) (l1:bx<w.heap.size) (l2:bY<w.heap.size) (l3:bs<w.heap.size) (H:ScG bx bY bs dx dy S w)=>dG M (g:=175) (caps:=#[.pointer (some ⟨bx,0,none⟩),.pointer (some ⟨bY,0,none⟩),.pointer (some ⟨bs,0,none⟩)]) (enters_of Tryz.func175 zLR rfl) (fun _ p=>mB p dx dy m h) (fun _=>False) (fun _ W=>ScG bx bY bs dx dy S W∧w.heap.size≤W.heap.size) w (fun _ h=>h.elim)
  (fun _ W W' G b=>⟨⟨(b.block bx l1).trans G.1.1,(b.block bY l2).trans G.1.2.1,(b.block bs l3).trans G.1.2.2⟩,zR G.2 b.size⟩)
  (fun n p W _ G _=>(MN bx bY bs dx dy S m h hr zLG zLG zLG zLG p W G.1).mono fun e W' h=>⟨h.1,⟨⟨m3 G.1.1 h.2,m3 G.1.2.1 h.2,G.1.2.2.step h.2⟩,zR G.2 h.2.size⟩,But.of_below h.2⟩) S hM M1 ⟨H,zH _⟩
 have RC:=zW ((dY (fun _ p=>mB p dx dy m h) S M).trans (by rw[hZ]));clear hZ;have S0:=zW ((((SB.new w S).alloc (.cells #[.int .i64 dx] 3)).alloc (.cells #[.int .i64 dy] 3)).alloc (.cells (kC (lR false 0)) 58));have X0:=zW (((jB (w.alloc (.cells (kC S) 58)) 3 (.int .i64 dx)).alloc (.cells #[.int .i64 dy] 3)).alloc (.cells (kC (lR false 0)) 58));have Y0:=zW ((jB ((w.alloc (.cells (kC S) 58)).alloc (.cells #[.int .i64 dx] 3)) 3 (.int .i64 dy)).alloc (.cells (kC (lR false 0)) 58));have R:=zW (SB.new (((w.alloc (.cells (kC S) 58)).alloc (.cells #[.int .i64 dx] 3)).alloc (.cells #[.int .i64 dy] 3)) (lR false 0));have B:=zW ((((nC w (.cells (kC S) 58)).alloc zLP (.cells #[.int .i64 dx] 3)).alloc zLA (.cells #[.int .i64 dy] 3)).alloc zLA (.cells (kC (lR false 0)) 58));rw[zT]at X0;rw[zT,zT]at Y0;rw[zT,zT,zT]at R;go_enter Tryz.func141,Tryz.ntmps141;go_upto_region 1 with fail;generalize (((w.alloc (.cells (kC S) 58)).alloc (.cells #[.int .i64 dx] 3)).alloc (.cells #[.int .i64 dy] 3)).alloc (.cells (kC (lR false 0)) 58)=w1 at*;clear hz;have cx:=X0.out.cell;have cy:=Y0.out.cell;have fx:=X0.out.frozen;have fy:=Y0.out.frozen;have mx:max dx (-128)=dx:=zLG;have mx2:min dx 128=dx:=zLG;have my:max dy (-64)=dy:=zLG;have my2:min dy 64=dy:=zLG;go_upto_region 3 with fail;have S1:=zW ((S0.out.other (g:=w.heap.size+1) zLG 0 (.int .i64 dx)).other (g:=w.heap.size+1+1) zLG 0 (.int .i64 dy));have X1:=zW ((X0.out.set (.int .i64 dx)).other (B':=w.heap.size+1+1) zLG (.int .i64 dy));have Y1:=zW ((Y0.out.other (B':=w.heap.size+1) zLG (.int .i64 dx)).set (.int .i64 dy));have R1:=zW ((R.out.other (g:=w.heap.size+1) zLG 0 (.int .i64 dx)).other (g:=w.heap.size+1+1) zLG 0 (.int .i64 dy));have B1:=zW ((B.out.setCell (p:=⟨w.heap.size+1,0,none⟩) (by show w.heap.size≤w.heap.size+1;omega) (.int .i64 dx)).setCell (p:=⟨w.heap.size+1+1,0,none⟩) (by show w.heap.size≤w.heap.size+1+1;omega) (.int .i64 dy));generalize (w1.setCell ⟨w.heap.size+1,0,none⟩ (.int .i64 dx)).setCell ⟨w.heap.size+1+1,0,none⟩ (.int .i64 dy)=w2 at*;clear cx cy fx fy mx mx2 my my2 S0 X0 Y0 R B;refine zB ?_;refine lJ vT S1.out (lQ _) rfl (.tmp 3) rfl zLE ?_;simp only[Act.put,zQ,zZ,zJ];iterate 3 go_step
 refine qH rfl fun K hK=>?_;refine lC (g:=166) (caps:=#[]) (args:=#[.agg (kC S),.func (.func 175) #[] #[.pointer (some ⟨w.heap.size+1,0,none⟩),.pointer (some ⟨w.heap.size+1+1,0,none⟩),.pointer (some ⟨w.heap.size,0,none⟩)]]) (.func 166) #[.tmp 13,.tmp 14] #[58,262] rfl (enters_of Tryz.func166 zLR rfl) rfl zLE ?_;refine(CH.out _ _ _ w2 X1.out.lt Y1.out.lt S1.out.lt ⟨X1.out,Y1.out,S1.out⟩).mono ?_;rintro e w3 ⟨rfl,-,b2⟩;have b2:=b2.all;have R2:=zW (R1.out.step b2);have B2:=zW (B1.out.trans (b2.mono B1.out.size));refine⟨_,rfl,hK _ _ ?_⟩;clear hK K b2 S1 R1 B1 X1 Y1;rw[RC.out];simp only[Act.put,zQ,zZ,zJ];refine kO (ds:=kC Z) vT R2.out (lQ _) (lQ _) (nZ _) rfl (.tmp 6) (.tmp 15) rfl zLB zLB ?_;have R3:=zW (R2.out.store Z);have B3:=zW (vC B2.out (show w.heap.size≤w.heap.size+1+1+1 by omega) (kC Z));generalize w3.setRow (w.heap.size+1+1+1) (kC Z)=w4 at*;iterate 4 go_step
 exact zF (zE rfl _ _ (w.heap.size+1+1+1) _ _ _ _ rfl R3.out Tryz.underlying58 rfl zMY) rfl ⟨rfl,B3.out⟩
attribute [local go_sem] Oper.semAt_some
def yX(g o:Nat)(F:Nat→Nat)(n:Nat)(A:Option Addr)(w:World):Prop:=0<n→A=some ⟨g,o,none⟩∧g<w.heap.size∧∀j,j<n→w.cell? ⟨g,o+j,none⟩=some (.int .u8 (F j:Int))
theorem yX.step{g o:Nat}{F:Nat→Nat}{n:Nat}{A:Option Addr}{w w':World}(h:yX g o F n A w)(hb:Below w.heap.size w w'):yX g o F n A w':=fun hn=>by
 obtain⟨h1,h2,h3⟩:=h hn;exact⟨h1,zS h2 hb.size,fun j hj=>(hb.cell (p:=⟨g,o+j,none⟩) h2).trans (h3 j hj)⟩
def p9(b1 b2:Nat)(W W':World):Prop:=W'.heap[b1]?=W.heap[b1]?∧W'.heap[b2]?=W.heap[b2]?
theorem p9.trans{b1 b2:Nat}{u v w:World}(h:p9 b1 b2 u v)(h':p9 b1 b2 v w):p9 b1 b2 u w:=⟨h'.1.trans h.1,h'.2.trans h.2⟩
theorem FQ{b1 b2:Nat}{W:World}{l:Nat}{o':Obj}(h1:b1≠l)(h2:b2≠l):p9 b1 b2 W (W.putObj l o'):=⟨jX h1,jX h2⟩
theorem zZM{n k:Nat}(hk:k<n):(List.finRange n).take (k+1)=(List.finRange n).take k++[⟨k,hk⟩]:=by
 rw[kR (by simpa using hk)];simp
def sR(g o z k:Nat):Value:=.slice (some ⟨g,o+k*z,none⟩) z z
theorem AF(m:Nat)(hm:1≤m)(l Bs Bz g o n z c:Nat)(A:Option Addr)(z0:0<z)(z1:z≤2)(n1:n≤16)(hc:n*z≤c)(c1:c≤1000)(hA:0<n→A=some ⟨g,o,none⟩)(J Jx:List (Fin n)→World→Prop)
  (hY:∀pre x W,J pre W→pre.length<n→YieldAt Fence.wide (m-1) Tryz.prog l #[sR g o z (x:Fin n).val] W fun e W'=>
   (e=.returned (.bool true)∧J (pre++[x]) W'∧p9 Bs Bz W W')∨(e=.returned (.bool false)∧Jx (pre++[x]) W'))
  (W:World) (hS:Boxed W Bs 22 (.slice A (n*z) c)) (hZ:Boxed W Bz 3 (.int .i64 (z:Int))) (hJd:∀pre W,J pre W→J pre W.drew) (h0:J [] W):
  CallsIn Fence.wide m Tryz.prog 206 #[.func (.yield l) #[] #[],.pointer (some ⟨Bs,0,none⟩),.pointer (some ⟨Bz,0,none⟩)] W fun e W'=>(∃v,e=.returned v)∧
   ((∃ys,ys=List.finRange n∧J ys W')∨(∃pre,True∧Jx pre W')):=by
 obtain⟨t,ht⟩:∃t,n*z=t:=⟨_,rfl⟩;have t1:t≤32:=by rw[←ht];exact Nat.mul_le_mul n1 z1
 rw[ht]at hc hS;have HT:=zW ht;have zI:(0:Int)<(z:Int):=zLG;clear ht;refine callsIn_of_wp Tryz.func206 rfl trivial ?_ rfl;simp only[Tryz.ntmps206,jZ,List.length_cons,List.length_nil,Nat.reduceAdd,Nat.reduceSub,q8,Array.replicate_zero,jK,q9,List.nil_append,List.cons_append];gi_wp2
 gi_loopw [4] (fun i wr=>∃k q:Nat,k≤n∧q=k*z∧i=.int .i64 (q:Int)∧Boxed wr Bs 22 (.slice A t c)∧Boxed wr Bz 3 (.int .i64 (z:Int))∧J ((List.finRange n).take k) wr) (fun i _=>t-(intOf i).toNat)
 case atStart=>exact⟨0,0,by omega,by simp,rfl,hS,hZ,by simpa using h0⟩
 case round=>
  clear h0 hS hZ
  obtain⟨k,q,hk,hq,rfl,hS,hZ,hJ⟩:=hrel
  by_cases hlt:k<n
  ·have q1:q+z≤t:=by
    rw[hq,←HT.out,←Nat.succ_mul];exact Nat.mul_le_mul_right z hlt
   have hqt:(q:Int)<(t:Int):=zLG
   have hA':=hA zLG
   subst hA'
   have cS:=hS.cell
   have cZ:=hZ.cell
   obtain⟨fn,tmps,assign,body,hy,hR⟩:=hY ((List.finRange n).take k) ⟨k,hlt⟩ wr.drew (hJd _ _ hJ) zLA
   unfold sR at hy
   dsimp only at hy
   rw[←hq]at hy
   have HQ:=zW hq
   clear hq
   have cq:¬c=q:=zLG
   have e1:min (z:Int) ((t:Int)-(q:Int))=(z:Int):=zLG
   have e1':min (z:Int) ((t-q:Nat):Int)=(z:Int):=zLG
   have e2:(q:Int)≤(t:Int):=zLG
   gi_wp2
   gi_region
   have e3:(q:Int)+(z:Int)≤(c:Int):=zLG
   have e4:¬z=0:=zLG
   gi_wp2
   refine hR.mono ?_
   rintro e W3 (⟨rfl,hJ3,hk3⟩|⟨rfl,hJx3⟩)
   ·have cZ3:=(show Boxed W3 Bz 3 (.int .i64 (z:Int))from hk3.2.trans hZ).cell
    gi_wp2
    go_roundw
    case rel=>exact⟨k+1,q+z,by omega,by rw[HQ.out,Nat.succ_mul],by go_num,hk3.1.trans hS,hk3.2.trans hZ,by rw[zZM hlt];exact hJ3⟩
    case measure=>simp[intOf];omega
   ·gi_wp2
    refine zF (results_none rfl _ _ _) rfl ?_
    exact⟨⟨_,rfl⟩,.inr ⟨_,trivial,hJx3⟩⟩
  ·have hkn:k=n:=zLG
   have hqt:¬(q:Int)<(t:Int):=by rw[hq,←HT.out,hkn];omega
   have cS:=hS.cell
   clear hq
   gi_wp2
   go_end0
   rw[hkn,qR zLP]at hJ
   exact⟨⟨_,rfl⟩,.inl hJ⟩
theorem XA(m:Nat)(hm:1≤m)(Bs Bz g o n z c:Nat)(A:Option Addr)(z0:0<z)(z1:z≤2)(n1:n≤16)(hc:n*z≤c)(c1:c≤1000)(hA:0<n→A=some ⟨g,o,none⟩)(w:World)(hS:Boxed w Bs 22 (.slice A (n*z) c))(hZ:Boxed w Bz 3 (.int .i64 (z:Int))):
  SeqStopsK Fence.wide m Tryz.prog 206 #[.pointer (some ⟨Bs,0,none⟩),.pointer (some ⟨Bz,0,none⟩)] (fun x:Fin n=> #[sR g o z x.val]) (p9 Bs Bz) (fun ys=>ys=List.finRange n) (fun _=>True) n w:=fun l J Jx W hW hJ _ hY h0=>
 AF m hm l Bs Bz g o n z c A z0 z1 n1 hc c1 hA J Jx hY W ((hW.block Bs hS.lt).trans hS) ((hW.block Bz hZ.lt).trans hZ) (fun pre W h=>hJ pre W W.drew none h ⟨rfl,rfl,rfl,zH _,fun _ _ _=>rfl⟩ (fun _ e=>by cases e)) h0
theorem zZ1(m:Nat)(A:Option Addr)(t c z:Nat)(z0:0<z)(w:World):CallsIn Fence.wide m Tryz.prog 196 #[.slice A t c,.int .i64 (z:Int)] w fun e w'=>
   e=.returned (.func (.func 206) #[] #[.pointer (some ⟨w.heap.size,0,none⟩),.pointer (some ⟨w.heap.size+1,0,none⟩)])∧w'=(w.alloc (.cells #[.slice A t c] 22)).alloc (.cells #[.int .i64 (z:Int)] 3):=by
 have zI:¬(z:Int)<1:=zLG;refine callsIn_of_wp Tryz.func196 rfl trivial ?_ rfl;simp only[Tryz.ntmps196,jZ,List.length_cons,List.length_nil,Nat.reduceAdd,Nat.reduceSub,q8,Array.replicate_zero,jK,q9,List.nil_append,List.cons_append];gi_wp2
 exact zNM
attribute [local go_sem] Oper.semAt_some
def YB(F:Nat→Nat)(q:Nat):Nat→Nat
 |0=>0
 |j+1=>YB F q j*256+F (q+j)
def JJ(F:Nat→Nat)(z k:Nat):Nat:=YB F (k*z) z
theorem or16(x b:Nat)(hx:x≤255)(hb:b≤255):bits .or .u16 ((x*256:Nat):Int) (b:Int)=((x*256+b:Nat):Int):=by
 unfold bits;have e:(BitVec.ofInt IntKind.u16.bits ((x*256:Nat):Int)|||BitVec.ofInt IntKind.u16.bits (b:Int)).toNat=x*256+b:=by
  show(BitVec.ofInt 16 ((x*256:Nat):Int)|||BitVec.ofInt 16 (b:Int)).toNat=x*256+b;rw[BitVec.ofInt_natCast,BitVec.ofInt_natCast,BitVec.toNat_or,BitVec.toNat_ofNat,BitVec.toNat_ofNat,kV zLG,kV zLG];rw[show x*256=2^8*x by omega,Nat.two_pow_add_eq_or_of_lt (by omega:b<2^8) x]
 simp only[e];simp[IntKind.wrap,IntKind.bits,IntKind.signed];omega
theorem shl16(x:Nat)(hx:x≤255):IntKind.u16.wrap ((x:Int)*2^8)=((x*256:Nat):Int):=by
 simp[IntKind.wrap,IntKind.bits,IntKind.signed];omega
theorem wrap16(b:Nat)(hb:b≤65535):IntKind.u16.wrap (b:Int)=(b:Int):=by
 simp[IntKind.wrap,IntKind.bits,IntKind.signed];omega
theorem zXA{F:Nat→Nat}(hF:∀j,F j≤255)(z k:Nat)(hz:z≤2):JJ F z k≤65535:=by
 unfold JJ;rcases(show z=0∨z=1∨z=2 by omega)with rfl|rfl|rfl<;>simp only[YB]
 ·omega
 ·have:=hF (k*1+0);omega
 ·have h0:=hF (k*2+0);have h1:=hF (k*2+1);simp only[Nat.zero_mul,qM,Nat.add_zero]at*;omega
theorem zYD{F:Nat→Nat}(hF:∀j,F j≤255)(q j:Nat)(hj:j<2):YB F q j≤255:=by
 rcases(show j=0∨j=1 by omega)with rfl|rfl<;>simp only[YB]
 ·omega
 ·have:=hF (q+0);omega
theorem info16:(Tryz.prog.info? 281).map (fun i=>(i.zero,i.size,i.bytes))=some (some (.int .u16 0),1,2):=by kernel_rfl
theorem Z9{W w1:World}{B B0 n1 k:Nat}{e:TypeId}{v v':Value}{xs:List Value}{tmp:Obj}(hrow:W.ownsRow n1 e 1 v k xs)(hB:B<n1)(hW:n1≤W.heap.size)(hne:B≠B0)
  (hgrow:(W.alloc tmp).grownBy w1 v.ownBlock):(w1.setCell ⟨B0,0,none⟩ v').heap[B]?=W.heap[B]?:=by
 have h1:(W.alloc tmp).heap[B]?=W.heap[B]?:=heap_alloc_old W tmp (by omega:B<W.heap.size);have h2:w1.heap[B]?=(W.alloc tmp).heap[B]?:=hgrow.block B zLA (fun e=>by have:=(hrow.lt B e.symm).1;omega);have h3:(w1.setCell ⟨B0,0,none⟩ v').heap[B]?=w1.heap[B]?:=qY w1 _ v' B hne;rw[h3,h2,h1]
theorem MF(g o n z c:Nat)(A:Option Addr)(F:Nat→Nat)(z0:0<z)(z1:z≤2)(n1:n≤16)(hc:n*z≤c)(c1:c≤1000)(hF:∀j,F j≤255)(w:World)(hD:yX g o F (n*z) A w):
  Calls Tryz.prog 172 #[.slice A (n*z) c,.int .i64 (z:Int)] w fun e w'=>∃A' c',e=.returned (.slice A' n c')∧r9 w' A' ((List.range n).map (JJ F z))∧(∀ad,A'=some ad→w.heap.size≤ad.block)∧Below w.heap.size w w':=by
 refine(callsIn_wide (n:=6)).1 ?_;obtain⟨i0,hi,hz0,hz1,hz2⟩:=kN info16;have hA:0<n→A=some ⟨g,o,none⟩:=fun h=>(hD (Nat.mul_pos h z0)).1;have DD:=zW (zM hD hF);clear hD hF;refine callsIn_of_wp_marks Tryz.func172 rfl trivial ?_ rfl;simp only[Tryz.ntmps172,jZ,List.length_cons,List.length_nil,Nat.reduceAdd,Nat.reduceSub,q8,Array.replicate_zero,jK,q9,List.nil_append,List.cons_append];gi_wp2_with fail
 refine⟨trivial,?_⟩;refine(zZ1 _ _ _ _ _ z0 _).mono ?_;rintro e w' ⟨rfl,rfl⟩;simp only[];gi_wp2_with fail
 have b5:=((jB w 269 (.slice none 0 0)).alloc (.cells #[.slice A (n*z) c] 22)).alloc (.cells #[.int .i64 (z:Int)] 3);have bS:=(jB (w.alloc (.cells #[.slice none 0 0] 269)) 22 (.slice A (n*z) c)).alloc (.cells #[.int .i64 (z:Int)] 3);have bZ:=jB ((w.alloc (.cells #[.slice none 0 0] 269)).alloc (.cells #[.slice A (n*z) c] 22)) 3 (.int .i64 (z:Int));have BB:=((((zG _ w).alloc (zH _) (.cells #[.slice none 0 0] 269)).alloc zLP (.cells #[.slice A (n*z) c] 22)).alloc zLA (.cells #[.int .i64 (z:Int)] 3));rw[zT]at bS;rw[zT,zT]at bZ;have Z3:(((w.alloc (.cells #[.slice none 0 0] 269)).alloc (.cells #[.slice A (n*z) c] 22)).alloc (.cells #[.int .i64 (z:Int)] 3)).heap.size=w.heap.size+3:=zLP;rw[zT];generalize ((w.alloc (.cells #[.slice none 0 0] 269)).alloc (.cells #[.slice A (n*z) c] 22)).alloc (.cells #[.int .i64 (z:Int)] 3)=w3 at*;refine wpIn_rangeFunc_ownG rfl zLG (gf:=206) (lb:=#[.pointer (some ⟨w.heap.size+1,0,none⟩),.pointer (some ⟨w.heap.size+1+1,0,none⟩)]) rfl trivial (enters_of Tryz.func206 zLR rfl)
  (XA _ zLG (w.heap.size+1) (w.heap.size+1+1) g o n z c A z0 z1 n1 hc c1 hA w3 bS bZ) p9.trans (fun W l o o' hl _ _ _=>FQ zLG zLG) (zG _ _) (fun _=>rfl)
  (fun pre W=>(∃v,Boxed W w.heap.size 269 v∧W.ownsRow (w.heap.size+3) 281 1 v pre.length (pre.map fun x:Fin n=>Value.int .u16 (JJ F z x.val:Int))∧True)∧(w.heap.size+3≤W.heap.size∧Below w.heap.size w W))
  (fun _ _ _=>False)
  (OwnFrom.and (Own.from (holdsRow_own (w.heap.size+3) w.heap.size 269 281 1 (fun pre:List (Fin n)=>pre.length) (fun pre=>pre.map fun x:Fin n=>Value.int .u16 (JJ F z x.val:Int)) (fun pre v=>True)) _) (OwnFrom.and (fun s A B row hs hg _=>zR hs hg.size) (ownFrom_below (zH _) zLG)))
  (fun _ _ _ _ _ hs _ _=>hs)
  ⟨⟨_,b5,kZ _ _ _ _,trivial⟩,by omega,BB⟩
  (fun x=>{tmps:=#[.slice A (n*z) c,.int .i64 (z:Int),undef,undef,.slice none 0 0,.pointer (some ⟨w.heap.size,0,none⟩),sR g o z x.val,undef,undef,undef,.slice A (n*z) c,.int .i64 (z:Int),.func (.func 206) #[] #[.pointer (some ⟨w.heap.size+1,0,none⟩),.pointer (some ⟨w.heap.size+1+1,0,none⟩)],sR g o z x.val,undef,undef,undef,undef,undef,undef,undef,undef,undef,undef,undef,undef,undef,undef,undef,undef,undef],defers:=[]}) ?assign ?body ?done ?stop
 case assign=>
  intro l x W K hK
  gi_wp2
  exact hK
 case body=>
  rintro l pre ⟨k,hk⟩ W ⟨⟨v,hv,hrow,_⟩,hz,hB⟩ hlt
  have HH:=zW (zM hv (zM hrow (zM hz hB)))
  clear hv hrow hz hB
  unfold sR
  dsimp only
  obtain⟨q,hq⟩:∃q,k*z=q:=⟨_,rfl⟩
  have q1:q+z≤n*z:=by rw[←hq,←Nat.succ_mul];exact Nat.mul_le_mul_right z hk
  rw[hq]
  have HQ:=zW (zM hq (zM q1 hlt))
  clear hq q1 hlt
  gi_wp2
  gi_loop [7,16] (fun b i=>∃j X:Nat,j≤z∧b=.int .u16 (X:Int)∧i=.int .i64 (j:Int)∧X=YB F q j) (fun _ i=>z-(intOf i).toNat)
  case atStart=>exact⟨0,0,by omega,rfl,rfl,rfl⟩
  case round=>
   obtain⟨j,X,hj,rfl,rfl,hX⟩:=hrel
   have XX:=zW hX
   by_cases hlt:j<z
   ·have jI:(j:Int)<(z:Int):=zLG
    have X1:X≤255:=by rw[hX];exact zYD DD.out.2 q j zLG
    obtain⟨_,hgl,hcs⟩:=DD.out.1 (by have:=HQ.out.2.1;omega)
    obtain⟨b,hb⟩:∃b,F (q+j)=b:=⟨_,rfl⟩
    have b1:b≤255:=by rw[←hb];exact DD.out.2 _
    have cb:W.cell? ⟨g,o+q+j,none⟩=some (.int .u8 (b:Int)):=by
     rw[qF,HH.out.2.2.2.cell (p:=⟨g,o+(q+j),none⟩) hgl,hcs _ (by have:=HQ.out.2.1;omega),hb]
    have e1:=shl16 X X1
    have e2:=or16 X b X1 b1
    have e3:=wrap16 b zLG
    obtain⟨V,hV⟩:∃V,X*256+b=V:=⟨_,rfl⟩
    rw[hV]at e2
    have e2:bits .or .u16 ((X:Int)*256) (b:Int)=(V:Int):=by rw[←e2];simp
    have VV:=zW (show V=YB F q (j+1) by rw[←hV,YB,←hX,hb])
    clear hX hV hcs hb hgl e1 e3
    gi_wp2
    go_round
    case rel=>exact⟨j+1,V,by omega,by go_num,by go_num,VV.out⟩
    case measure=>simp[intOf];omega
   ·have je:j=z:=zLG
    subst je
    clear hlt
    have RV:=zW (show X=JJ F j k by rw[hX,←HQ.out.1];rfl)
    clear hX
    have hc:=HH.out.1.cell
    gi_wp2_with (gi_at_builtin;refine wpListIn_append_own _ rfl _ _ 269 rfl (w.heap.size+3) 281 i0 (.int .u16 0) 1 2 Tryz.underlying269 hi hz0 hz1 hz2 rfl zLD _ _ _ rfl (HH.out.2.1.alloc _) ⟨W.heap.size,0,none⟩ 1 1 [.int .u16 (X:Int)] rfl rfl (cell_one_new _ _ _) zMG (by unfold maxLen;have:=HQ.out.2.2;omega) (by have:=HQ.out.2.2;omega) (by have:=HH.out.2.2.1;simp;omega) ?_;intro v' w1 hown' hgrow _;obtain⟨g',cap',rfl⟩:=ownsRow_succ hown';obtain⟨hv1,hv2,hr2,hk2,hb2⟩:=HH.out.1.appended zLD (gX HH.out.2.1 (by omega:w.heap.size≤w.heap.size+3)) HH.out.2.2.2.size (zH _) (gX hown' (by omega:w.heap.size≤w.heap.size+3)) hgrow;have hc1:=hv1.cell;have hf1:=hv1.frozen)
    have hr3:=hown'.kept (grownBy_setCell' w1 w.heap.size (.slice (some ⟨g',0,none⟩) (pre.length+1) cap')) (.inr (hv1.not_row zLD hown').symm)
    refine⟨hk2.from _,⟨Z9 HH.out.2.1 zLG HH.out.2.2.1 zLG hgrow,Z9 HH.out.2.1 zLG HH.out.2.2.1 zLG hgrow⟩,⟨_,hv2,by simpa [RV.out]using hr3⟩,zR HH.out.2.2.1 (zR zLP (zR hgrow.size zLP)),HH.out.2.2.2.trans hb2⟩
 case done=>
  rintro D ys W hD rfl ⟨⟨v,hv,hrow,_⟩,_,hB⟩ hK
  have hc:=hv.cell
  gi_wp2
  refine⟨by simp,.inl ⟨_,_,rfl,run_takeDeferred hK,?_⟩⟩
  obtain⟨A',c',rfl⟩:=yP hrow
  have hr:=ownsRow_putObj hrow (.deferred none) hK rfl
  rw[List.length_finRange]at hr⊢
  have hl:(List.finRange n).map (fun x:Fin n=>Value.int .u16 (JJ F z x.val:Int))=((List.range n).map (JJ F z)).map (fun x:Nat=>Value.int .u16 (x:Int)):=by
   apply List.ext_getElem
   ·simp
   ·intro i h1 h2;simp
  rw[hl]at hr
  refine⟨_,results_tmp rfl _ _ _,A',c',rfl,?_,fun ad had=>?_,hB.trans (belowK_b (w:=w) (zH _) W D _ _ zLG hK rfl rfl)⟩
  intro hne
  obtain⟨b,o',hA',hlt',hcs⟩:=Row.of_own hr hne
  refine⟨⟨b,o',none⟩,hA',hlt',fun j hj=>?_⟩
  rw[Addr.add_mid]
  exact hcs j hj
  ·rcases hr.2 with⟨h,_⟩|⟨g2,cp,cur,h,hg,_⟩
   ·cases h
    try cases had
   ·injection h with h1 h2 h3
    subst h1
    injection had with had
    subst had
    exact zR (Nat.le_add_right _ 3) hg
 case stop=>
  rintro D c pre W _ _ h _
  exact h.elim
theorem But.rowNew{T:Nat→Prop}{u w:World}(h:But T u w){b:Nat}(hb:u.heap.size≤b)(cs:Array Value):But T u (w.setRow b cs):=
 ⟨h.os,h.tape,h.output,by simpa [World.setRow]using h.size,fun k hk ht=>(zU w b k cs zLG).trans (h.block k hk ht)⟩
structure DrD where
 g:Nat
 o:Nat
 F:Nat→Nat
 N:Nat
 r:Nat
 z:Nat
 x:Nat
 y:Nat
 m:Nat
 h:Nat
 clip:Bool
 S:Sc
def pL(F:Nat→Nat)(r z q:Nat):List Nat:=(List.range r).map (JJ (fun j=>F (q+j)) z)
def DrD.sp(D:DrD)(k:Nat):Pl:=spr (nth (pL D.F D.r D.z (k*(D.r*D.z)))) D.r (D.z*8) (D.x%D.m) (D.y%D.h) D.m D.h D.clip
def DrD.coll(D:DrD):Nat→List Pl→Bool
 |_,[]=>false
 |k,p::ps=>tS p (D.sp k)||D.coll (k+1) ps
theorem sB(D:DrD)(p:Pl):∀(ps:List Pl) (k:Nat),D.coll k (ps++[p])=(D.coll k ps||tS p (D.sp (k+ps.length)))
 |[],k=>by simp[DrD.coll]
 |q::ps,k=>by
  rw[List.cons_append,DrD.coll,sB D p ps,DrD.coll,List.length_cons,Bool.or_assoc,show k+1+ps.length=k+(ps.length+1) by omega]
structure zYP(D:DrD):Prop where
 r1:D.r≤16
 z0:D.z=1∨D.z=2
 F1:∀j,D.F j≤255
 N1:D.N≤4
 x1:D.x≤1000
 y1:D.y≤1000
 res:Res D.S.hi D.m D.h
structure DrB(D:DrD)(s0:Nat)(W:World):Prop where
 rows:Boxed W (s0+6) 3 (.int .i64 (D.r:Int))
 size:Boxed W (s0+7) 3 (.int .i64 (D.z:Int))
 x:Boxed W (s0+1) 3 (.int .i64 (D.x:Int))
 y:Boxed W (s0+2) 3 (.int .i64 (D.y:Int))
 wd:Boxed W (s0+8) 3 (.int .i64 (D.m:Int))
 ht:Boxed W (s0+9) 3 (.int .i64 (D.h:Int))
 clip:Boxed W (s0+3) 4 (.bool D.clip)
 s:SB s0 D.S W
section
variable {D:DrD} {s0 b:Nat} {w w':World}
theorem xB{t:TypeId}{v:Value}{k:Nat}(h:Boxed w k t v)(hne:k≠b)(o:Nat)(u:Value):Boxed (w.setCell ⟨b,o,none⟩ u) k t v:=(qY w ⟨b,o,none⟩ u k hne).trans h
theorem yU{t:TypeId}{v:Value}{k:Nat}(h:Boxed w k t v)(hne:k≠b)(cs:Array Value):Boxed (w.setRow b cs) k t v:=(zU w b k cs hne).trans h
theorem DrB.step(H:DrB D s0 w)(hb:Below w.heap.size w w'):DrB D s0 w':=⟨m3 H.rows hb,m3 H.size hb,m3 H.x hb,m3 H.y hb,m3 H.wd hb,m3 H.ht hb,m3 H.clip hb,H.s.step hb⟩
theorem DrB.other(H:DrB D s0 w)(hb:b=s0+4∨s0+10≤b)(o:Nat)(u:Value):DrB D s0 (w.setCell ⟨b,o,none⟩ u):=
 ⟨xB H.rows zLG o u,xB H.size zLG o u,xB H.x zLG o u,xB H.y zLG o u,xB H.wd zLG o u,xB H.ht zLG o u,xB H.clip zLG o u,H.s.other zLG o u⟩
theorem DrB.row(H:DrB D s0 w)(hb:s0+10≤b)(cs:Array Value):DrB D s0 (w.setRow b cs):=
 ⟨yU H.rows zLG cs,yU H.size zLG cs,yU H.x zLG cs,yU H.y zLG cs,yU H.wd zLG cs,yU H.ht zLG cs,yU H.clip zLG cs,H.s.otherRow zLG cs⟩
theorem yX.other{g o n:Nat}{F:Nat→Nat}{A:Option Addr}(h:yX g o F n A w)(hb:0<n→g≠b)(k:Nat)(u:Value):yX g o F n A (w.setCell ⟨b,k,none⟩ u):=fun hn=>by
 obtain⟨h1,h2,h3⟩:=h hn;exact⟨h1,by simpa using h2,fun j hj=>by rw[qG _ _ _ _ (by simp[Ne.symm (hb hn)])];exact h3 j hj⟩
theorem yX.row{g o n:Nat}{F:Nat→Nat}{A:Option Addr}(h:yX g o F n A w)(hb:0<n→g≠b)(cs:Array Value):yX g o F n A (w.setRow b cs):=fun hn=>by
 obtain⟨h1,h2,h3⟩:=h hn;exact⟨h1,by simpa [World.setRow]using h2,fun j hj=>by rw[qE (a:=⟨g,o+j,none⟩) (zU w b g cs (hb hn))];exact h3 j hj⟩
theorem r9.other{A:Option Addr}{L:List Nat}(h:r9 w A L)(hb:∀ad,A=some ad→ad.block≠b)(o:Nat)(u:Value):r9 (w.setCell ⟨b,o,none⟩ u) A L:=fun hne=>by
 obtain⟨ad,hA,hlt,hc⟩:=h hne;refine⟨ad,hA,by simpa using hlt,fun j hj=>?_⟩;rw[qE (a:=ad.add j) (qY w ⟨b,o,none⟩ u (ad.add j).block (by rw[p8];exact hb ad hA))];exact hc j hj
theorem yX.notBox{g o n:Nat}{F:Nat→Nat}{A:Option Addr}{t:TypeId}{v:Value}(h:yX g o F n A w)(hx:Boxed w b t v)(hv:∀x,v≠ .int .u8 x)(hn:0<n):g≠b:=fun e=>by
 obtain⟨_,_,h3⟩:=h hn;have h4:=h3 0 hn;rw[e,jA w b (o+0) #[v] t (0,0) hx]at h4;rcases(show o=0∨1≤o by omega)with rfl|h5
 ·simp at h4;exact hv _ h4
 ·rw[zD zLA]at h4;cases h4
theorem yX.notPl{g o n:Nat}{F:Nat→Nat}{A:Option Addr}{t:TypeId}{Q:Pl}(h:yX g o F n A w)(hx:mD b t Q w)(hn:0<n):g≠b:=fun e=>by
 obtain⟨_,_,h3⟩:=h hn;have h4:=h3 0 hn;rw[e]at h4;by_cases h5:o+0<128
 ·rw[hx.cell _ h5]at h4;cases h4
 ·rw[jA w b (o+0) _ t (0,0) hx,zD zMM]at h4;cases h4
end
structure DrG(D:DrD)(s0:Nat)(ps:List Pl)(W:World):Prop where
 b:DrB D s0 W
 data:∃A c,Boxed W (s0+4) 22 (.slice A ((D.N-ps.length)*(D.r*D.z)) c)∧(D.N-ps.length)*(D.r*D.z)≤c∧c≤1000∧yX D.g (D.o+ps.length*(D.r*D.z)) (fun j=>D.F (ps.length*(D.r*D.z)+j)) ((D.N-ps.length)*(D.r*D.z)) A W
 coll:Boxed W (s0+10) 4 (.bool (D.coll 0 ps))
theorem DrG.step{D:DrD}{s0:Nat}{ps:List Pl}{w w':World}(G:DrG D s0 ps w)(hb:Below w.heap.size w w'):DrG D s0 ps w':=by
 obtain⟨A,c,d1,d2,d3,d4⟩:=G.data;exact⟨G.b.step hb,⟨A,c,m3 d1 hb,d2,d3,d4.step hb⟩,m3 G.coll hb⟩
def DrT(s0:Nat)(k:Nat):Prop:=k=s0+4∨k=s0+10
theorem yX.short{g o n k:Nat}{F:Nat→Nat}{A:Option Addr}{w:World}(h:yX g o F n A w)(hk:k≤n):yX g o F k A w:=fun h0=>by
 obtain⟨h1,h2,h3⟩:=h zLG;exact⟨h1,h2,fun j hj=>h3 j zLG⟩
theorem yX.rest{g o n k c:Nat}{F:Nat→Nat}{A:Option Addr}{w:World}(h:yX g o F (n+k) A w)(hc:n+k≤c):yX g (o+k) (fun j=>F (k+j)) n (if c=k then A else A.map fun a=>a.add k) w:=fun h0=>by
 obtain⟨h1,h2,h3⟩:=h zLG;subst h1;rw[zL zLG];exact⟨by simp[Addr.add_mid],h2,fun j hj=>by have:=h3 (k+j) zLG;rwa [←qF]at this⟩
theorem own_le(D:DrD)(ok:zYP D):D.r*D.z≤32:=by
 refine zR (Nat.mul_le_mul ok.r1 (show D.z≤2 by rcases ok.z0 with h|h<;>omega)) zLG
theorem UZ{N n:Nat}(q:Nat)(hn:n<N):(N-n)*q=(N-(n+1))*q+q:=by
 rw[←Nat.succ_mul];congr 1;omega
theorem F6(D:DrD)(ok:zYP D)(s0:Nat)(ps:List Pl)(hn:ps.length<D.N)(p:Pl)(w:World)(G:DrG D s0 ps w):
  Calls Tryz.prog 171 #[.agg (kU p),.pointer (some ⟨s0+6,0,none⟩),.pointer (some ⟨s0+7,0,none⟩),.pointer (some ⟨s0+4,0,none⟩),.pointer (some ⟨s0+1,0,none⟩),.pointer (some ⟨s0+8,0,none⟩),.pointer (some ⟨s0+2,0,none⟩),.pointer (some ⟨s0+9,0,none⟩),.pointer (some ⟨s0,0,none⟩),.pointer (some ⟨s0+3,0,none⟩),.pointer (some ⟨s0+10,0,none⟩)] w
   fun e w'=>e=.returned (.agg (kU (wT p (D.sp ps.length))))∧DrG D s0 (ps++[p]) w'∧But (DrT s0) w w':=by
 have hz:=yK;obtain⟨q,hq⟩:∃q,D.r*D.z=q:=⟨_,rfl⟩;have q1:=own_le D ok;rw[hq]at q1;obtain⟨m',hm'⟩:∃m',(D.N-(ps.length+1))*q=m':=⟨_,rfl⟩;have hm:(D.N-ps.length)*(D.r*D.z)=m'+q:=by rw[UZ _ hn,hq,hm']
 obtain⟨Q,hQ⟩:∃Q,wT p (D.sp ps.length)=Q:=⟨_,rfl⟩;obtain⟨P,hP⟩:∃P,D.sp ps.length=P:=⟨_,rfl⟩;obtain⟨hv,hhv⟩:∃v,tS p P=v:=⟨_,rfl⟩;rw[hP]at hQ;have DR:=zW fun w=>drW hQ hhv w;have CO:=zW (show D.coll 0 (ps++[p])=(D.coll 0 ps||hv) by rw[sB,qM,hP,hhv]);rw[hP,hQ];have P0:=zW ((mD.new w p 55).alloc (.cells (kU fun _=>0#128) 55));have R:=zW (mD.new (w.alloc (.cells (kU p) 55)) (fun _=>0#128) 55);have B:=zW ((nC w (.cells (kU p) 55)).alloc zLP (.cells (kU fun _=>0#128) 55));rw[zT]at R;have G1:=zW (G.step B.out);have Z1:((w.alloc (.cells (kU p) 55)).alloc (.cells (kU fun _=>0#128) 55)).heap.size=w.heap.size+2:=zLP;have Gs:=zW (show s0+10<w.heap.size from G.coll.lt);have OK:=zW (zM ok (zM hn (zM hq (zM hm hP))));have HM:=zW hm';clear G ok hn hP hhv hQ hm';go_enter Tryz.func171,Tryz.ntmps171;go_upto_region 1 with fail;generalize (w.alloc (.cells (kU p) 55)).alloc (.cells (kU fun _=>0#128) 55)=w1 at*;clear hz;obtain⟨A,c,d1,d2,d3,d4⟩:=G1.out.data;rw[hm]at d1 d2 d4;have DD:=zW (zM d1 (zM d2 (zM d3 d4)));have c1:=G1.out.b.rows.cell;have c2:=G1.out.b.size.cell;have c3:=d1.cell;obtain⟨r,hr⟩:∃r,D.r=r:=⟨_,rfl⟩;obtain⟨z,hzz⟩:∃z,D.z=z:=⟨_,rfl⟩;rw[hr]at c1;rw[hzz]at c2;have e1:(r:Int)*(z:Int)=(q:Int):=by rw[←hq,hr,hzz];simp
 have e2:max (q:Int) 0=(q:Int):=zLG;have e3:min (q:Int) ((m':Int)+(q:Int))=(q:Int):=zLG;have RZ:=zW (zM hr hzz);clear d1 d2 d3 d4 hm hr hzz hq;go_upto_region 2 with fail;have RB:=zW (show∀w',Below w1.heap.size w1 w'→Calls Tryz.prog 172 #[.slice A q c,.int .i64 (z:Int)] w' fun e w''=>∃A' c',e=.returned (.slice A' r c')∧r9 w'' A' (pL D.F r z (ps.length*(D.r*D.z)))∧(∀ad,A'=some ad→w'.heap.size≤ad.block)∧Below w'.heap.size w' w'' from fun w' hb=>by
  have h:=MF D.g (D.o+ps.length*(D.r*D.z)) r z c A (fun j=>D.F (ps.length*(D.r*D.z)+j)) zL8 zL8 (by have:=OK.out.1.r1;have:=RZ.out.1;omega) (by have h2:=DD.out.2.1;have h3:=OK.out.2.2.1;rw[RZ.out.1,RZ.out.2]at h3;omega) DD.out.2.2.1 (fun j=>OK.out.1.F1 _) w' (by
   have h3:=OK.out.2.2.1;rw[RZ.out.1,RZ.out.2]at h3;rw[h3];exact(DD.out.2.2.2.step hb).short zLG)
  have h3:=OK.out.2.2.1;rw[RZ.out.1,RZ.out.2]at h3;rw[h3]at h;exact h)
 have k3:∀x:lB w1,x.w.cell? ⟨s0+4,0,none⟩=some (.slice A (m'+q) c):=fun x=>(m3 DD.out.1 x.below).cell;have k2:∀x:lB w1,x.w.cell? ⟨s0+7,0,none⟩=some (.int .i64 (z:Int)):=fun x=>by rw[←RZ.out.2];exact(m3 G1.out.b.size x.below).cell
 have qc:(q:Int)≤(c:Int):=by have:=DD.out.2.1;omega
 have LL:=zW (zM P0.out (zM R.out (zM B.out G1.out)));refine mX (C:=fun w'=>∃x:lB w1,w'=x.w) [([0,1,2,3],4)] [5] zLR zLR (fun _ _ d _ _ h=>by cases d<;>exact h) ⟨⟨w1.drew,(zG _ _).drew⟩,rfl⟩ ?_;intro wd hwd;have bd:Below w1.heap.size w1 wd:=by rw[hwd];exact(zG _ _).drew
 clear hwd c1 c2 c3;refine mV zLT zLF ?_;repeat(go_big_quiet_step (rfl))
 refine zY ?_;refine lU zLS ?_;intro K hK;go_wp2_with fail;refine(RB.out _ bd).mono ?_;rintro e w2 ⟨A',c',rfl,hrd,hab,b2⟩;have hab:=zW fun ad h=>zR bd.size (hab ad h);have b2':=bd.trans (b2.mono bd.size);have L2:=zW (zM (P0.out.step b2') (zM (R.out.step b2') (zM (B.out.trans (b2'.mono B.out.size)) (zM (G1.out.step b2') (zM (m3 DD.out.1 b2') (zM (DD.out.2.2.2.step b2') hrd))))));simp only[];refine hK _ _ ⟨⟨w2,b2'⟩,rfl⟩ ?_;clear hK K b2 hrd LL P0 R B G1 RB k3 k2;refine nP zLT ?_;repeat(go_big_quiet_step (rfl))
 refine zY ?_;have k3:=L2.out.2.2.2.2.1.cell;have f3:=L2.out.2.2.2.2.1.frozen;go_upto_region 4 with fail;have hcq:=DD.out.2.1;have DA:=zW (L2.out.2.2.2.2.2.1.rest hcq);obtain⟨A3,hA3⟩:∃A3,(if c=q then A else Option.map (fun x=>x.add q) A)=A3:=⟨_,rfl⟩;rw[hA3]at DA⊢;have nb:0<m'→D.g≠s0+4:=L2.out.2.2.2.2.2.1.short (by omega:m'≤m'+q)|>.notBox L2.out.2.2.2.2.1 (fun x h=>by cases h)
 have S3:=zW (show DrB D s0 (w2.setCell ⟨s0+4,0,none⟩ (.slice A3 m' (c-q)))∧Boxed (w2.setCell ⟨s0+4,0,none⟩ (.slice A3 m' (c-q))) (s0+4) 22 (.slice A3 m' (c-q))∧
   yX D.g (D.o+ps.length*(D.r*D.z)+q) (fun j=>D.F (ps.length*(D.r*D.z)+(q+j))) m' A3 (w2.setCell ⟨s0+4,0,none⟩ (.slice A3 m' (c-q)))∧Boxed (w2.setCell ⟨s0+4,0,none⟩ (.slice A3 m' (c-q))) (s0+10) 4 (.bool (D.coll 0 ps))∧
   mD w.heap.size 55 p (w2.setCell ⟨s0+4,0,none⟩ (.slice A3 m' (c-q)))∧mD (w.heap.size+1) 55 (fun _=>0#128) (w2.setCell ⟨s0+4,0,none⟩ (.slice A3 m' (c-q)))∧r9 (w2.setCell ⟨s0+4,0,none⟩ (.slice A3 m' (c-q))) A' (pL D.F r z (ps.length*(D.r*D.z)))∧But (DrT s0) w (w2.setCell ⟨s0+4,0,none⟩ (.slice A3 m' (c-q)))∧w.heap.size+2≤(w2.setCell ⟨s0+4,0,none⟩ (.slice A3 m' (c-q))).heap.size from
  ⟨L2.out.2.2.2.1.b.other (.inl rfl) _ _,L2.out.2.2.2.2.1.set _,DA.out.other nb _ _,xB L2.out.2.2.2.1.coll zLG _ _,L2.out.1.other zLU _ _,L2.out.2.1.other zLU _ _,
   L2.out.2.2.2.2.2.2.other (fun ad h=>by have:=hab.out ad h;have:=Gs.out;omega) _ _,(But.of_below L2.out.2.2.1).trans (But.cell _ _ (.inl rfl)),by have:=b2'.size;simp;omega⟩)
 generalize w2.setCell ⟨s0+4,0,none⟩ (.slice A3 m' (c-q))=w3 at*;clear k3 f3 hA3 nb DA L2 bd b2' qc e1 e2 e3;obtain⟨x,hx⟩:∃x,D.x=x:=⟨_,rfl⟩;obtain⟨y,hy⟩:∃y,D.y=y:=⟨_,rfl⟩;obtain⟨m,hm⟩:∃m,D.m=m:=⟨_,rfl⟩;obtain⟨h,hh⟩:∃h,D.h=h:=⟨_,rfl⟩;obtain⟨hi,hhi⟩:∃hi,D.S.hi=hi:=⟨_,rfl⟩;obtain⟨cl,hcl⟩:∃cl,D.clip=cl:=⟨_,rfl⟩;have VV:=zW (zM hx (zM hy (zM hm (zM hh (zM hhi hcl)))));have res:=OK.out.1.res;rw[hm,hh,hhi]at res;obtain⟨m0,m1,h0,h1⟩:=res.bounds;have k2:∀u:lB w3,u.w.cell? ⟨s0+7,0,none⟩=some (.int .i64 (z:Int)):=fun u=>by rw[←RZ.out.2];exact(m3 S3.out.1.size u.below).cell
 have k4:∀u:lB w3,u.w.cell? ⟨s0+1,0,none⟩=some (.int .i64 (x:Int)):=fun u=>by rw[←hx];exact(m3 S3.out.1.x u.below).cell
 have k5:∀u:lB w3,u.w.cell? ⟨s0+8,0,none⟩=some (.int .i64 (m:Int)):=fun u=>by rw[←hm];exact(m3 S3.out.1.wd u.below).cell
 have k6:∀u:lB w3,u.w.cell? ⟨s0+2,0,none⟩=some (.int .i64 (y:Int)):=fun u=>by rw[←hy];exact(m3 S3.out.1.y u.below).cell
 have k7:∀u:lB w3,u.w.cell? ⟨s0+9,0,none⟩=some (.int .i64 (h:Int)):=fun u=>by rw[←hh];exact(m3 S3.out.1.ht u.below).cell
 have k8:∀u:lB w3,u.w.cell? ⟨s0,512,none⟩=some (.bool hi):=fun u=>by rw[←hhi];exact(S3.out.1.s.step u.below).hires
 have k9:∀u:lB w3,u.w.cell? ⟨s0+3,0,none⟩=some (.bool cl):=fun u=>by rw[←hcl];exact(m3 S3.out.1.clip u.below).cell
 have kp:=zW (fun(w':World) (hw:∃u:lB w3,w'=u.w)=>show Blk w.heap.size 55 (kU p) w' by obtain⟨u,rfl⟩:=hw;exact S3.out.2.2.2.2.1.step u.below);have z8:(z:Int)≤2:=by have:=OK.out.1.z0;have:=RZ.out.2;omega
 have mI:(0:Int)<(m:Int):=zLG;have hI:(0:Int)<(h:Int):=zLG;have RS:=zW res;clear hx hy hm hh hhi hcl res hcq;refine lV (C:=fun w'=>∃u:lB w3,w'=u.w) 18 [([0,1,2,3,4,5,6,7,8,9,10,11,12],13,true),([],14,true)] [15,16,17] [19] zLR zLR ?_ ?_ ⟨⟨w3.drew,(zG _ _).drew⟩,rfl⟩ ?_
 ·exact zMP
 ·exact zMD
 intro wd hwd;have bd:=zW (show Below w3.heap.size w3 wd by rw[hwd];exact(zG _ _).drew);clear hwd;refine lS zLT zLF ?_;refine mZ uA kp.out (lZ _) rfl (.tmp 11) rfl zLE ?_;simp only[Act.put,zQ,zZ,zJ];repeat(go_big_quiet_step (rfl))
 refine zY ?_;have HSP:spr (nth (pL D.F r z (ps.length*(D.r*D.z)))) r (z*8) (x%m) (y%h) m h cl=P:=by
  have e:=OK.out.2.2.2.2;unfold DrD.sp at e;obtain⟨v1,v2,v3,v4,v5,v6⟩:=VV.out;rw[v1,v2,v3,v4,v6]at e;rw[←e];rw[RZ.out.1,RZ.out.2]
 have SP:∀w',(∃u:lB w3,w'=u.w)→Calls Tryz.prog 174 #[.slice A' r c',.int .i64 ((z:Int)*8),.int .i64 ((x:Int)%(m:Int)),.int .i64 ((y:Int)%(h:Int)),.bool hi,.bool cl] w' fun e w''=>e=.returned (.agg (kU P))∧Gr w' w'':=by
  rintro w' ⟨u,rfl⟩;exact spW RS.out (S3.out.2.2.2.2.2.2.1.step u.below) (by
   intro v hv;unfold pL at hv;obtain⟨j,_,rfl⟩:=jV.1 hv;exact zXA (fun j=>OK.out.1.F1 _) z j zL8) (by simp[pL]) (by have:=OK.out.1.r1;have:=RZ.out.1;omega) zL8 (kT _ zLG) (kT _ zLG) zLP zLP zLP HSP
 refine lP (v:=.agg (kU P)) (mM (g:=174) (caps:=#[]) (args:=#[.slice A' r c',.int .i64 ((z:Int)*8),.int .i64 ((x:Int)%(m:Int)),.int .i64 ((y:Int)%(h:Int)),.bool hi,.bool cl]) (.func 174) #[.tmp 33,.tmp 35,.tmp 38,.tmp 41,.tmp 43,.tmp 44] #[269,3,3,3,4,4] rfl rfl (enters_of Tryz.func174 zLR rfl) SP rfl zLE) ?_;clear SP HSP k2 k4 k5 k6 k7 k8 k9;simp only[Act.put,zQ,zZ,zJ];refine lS zLT zLF ?_;refine zY ?_;refine lP (v:=.tuple #[.agg (kU Q),.bool hv]) (mM (g:=173) (caps:=#[]) (args:=#[.agg (kU p),.agg (kU P)]) (.func 173) #[.tmp 32,.tmp 45] #[55,55] rfl rfl (enters_of Tryz.func173 zLR rfl) (fun w' _=>DR.out w') rfl zLE) ?_;simp only[Act.put,zQ,zZ,zJ];refine lT zLT zLF ?_;repeat(go_big_quiet_step (rfl))
 refine zY ?_;refine lD rfl ?_;intro w4 g4 C4 K hK;have b4:=zW (bd.out.trans (g4.mono bd.out.size));refine nM (ds:=kU Q) uA (mD.step S3.out.2.2.2.2.1 b4.out) (lZ _) (lZ _) (vL _) (.tmp 11) (.tmp 47) rfl zLB zLB ?_;refine hK _ _ ?_;clear hK K;simp only[Act.put,zQ,zZ,zJ];simp only[kA,zX,zK,zV];repeat(go_big_quiet_step (rfl))
 refine zY ?_;intro w5 g5;obtain⟨cv,hcv⟩:∃cv,D.coll 0 ps=cv:=⟨_,rfl⟩;rw[hcv]at S3 CO;have S4:=S3.out;obtain⟨s1,s2,s3,s4,s5,s6,-,s8,s9⟩:=S4;have ng:0<m'→D.g≠w.heap.size:=fun h0=>(s3.step b4.out).notPl (mD.step s5 b4.out) h0;have S5:=zW (show DrB D s0 w5∧Boxed w5 (s0+4) 22 (.slice A3 m' (c-q))∧yX D.g (D.o+ps.length*(D.r*D.z)+q) (fun j=>D.F (ps.length*(D.r*D.z)+(q+j))) m' A3 w5∧Boxed w5 (s0+10) 4 (.bool cv)∧
   mD w.heap.size 55 Q w5∧mD (w.heap.size+1) 55 (fun _=>0#128) w5∧But (DrT s0) w w5 from
  ⟨((s1.step b4.out).row zLU _).step g5,m3 (yU (m3 s2 b4.out) zLU _) g5,((s3.step b4.out).row ng _).step g5,m3 (yU (m3 s4 b4.out) zLU _) g5,
   (mD.store (mD.step s5 b4.out) Q).step g5,((mD.step s6 b4.out).otherRow zLG _).step g5,((s8.trans (But.of_below b4.out)).rowNew (zH _) _).trans (But.of_below g5)⟩)
 clear S3 s1 s2 s3 s4 s5 s6 s8 s9 ng b4 g4 C4 g5 bd kp VV m0 m1 h0 h1 z8 mI hI RS;have CB:=zW (zM DD.out.2.1 DD.out.2.2.1);clear DD;have k10:=S5.out.2.2.2.1.cell;have f10:=S5.out.2.2.2.1.frozen;obtain⟨nv,hnv⟩:∃nv,(cv||hv)=nv:=⟨_,rfl⟩;rw[hnv]at CO;have NV:=zW hnv;clear hnv hcv;have fin:∀(K:Act→World→Prop),True:=fun _=>trivial;clear fin;have stage:cv=true∧nv=true∨cv=false∧nv=hv:=by
  have:=NV.out;cases cv
  ·exact .inr ⟨rfl,by rw[←this];rfl⟩
  ·exact .inl ⟨rfl,by rw[←this];rfl⟩
 rcases stage with⟨rfl,rfl⟩|⟨rfl,rfl⟩
 ·go_upto_region 6 with fail;obtain⟨s1,s2,s3,s4,s5,s6,s8⟩:=S5.out;have ng:0<m'→D.g≠s0+10:=fun h0=>s3.notBox s4 (fun x h=>by cases h) h0;have ng2:0<m'→D.g≠w.heap.size+1:=fun h0=>s3.notPl s6 h0;have S6:=zW (show DrB D s0 (w5.setCell ⟨s0+10,0,none⟩ (.bool true))∧Boxed (w5.setCell ⟨s0+10,0,none⟩ (.bool true)) (s0+4) 22 (.slice A3 m' (c-q))∧yX D.g (D.o+ps.length*(D.r*D.z)+q) (fun j=>D.F (ps.length*(D.r*D.z)+(q+j))) m' A3 (w5.setCell ⟨s0+10,0,none⟩ (.bool true))∧Boxed (w5.setCell ⟨s0+10,0,none⟩ (.bool true)) (s0+10) 4 (.bool true)∧
    mD w.heap.size 55 Q (w5.setCell ⟨s0+10,0,none⟩ (.bool true))∧mD (w.heap.size+1) 55 (fun _=>0#128) (w5.setCell ⟨s0+10,0,none⟩ (.bool true))∧But (DrT s0) w (w5.setCell ⟨s0+10,0,none⟩ (.bool true))from
   ⟨s1.other (.inr (zH _)) _ _,xB s2 zLG _ _,s3.other ng _ _,s4.set _,s5.other zLU _ _,s6.other zLU _ _,s8.trans (But.cell _ _ (.inr rfl))⟩)
  generalize w5.setCell ⟨s0+10,0,none⟩ (.bool true)=w6 at*;exact zMC
 ·go_upto_region 6 with fail;obtain⟨s1,s2,s3,s4,s5,s6,s8⟩:=S5.out;have ng:0<m'→D.g≠s0+10:=fun h0=>s3.notBox s4 (fun x h=>by cases h) h0;have ng2:0<m'→D.g≠w.heap.size+1:=fun h0=>s3.notPl s6 h0;have S6:=zW (show DrB D s0 (w5.setCell ⟨s0+10,0,none⟩ (.bool nv))∧Boxed (w5.setCell ⟨s0+10,0,none⟩ (.bool nv)) (s0+4) 22 (.slice A3 m' (c-q))∧yX D.g (D.o+ps.length*(D.r*D.z)+q) (fun j=>D.F (ps.length*(D.r*D.z)+(q+j))) m' A3 (w5.setCell ⟨s0+10,0,none⟩ (.bool nv))∧Boxed (w5.setCell ⟨s0+10,0,none⟩ (.bool nv)) (s0+10) 4 (.bool nv)∧
    mD w.heap.size 55 Q (w5.setCell ⟨s0+10,0,none⟩ (.bool nv))∧mD (w.heap.size+1) 55 (fun _=>0#128) (w5.setCell ⟨s0+10,0,none⟩ (.bool nv))∧But (DrT s0) w (w5.setCell ⟨s0+10,0,none⟩ (.bool nv))from
   ⟨s1.other (.inr (zH _)) _ _,xB s2 zLG _ _,s3.other ng _ _,s4.set _,s5.other zLU _ _,s6.other zLU _ _,s8.trans (But.cell _ _ (.inr rfl))⟩)
  generalize w5.setCell ⟨s0+10,0,none⟩ (.bool nv)=w6 at*;exact zMC
theorem zXD(S:Sc)(x y:Nat)(clip:Bool)(A:Option Addr)(t c:Nat)(w:World):∃w1,w1=((((((w.alloc (.cells (kC S) 58)).alloc (.cells #[.int .i64 (x:Int)] 3)).alloc (.cells #[.int .i64 (y:Int)] 3)).alloc (.cells #[.bool clip] 4)).alloc (.cells #[.slice A t c] 22)).alloc (.cells (kC (lR false 0)) 58))∧SB w.heap.size S w1∧Boxed w1 (w.heap.size+1) 3 (.int .i64 (x:Int))∧Boxed w1 (w.heap.size+2) 3 (.int .i64 (y:Int))∧Boxed w1 (w.heap.size+3) 4 (.bool clip)∧Boxed w1 (w.heap.size+4) 22 (.slice A t c)∧SB (w.heap.size+5) (lR false 0) w1∧Below w.heap.size w w1∧w1.heap.size=w.heap.size+6:=by
 refine⟨_,rfl,?_,?_,?_,?_,?_,?_,?_,by simp⟩
 ·exact(((((SB.new w S).alloc _).alloc _).alloc _).alloc _).alloc _
 ·have h:=(((((jB (w.alloc (.cells (kC S) 58)) 3 (.int .i64 (x:Int))).alloc (.cells #[.int .i64 (y:Int)] 3)).alloc (.cells #[.bool clip] 4)).alloc (.cells #[.slice A t c] 22)).alloc (.cells (kC (lR false 0)) 58));simpa using h
 ·have h:=((((jB ((w.alloc (.cells (kC S) 58)).alloc (.cells #[.int .i64 (x:Int)] 3)) 3 (.int .i64 (y:Int))).alloc (.cells #[.bool clip] 4)).alloc (.cells #[.slice A t c] 22)).alloc (.cells (kC (lR false 0)) 58));simpa using h
 ·have h:=(((jB (((w.alloc (.cells (kC S) 58)).alloc (.cells #[.int .i64 (x:Int)] 3)).alloc (.cells #[.int .i64 (y:Int)] 3)) 4 (.bool clip)).alloc (.cells #[.slice A t c] 22)).alloc (.cells (kC (lR false 0)) 58));simpa using h
 ·have h:=((jB ((((w.alloc (.cells (kC S) 58)).alloc (.cells #[.int .i64 (x:Int)] 3)).alloc (.cells #[.int .i64 (y:Int)] 3)).alloc (.cells #[.bool clip] 4)) 22 (.slice A t c)).alloc (.cells (kC (lR false 0)) 58));simpa using h
 ·have h:=SB.new (((((w.alloc (.cells (kC S) 58)).alloc (.cells #[.int .i64 (x:Int)] 3)).alloc (.cells #[.int .i64 (y:Int)] 3)).alloc (.cells #[.bool clip] 4)).alloc (.cells #[.slice A t c] 22)) (lR false 0);simpa using h
 ·exact((((((zG _ w).alloc (zH _) _).alloc zLP _).alloc zLA _).alloc zLA _).alloc zLA _).alloc zLA _
theorem zZY(r z m h k:Nat)(w1:World)(hk:w1.heap.size=k):∃w2,w2=(((((w1.alloc (.cells #[.int .i64 (r:Int)] 3)).alloc (.cells #[.int .i64 (z:Int)] 3)).alloc (.cells #[.int .i64 (m:Int)] 3)).alloc (.cells #[.int .i64 (h:Int)] 3)).alloc (.cells #[.bool false] 4))∧Boxed w2 k 3 (.int .i64 (r:Int))∧Boxed w2 (k+1) 3 (.int .i64 (z:Int))∧Boxed w2 (k+2) 3 (.int .i64 (m:Int))∧Boxed w2 (k+3) 3 (.int .i64 (h:Int))∧Boxed w2 (k+4) 4 (.bool false)∧Below w1.heap.size w1 w2∧w2.heap.size=k+5:=by
 subst hk;refine⟨_,rfl,?_,?_,?_,?_,?_,?_,by simp⟩
 ·have h:=(((((jB w1 3 (.int .i64 (r:Int))).alloc (.cells #[.int .i64 (z:Int)] 3)).alloc (.cells #[.int .i64 (m:Int)] 3)).alloc (.cells #[.int .i64 (h:Int)] 3)).alloc (.cells #[.bool false] 4));simpa using h
 ·have h:=((((jB (w1.alloc (.cells #[.int .i64 (r:Int)] 3)) 3 (.int .i64 (z:Int))).alloc (.cells #[.int .i64 (m:Int)] 3)).alloc (.cells #[.int .i64 (h:Int)] 3)).alloc (.cells #[.bool false] 4));simpa using h
 ·have h:=(((jB ((w1.alloc (.cells #[.int .i64 (r:Int)] 3)).alloc (.cells #[.int .i64 (z:Int)] 3)) 3 (.int .i64 (m:Int))).alloc (.cells #[.int .i64 (h:Int)] 3)).alloc (.cells #[.bool false] 4));simpa using h
 ·have h:=((jB (((w1.alloc (.cells #[.int .i64 (r:Int)] 3)).alloc (.cells #[.int .i64 (z:Int)] 3)).alloc (.cells #[.int .i64 (m:Int)] 3)) 3 (.int .i64 (h:Int))).alloc (.cells #[.bool false] 4));simpa using h
 ·have h:=(jB ((((w1.alloc (.cells #[.int .i64 (r:Int)] 3)).alloc (.cells #[.int .i64 (z:Int)] 3)).alloc (.cells #[.int .i64 (m:Int)] 3)).alloc (.cells #[.int .i64 (h:Int)] 3)) 4 (.bool false));simpa using h
 ·exact(((((zG _ w1).alloc (zH _) _).alloc zLP _).alloc zLA _).alloc zLA _).alloc zLA _
structure DrW(b1 b2:Nat)(Z:Sc)(cv:Bool) where
 w:World
 s:SB b1 Z w
 c:Boxed w b2 4 (.bool cv)
theorem yI{w w':World}{b n:Nat}{t:TypeId}{v:Value}(h:Boxed w b t v)(hb:Below n w w')(hn:b<n):Boxed w' b t v:=(hb.block b hn).trans h
theorem DrG.below{D:DrD}{s0 n:Nat}{ps:List Pl}{w w':World}(G:DrG D s0 ps w)(hb:Below n w w')(hs:s0+10<n)(hg:0<D.N*(D.r*D.z)→D.g<n):DrG D s0 ps w':=by
 obtain⟨A,c,d1,d2,d3,d4⟩:=G.data;have b:=G.b;refine⟨⟨yI b.rows hb zLG,yI b.size hb zLG,yI b.x hb zLG,yI b.y hb zLG,yI b.wd hb zLG,yI b.ht hb zLG,yI b.clip hb zLG,b.s.below hb zLG⟩,⟨A,c,yI d1 hb zLG,d2,d3,fun hn=>?_⟩,yI G.coll hb zLG⟩;obtain⟨h1,h2,h3⟩:=d4 hn;have hp:0<D.N*(D.r*D.z):=zS hn (Nat.mul_le_mul_right _ (Nat.sub_le _ _));have hgn:=hg hp;exact⟨h1,zS h2 hb.size,fun j hj=>(hb.cell (p:=⟨D.g,_,none⟩) hgn).trans (h3 j hj)⟩
theorem F5(D:DrD)(ok:zYP D)(M n:Nat)(big:Bool)(hM:D.S.M=(M:Int))(M1:M≤10000)(hN:D.N=(nY M 4).length)(hr:(if big then 16 else n)=D.r)(hzz:(if big then 2 else 1)=D.z)(A:Option Addr)(t c:Nat)(ht:D.N*(D.r*D.z)=t)(hc:t≤c)(c1:c≤1000)(w:World)(hD:yX D.g D.o D.F t A w):
  Calls Tryz.prog 139 #[.agg (kC D.S),.int .i64 (D.x:Int),.int .i64 (D.y:Int),.int .i64 (n:Int),.bool big,.bool D.clip,.slice A t c] w fun e w'=>
   e=.returned (.tuple #[.agg (kC (yQ (fun i p=>wT p (D.sp (nY M i).length)) M D.S)),.bool (D.coll 0 ((nY M 4).map fun i=>D.S.P i.val))])∧Below w.heap.size w w':=by
 have hz:=xC;obtain⟨Z,hZ⟩:∃Z,yQ (fun i p=>wT p (D.sp (nY M i).length)) M D.S=Z:=⟨_,rfl⟩;obtain⟨cv,hcv⟩:∃cv,D.coll 0 ((nY M 4).map fun i=>D.S.P i.val)=cv:=⟨_,rfl⟩;rw[hZ,hcv];have RC:=zW ((dY (fun k p=>wT p (D.sp k)) D.S M).trans (by rw[hZ]));have PC:=zW (show D.coll 0 (yS (fun k p=>wT p (D.sp k)) 0 D.S (nY M 4))=cv by rw[V9 _ _ _ _ zLG,hcv]);have CH:=zW fun(s0:Nat) (w:World) (l1:s0+10<w.heap.size) (lg:0<D.N*(D.r*D.z)→D.g<w.heap.size) (H:DrG D s0 [] w)=>dG M (g:=171) (caps:=#[.pointer (some ⟨s0+6,0,none⟩),.pointer (some ⟨s0+7,0,none⟩),.pointer (some ⟨s0+4,0,none⟩),.pointer (some ⟨s0+1,0,none⟩),.pointer (some ⟨s0+8,0,none⟩),.pointer (some ⟨s0+2,0,none⟩),.pointer (some ⟨s0+9,0,none⟩),.pointer (some ⟨s0,0,none⟩),.pointer (some ⟨s0+3,0,none⟩),.pointer (some ⟨s0+10,0,none⟩)]) (enters_of Tryz.func171 zLR rfl) (fun k p=>wT p (D.sp k)) (DrT s0) (fun ps W=>DrG D s0 ps W∧∀j,j<w.heap.size→j<W.heap.size) w (fun k h=>by rcases h with h|h<;>omega)
  (fun _ W W' G b=>⟨G.1.below b l1 lg,fun j hj=>zS (G.2 j hj) b.size⟩)
  (fun ps p W hn G _=>(F6 D ok s0 ps (by rw[hN];exact hn) p W G.1).mono fun e W' h=>⟨h.1,⟨h.2.1,fun j hj=>zS (G.2 j hj) h.2.2.size⟩,h.2.2⟩) D.S hM M1 ⟨H,fun j hj=>hj⟩
 clear hZ hcv;obtain⟨w1,hw1,S0,X0,Y0,C0,D0,R0,B0,Z0⟩:=zXD D.S D.x D.y D.clip A t c w;have L1:=zW (zM S0 (zM X0 (zM Y0 (zM C0 (zM D0 (zM R0 (zM B0 Z0)))))));have HW:=zW hw1;obtain⟨r,hrr⟩:∃r,D.r=r:=⟨_,rfl⟩;obtain⟨z,hz2⟩:∃z,D.z=z:=⟨_,rfl⟩;obtain⟨x,hx⟩:∃x,D.x=x:=⟨_,rfl⟩;obtain⟨y,hy⟩:∃y,D.y=y:=⟨_,rfl⟩;obtain⟨m,hm⟩:∃m,D.m=m:=⟨_,rfl⟩;obtain⟨h,hh⟩:∃h,D.h=h:=⟨_,rfl⟩;obtain⟨hi,hhi⟩:∃hi,D.S.hi=hi:=⟨_,rfl⟩;obtain⟨cl,hcl⟩:∃cl,D.clip=cl:=⟨_,rfl⟩;have VV:=zW (zM hrr (zM hz2 (zM hx (zM hy (zM hm (zM hh (zM hhi hcl)))))));have SH:=zW fun w=>oO n big w;rw[hr,hzz,hrr,hz2]at SH;have res:=ok.res;rw[hm,hh,hhi]at res;have SZ:=zW fun w=>aT res w;have TT:=zW (zM hN (zM ht (zM hc (zM c1 hD))));rw[hx,hy,hcl];rw[hx,hy,hcl]at hw1;clear hrr hz2 hx hy hm hh hcl hr hzz res S0 X0 Y0 C0 D0 R0 B0 Z0 hN ht hc c1 hD hM ok;go_enter Tryz.func139,Tryz.ntmps139;go_wp2_with fail;rw[←hw1];clear hz hw1;simp only[qF,Nat.reduceAdd];refine(SH.out _).mono ?_;rintro e w' ⟨rfl,rfl⟩;have k512:=L1.out.1.hires;rw[hhi]at k512;have l0:=L1.out.1.lt;have Z0:=L1.out.2.2.2.2.2.2.2;go_wp2_with fail;simp only[qF,Nat.reduceAdd];refine(SZ.out _).mono ?_;rintro e w' ⟨rfl,rfl⟩;go_upto_region 4 with fail;simp only[qF,Nat.reduceAdd];obtain⟨w2,hw2,r2,z2,m2,h2,f2,b2,n2⟩:=zZY r z m h (w.heap.size+6) w1 Z0;rw[←hw2];clear hw2 k512 l0;have G2:=zW (show DrG D w.heap.size [] w2 from by
  obtain⟨l1,l2,l3,l4,l5,l6,l7,l8⟩:=L1.out;obtain⟨v1,v2,v3,v4,v5,v6,v7,v8⟩:=VV.out;obtain⟨t1,t2,t3,t4,t5⟩:=TT.out;refine⟨⟨by rw[v1];exact r2,by rw[v2];exact z2,m3 l2 b2,m3 l3 b2,by rw[v5];exact m2,by rw[v6];exact h2,m3 l4 b2,l1.step b2⟩,⟨A,c,?_,?_,t4,?_⟩,f2⟩
  ·simp only[List.length_nil,Nat.sub_zero];rw[t2];exact m3 l5 b2
  ·simp only[List.length_nil,Nat.sub_zero];omega
  ·simp only[List.length_nil,Nat.sub_zero,Nat.zero_mul,qM,Nat.add_zero];rw[t2];exact(t5.step l7).step b2)
 have S2:=zW (L1.out.1.step b2)
 have R2:=zW (L1.out.2.2.2.2.2.1.step b2);have B2:=zW (L1.out.2.2.2.2.2.2.1.trans (b2.mono L1.out.2.2.2.2.2.2.1.size));have lg:=zW (show 0<D.N*(D.r*D.z)→D.g<w2.heap.size from fun h0=>by
  have:=(TT.out.2.2.2.2 (by rw[←TT.out.2.1];exact h0)).2.1;omega)
 clear r2 z2 m2 h2 f2 b2;refine zB ?_;refine lJ vT S2.out (lQ _) rfl (.tmp 7) rfl zLE ?_;simp only[Act.put,zQ,zZ,zJ];iterate 3 go_step
 refine qH rfl fun K hK=>?_;refine lC (g:=166) (caps:=#[]) (args:=#[.agg (kC D.S),.func (.func 171) #[] #[.pointer (some ⟨w.heap.size+6,0,none⟩),.pointer (some ⟨w.heap.size+7,0,none⟩),.pointer (some ⟨w.heap.size+4,0,none⟩),.pointer (some ⟨w.heap.size+1,0,none⟩),.pointer (some ⟨w.heap.size+8,0,none⟩),.pointer (some ⟨w.heap.size+2,0,none⟩),.pointer (some ⟨w.heap.size+9,0,none⟩),.pointer (some ⟨w.heap.size,0,none⟩),.pointer (some ⟨w.heap.size+3,0,none⟩),.pointer (some ⟨w.heap.size+10,0,none⟩)]]) (.func 166) #[.tmp 34,.tmp 35] #[58,262] rfl (enters_of Tryz.func166 zLR rfl) rfl zLE ?_;refine(CH.out w.heap.size w2 (by rw[n2];omega) lg.out G2.out).mono ?_;rintro e w3 ⟨rfl,⟨g3,-⟩,b3⟩;have R3:=zW (show SB (w.heap.size+5) (lR false 0) w3 from Blk.but R2.out b3 (by unfold DrT;omega));have B3:=zW (show Below w.heap.size w w3 from B2.out.trans (b3.below zLG (fun k hk=>by rcases hk with h|h<;>omega)));have C3:=zW (show Boxed w3 (w.heap.size+10) 4 (.bool cv)from by have h:=g3.coll;rw[PC.out]at h;exact h);refine⟨_,rfl,hK _ _ ?_⟩;clear hK K b3 g3 G2 S2 R2 B2 lg;rw[RC.out];simp only[Act.put,zQ,zZ,zJ];have n3:w.heap.size+10<w3.heap.size:=C3.out.lt;refine mT (ds:=kC Z) vT QM (lQ _) (lQ _) (nZ _) rfl rfl rfl (.tmp 21) (.tmp 36) rfl zLB zLB ?_;simp only[Act.put,zQ,zZ,zJ];have V4:=zW (SB.new w3 Z);have R4:=zW (R3.out.alloc (.cells (kC Z) 58));have B4:=zW (B3.out.alloc B3.out.size (.cells (kC Z) 58));have C4:=zW (C3.out.alloc (.cells (kC Z) 58));generalize w3.alloc (.cells (kC Z) 58)=w4 at*;clear R3 B3 C3;go_upto_region 5 with fail;have kc:∀u:DrW w3.heap.size (w.heap.size+10) Z cv,u.w.cell? ⟨w.heap.size+10,0,none⟩=some (.bool cv):=fun u=>u.c.cell;have kp:=zW (fun(w':World) (hw:∃u:DrW w3.heap.size (w.heap.size+10) Z cv,w'=u.w)=>show Blk w3.heap.size 58 (kC Z) w' by obtain⟨u,rfl⟩:=hw;exact u.s);refine mX (C:=fun w'=>∃u:DrW w3.heap.size (w.heap.size+10) Z cv,w'=u.w) [([0,1],2)] [3] zLR zLR (fun _ _ d _ _ h=>by cases d<;>exact h) ⟨⟨w4.drew,V4.out.drew,C4.out⟩,rfl⟩ ?_;intro wd hwd;have bd:=zW (show Below w4.heap.size w4 wd by rw[hwd];exact(zG _ _).drew);clear hwd;refine mV zLT zLF ?_;refine mZ vT kp.out (lQ _) rfl (.tmp 21) rfl zLE ?_;simp only[Act.put,zQ,zZ,zJ];repeat(go_big_quiet_step (rfl))
 refine zY ?_;refine lU zLS ?_;intro K hK;refine nM (ds:=kC Z) vT (R4.out.step bd.out) (lQ _) (lQ _) (nZ _) (.tmp 14) (.tmp 37) rfl zLB zLB ?_;have R6:=zW ((R4.out.step bd.out).store Z);have B6:=zW (vC (B4.out.trans (bd.out.mono B4.out.size)) (by omega:w.heap.size≤w.heap.size+5) (kC Z));have D6:∃u:DrW w3.heap.size (w.heap.size+10) Z cv,wd.setRow (w.heap.size+5) (kC Z)=u.w:=⟨⟨_,(V4.out.step bd.out).otherRow zLG _,yU (m3 C4.out bd.out) zLG _⟩,rfl⟩;generalize wd.setRow (w.heap.size+5) (kC Z)=w6 at*;refine hK _ _ D6 ?_;clear hK K D6 V4 R4 B4 C4 kp kc bd;simp only[Act.put,zQ,zZ,zJ];refine nP zLT ?_;repeat(go_big_quiet_step (rfl))
 refine zY ?_;iterate 3 go_step
 exact zF (rS rfl _ _ (w.heap.size+5) _ _ _ _ (.bool cv) rfl rfl R6.out Tryz.underlying58 rfl zMY) rfl ⟨rfl,B6.out⟩
structure Stp where
 k:Int
 m:Int
 hires:Bool
 x:Int
 y:Int
 n:Int
 big:Bool
 clip:Bool
 A:Option Addr
 len:Nat
 cap:Nat
def InI(x:Int):Prop:= -9223372036854775808≤x∧x≤9223372036854775807
structure zJF(q:Stp)(L:List Nat)(w:World):Prop where
 k:InI q.k
 m:InI q.m
 x:InI q.x
 y:InI q.y
 n:InI q.n
 rd:Rd8 w q.A L
 len:L.length=q.len
 max:q.len≤maxLen
 le:∀b∈L,b≤255
theorem zJF.step{x:Stp}{L:List Nat}{w w':World}(h:zJF x L w)(hb:Below w.heap.size w w'):zJF x L w':=⟨h.k,h.m,h.x,h.y,h.n,h.rd.step hb,h.len,h.max,h.le⟩
def wid(hires:Bool):Nat:=if hires then 128 else 64
def hei(hires:Bool):Nat:=if hires then 64 else 32
theorem res_of(hires:Bool):Res hires (wid hires) (hei hires):=by
 cases hires
 ·exact .inr ⟨rfl,rfl,rfl⟩
 ·exact .inl ⟨rfl,rfl,rfl⟩
def mkD(F:Nat→Nat)(S:Sc)(M n:Nat)(big clip:Bool)(x y g o:Nat):DrD:=
 ⟨g,o,F,(nY M 4).length,if big then 16 else n,if big then 2 else 1,x,y,wid S.hi,hei S.hi,clip,S⟩
theorem mkD_ok(F:Nat→Nat)(hF:∀j,F j≤255)(S:Sc)(M n:Nat)(hn:n≤16)(big clip:Bool)(x y g o:Nat)(hx:x≤1000)(hy:y≤1000):zYP (mkD F S M n big clip x y g o):=
 ⟨by unfold mkD;simp only;split<;>omega,by unfold mkD;simp only;cases big<;>simp,hF,by unfold mkD;exact o7 M 4,hx,hy,res_of S.hi⟩
def drS(D:DrD)(M:Nat):Sc:=yQ (fun i p=>wT p (D.sp (nY M i).length)) M D.S
def coS(D:DrD)(M:Nat):Bool:=D.coll 0 ((nY M 4).map fun i=>D.S.P i.val)
theorem XS(F:Nat→Nat)(S:Sc)(M n:Nat)(big clip:Bool)(x y g o g' o':Nat):∀(ps:List Pl) (k:Nat),(mkD F S M n big clip x y g o).coll k ps=(mkD F S M n big clip x y g' o').coll k ps
 |[],k=>rfl
 |p::ps,k=>by rw[DrD.coll,DrD.coll,XS F S M n big clip x y g o g' o' ps];rfl
theorem zW5(F:Nat→Nat)(S:Sc)(M n:Nat)(big clip:Bool)(x y g o g' o':Nat):coS (mkD F S M n big clip x y g o) M=coS (mkD F S M n big clip x y g' o') M:=XS _ _ _ _ _ _ _ _ _ _ _ _ _ _
theorem NS(M n:Nat)(big:Bool)(hn:n≤32):yL M n big 4≤128:=zK0 M n big hn 4
end
section
open Go.RowKit Num

end
section
open Go.RowKit Go.Shelf Num
section
variable {ops:Array Oper} {C:World→Prop}
end
def drZ(F:Nat→Nat)(S:Sc)(M n:Nat)(big clip:Bool)(x y:Nat):Sc:=drS (mkD F S M n big clip x y 0 0) M
def coZ(F:Nat→Nat)(S:Sc)(M n:Nat)(big clip:Bool)(x y:Nat):Bool:=coS (mkD F S M n big clip x y 0 0) M
theorem drawM(S:Sc)(M n:Nat)(hM:S.M=(M:Int))(M1:M≤15)(n1:n≤15)(big clip:Bool)(x y:Nat)(x1:x≤255)(y1:y≤255)(F:Nat→Nat)(hF:∀j,F j≤255)(g o nd:Nat)(A:Option Addr)(c:Nat)(hnd:yL M n big 4=nd)(hc:nd≤c)(c1:c≤1000)(w:World)(hD:yX g o F nd A w):
  Calls Tryz.prog 139 #[.agg (kC S),.int .i64 (x:Int),.int .i64 (y:Int),.int .i64 (n:Int),.bool big,.bool clip,.slice A nd c] w fun e w'=>
   e=.returned (.tuple #[.agg (kC (drZ F S M n big clip x y)),.bool (coZ F S M n big clip x y)])∧Below w.heap.size w w':=by
 have hl:(nY M 4).length*((if big then 16 else n)*(if big then 2 else 1))=nd:=by rw[←hnd,iV M n big 4 zLG,sV]
 have h:=F5 (mkD F S M n big clip x y g o) (mkD_ok _ hF S M n zLG big clip x y g o zLG zLG) M n big hM zLG rfl rfl rfl A nd c hl hc c1 w hD;refine h.mono fun e w' ⟨he,hb⟩=>⟨he.trans ?_,hb⟩;have e2:=zW5 F S M n big clip x y g o 0 0;unfold coS at e2;unfold drZ coZ drS coS;rw[e2];rfl
theorem drZ_hi(F:Nat→Nat)(S:Sc)(M n:Nat)(big clip:Bool)(x y:Nat):(drZ F S M n big clip x y).hi=S.hi:=rfl
def spZ(F:Nat→Nat)(S:Sc)(M n:Nat)(big clip:Bool)(x y k:Nat):Pl:=(mkD F S M n big clip x y 0 0).sp k
theorem drZ_P(F:Nat→Nat)(S:Sc)(M n:Nat)(big clip:Bool)(x y i:Nat):(drZ F S M n big clip x y).P i=if onB M i then wT (S.P i) (spZ F S M n big clip x y (nY M i).length)else S.P i:=rfl
end
section
open Go.RowKit Num
section
variable (F:Nat→Nat) (S:Sc) (m n:Nat) (big clip:Bool) (x y:Nat)
def uTo(j:Nat):Nat→Pl:=fun i=>if i<j∧onB m i=true then wT (S.P i) (spZ F S m n big clip x y (nY m i).length)else S.P i
def zJK(j:Nat):Bool:=(mkD F S m n big clip x y 0 0).coll 0 ((nY m j).map fun i=>S.P i.val)
theorem SS:(∀i,i<4→S.P i=uTo F S m n big clip x y 0 i)∧zJK F S m n big clip x y 0=false:=by
 constructor
 ·intro i hi;unfold uTo;rw[zL zLG]
 ·unfold zJK;rw[uZ];rfl
end
structure Dat(g n:Nat)(F:Nat→Nat)(w:World):Prop where
 lt:g<w.heap.size
 at_:∀j,j<n→w.cell? ⟨g,j,none⟩=some (.int .u8 (F j:Int))
theorem Dat.step{g n:Nat}{F:Nat→Nat}{w w':World}(h:Dat g n F w)(hb:Below w.heap.size w w'):Dat g n F w':=⟨zS h.lt hb.size,fun j hj=>(hb.cell (p:=⟨g,j,none⟩) h.lt).trans (h.at_ j hj)⟩
theorem Dat.otherRow{g n:Nat}{F:Nat→Nat}{w:World}(h:Dat g n F w){b:Nat}(hb:g≠b)(cs:Array Value):Dat g n F (w.setRow b cs):=
 ⟨by have:=h.lt;simpa [World.setRow]using this,fun j hj=>by
  have e:=zU w b g cs hb;have:=h.at_ j hj;unfold World.cell? at*;simp only at*;rw[e];exact this⟩
theorem Dat.all{g n:Nat}{F:Nat→Nat}{w:World}(h:Dat g n F w):yX g 0 F n (some ⟨g,0,none⟩) w:=fun _=>⟨rfl,h.lt,fun j hj=>by rw[qM];exact h.at_ j hj⟩
def cutA(g n fr:Nat):Option Addr:=if n=fr then some ⟨g,0,none⟩else some ⟨g,fr,none⟩
theorem Dat.cut{g n:Nat}{F:Nat→Nat}{w:World}(h:Dat g n F w){fr k:Nat}(hk:fr+k≤n):yX g fr (fun j=>F (fr+j)) k (cutA g n fr) w:=fun h0=>by
 unfold cutA;rw[zL zLG];exact⟨rfl,h.lt,fun j hj=>h.at_ _ zLG⟩
end
end Go.Proofs.YthknmadinmigfaaGreatDoor
