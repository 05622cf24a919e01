/- FrmRec. -/
import Derived.Test.YtbpniahcjbagmaaGreatDoorMk4a
set_option maxRecDepth 400000
set_option maxHeartbeats 64000000
set_option linter.unusedVariables false
set_option linter.unusedSimpArgs false
namespace Go.Proofs.YtbpniahcjbagmaaGreatDoor
section
open Go.RowKit Num Dec Cpu
structure cE where
 P:Nat→Pl
 hi:Bool
 so:Bool
 pat:Nat→Int
 pt:Int
 k:Int
 c:Int
 p:Int
 y:Int
def RT(r:cE)(j:Nat):Value:=if j<512 then .int .u64 (xW (r.P (j/128)) (j%128))else if j=512 then .bool r.hi else if j=513 then .bool r.so else if j<530 then .int .u8 (r.pat (j-514))else if j=530 then .int .u8 r.pt else if j=531 then .int .i64 r.k else if j=532 then .int .i64 r.c else if j=533 then .int .i64 r.p else .int .i64 r.y
def nQ(r:cE):Array Value:=uQ 535 (RT r)
theorem mU(r:cE):(nQ r).size=535:=cG
theorem bG(r:cE){j:Nat}(hj:j<535):(nQ r)[j]?=some (RT r j):=rL hj
theorem uW(r:cE):n8 (nQ r):=by
 unfold n8 nQ uQ;rw[qC];intro v hv;simp only[kV,jG,jD]at hv;obtain⟨j,hj,rfl⟩:=hv;unfold RT;repeat' split
 all_goals rfl
theorem vF:vZ Tryz.prog 45 535:=⟨⟨_,Tryz.underlying45,rfl⟩,by kernel_rfl⟩
def vM:cE:=⟨fun _ _=>0#128,false,false,fun _=>0,0,0,0,0,0⟩
theorem eH:nQ vM=(((Array.replicate 512 (Value.int .u64 0))++ #[.bool false,.bool false])++(Array.replicate 17 (Value.int .u8 0)))++ #[.int .i64 0,.int .i64 0,.int .i64 0,.int .i64 0]:=by kernel_rfl
theorem wL:nH Tryz.prog 45 (nQ vM):=by
 unfold nH;rw[mU,eH];kernel_rfl
theorem SY:Tryz.prog.built 45 []=some (nQ vM):=by
 rw[eH];kernel_rfl
theorem zQ2(r:cE):Tryz.prog.built 45 [(0,.agg (cY r.P)),(1,.bool r.hi),(2,.bool r.so),(3,.agg (pc r.pat)),(4,.int .u8 r.pt),(5,.agg (xN r.k r.c r.p r.y))]=some (nQ r):=by
 kernel_rfl
theorem oR(r:cE):(nQ r).extract 0 (0+512)=cY r.P:=xK (tZ _) zGX fun j hj=>by
 unfold cY RT;rw[zN zGX,qL];simp[hj]
theorem zYO(r:cE):(nQ r).extract 514 (514+16)=pc r.pat:=xK (nF _) zGX fun j hj=>by
 rw[uL _ _ hj];unfold RT;rw[zL zGX,zL zGX,zL zGX,zN zGX,show 514+j-514=j by omega]
theorem M9(r:cE):(nQ r).extract 531 (531+4)=xN r.k r.c r.p r.y:=xK rfl zGX fun j hj=>by
 rcases(show j=0∨j=1∨j=2∨j=3 by omega)with rfl|rfl|rfl|rfl<;>rfl
theorem yK(d:Nat)(xs:Array Value)(f:Field)(fs:List Field)(v:Value)(w:World)(hf:f.name≠ "_")(hx:(part f.type xs f.offset).run Tryz.prog w=.ok v w)(he:(Op.equalIn (d+1) f.type v v).run Tryz.prog w=.ok true w)
  (hr:(Op.eqFields (d+1) xs xs fs).run Tryz.prog w=.ok true w):(Op.eqFields (d+1) xs xs (f::fs)).run Tryz.prog w=.ok true w:=by
 unfold Op.eqFields;rw[zN hf,zA,hx,Result.andThen_ok,zA,hx,Result.andThen_ok,zA,he,Result.andThen_ok];simp only[Bool.not_true,Bool.false_eq_true,if_false];exact hr
theorem rN(t:TypeId)(td:TypeDesc)(hu:Tryz.prog.underlying t=some td)(hd:(match td with| .struct _| .array _ _=>true|_=>false)=false)(cs:Array Value)(k:Nat)(v:Value)(h:cs[k]?=some v)(w:World):(part t cs k).run Tryz.prog w=.ok v w:=by
 have hagg:(isAgg t).run Tryz.prog w=.ok false w:=by
  unfold isAgg;rw[zA,jV hu w];cases td<;>simp_all
 simp[part,zA,hagg,h]
end
end Go.Proofs.YtbpniahcjbagmaaGreatDoor
