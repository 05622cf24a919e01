/- FrmRec. -/
import Derived.Test.YtbpniahcjbagmaaGreatDoorMk4a
set_option maxRecDepth 400000
set_option maxHeartbeats 64000000
set_option linter.unusedVariables false
set_option linter.unusedSimpArgs false
namespace Go.Proofs.YtbpniahcjbagmaaGreatDoor
section
open Go.RowKit Num Dec Cpu
structure dD where
 P:Nat→Pl
 hi:Bool
 so:Bool
 pat:Nat→Int
 pt:Int
 k:Int
 c:Int
 p:Int
 y:Int
def YX(r:dD)(j:Nat):Value:=if j<512 then .int .u64 (cW (r.P (j/128)) (j%128))else if j=512 then .bool r.hi else if j=513 then .bool r.so else if j<530 then .int .u8 (r.pat (j-514))else if j=530 then .int .u8 r.pt else if j=531 then .int .i64 r.k else if j=532 then .int .i64 r.c else if j=533 then .int .i64 r.p else .int .i64 r.y
def m5(r:dD):Array Value:=yW 535 (YX r)
theorem nJ(r:dD):(m5 r).size=535:=vR
theorem wL(r:dD){j:Nat}(hj:j<535):(m5 r)[j]?=some (YX r j):=wV hj
theorem wY(r:dD):nI (m5 r):=by
 unfold nI m5 yW;rw[qA];intro v hv;simp only[kW,jW,jN]at hv;obtain⟨j,hj,rfl⟩:=hv;unfold YX;repeat' split
 all_goals rfl
theorem uK:nA Tryz.prog 45 535:=⟨⟨_,Tryz.underlying45,rfl⟩,by kernel_rfl⟩
def vE:dD:=⟨fun _ _=>0#128,false,false,fun _=>0,0,0,0,0,0⟩
theorem aQ:m5 vE=(((Array.replicate 512 (Value.int .u64 0))++ #[.bool false,.bool false])++(Array.replicate 17 (Value.int .u8 0)))++ #[.int .i64 0,.int .i64 0,.int .i64 0,.int .i64 0]:=by kernel_rfl
theorem wE:nR Tryz.prog 45 (m5 vE):=by
 unfold nR;rw[nJ,aQ];kernel_rfl
theorem RI:Tryz.prog.built 45 []=some (m5 vE):=by
 rw[aQ];kernel_rfl
theorem A9(r:dD):Tryz.prog.built 45 [(0,.agg (xW r.P)),(1,.bool r.hi),(2,.bool r.so),(3,.agg (pc r.pat)),(4,.int .u8 r.pt),(5,.agg (yH r.k r.c r.p r.y))]=some (m5 r):=by
 kernel_rfl
theorem VO(r:dD):(m5 r).extract 0 (0+512)=xW r.P:=cV (gZ _) zLF fun j hj=>by
 unfold xW YX;rw[zN zLF,qH];simp[hj]
theorem zKK(r:dD):(m5 r).extract 514 (514+16)=pc r.pat:=cV (nX _) zLF fun j hj=>by
 rw[yT _ _ hj];unfold YX;rw[zL zLF,zL zLF,zL zLF,zN zLF,show 514+j-514=j by omega]
theorem zKX(r:dD):(m5 r).extract 531 (531+4)=yH r.k r.c r.p r.y:=cV rfl zLF fun j hj=>by
 rcases(show j=0∨j=1∨j=2∨j=3 by omega)with rfl|rfl|rfl|rfl<;>rfl
theorem xN(d:Nat)(xs:Array Value)(f:Field)(fs:List Field)(v:Value)(w:World)(hf:f.name≠ "_")(hx:(part f.type xs f.offset).run Tryz.prog w=.ok v w)(he:(Op.equalIn (d+1) f.type v v).run Tryz.prog w=.ok true w)
  (hr:(Op.eqFields (d+1) xs xs fs).run Tryz.prog w=.ok true w):(Op.eqFields (d+1) xs xs (f::fs)).run Tryz.prog w=.ok true w:=by
 unfold Op.eqFields;rw[zN hf,zA,hx,Result.andThen_ok,zA,hx,Result.andThen_ok,zA,he,Result.andThen_ok];simp only[Bool.not_true,Bool.false_eq_true,if_false];exact hr
theorem wM(t:TypeId)(td:TypeDesc)(hu:Tryz.prog.underlying t=some td)(hd:(match td with| .struct _| .array _ _=>true|_=>false)=false)(cs:Array Value)(k:Nat)(v:Value)(h:cs[k]?=some v)(w:World):(part t cs k).run Tryz.prog w=.ok v w:=by
 have hagg:(isAgg t).run Tryz.prog w=.ok false w:=by
  unfold isAgg;rw[zA,q9 hu w];cases td<;>simp_all
 simp[part,zA,hagg,h]
end
end Go.Proofs.YtbpniahcjbagmaaGreatDoor
