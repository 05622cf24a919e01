/- CpuM9. -/
import Derived.Test.YtbpniahcjbagmaaGreatDoorMk2b
set_option maxRecDepth 400000
set_option maxHeartbeats 64000000
set_option linter.unusedVariables false
set_option linter.unusedSimpArgs false
namespace Go.Proofs.YtbpniahcjbagmaaGreatDoor
section
open Go.RowKit Num Dec Cpu
section
variable {P:Program} {ops:Array Oper} {Q:Exit→Act→List Frame→World→Prop} {cs cs':List Frame}
theorem tO(hno:¬LetsOut (fun e a w=>Q e a cs w)):∀(l:List Nat) (a:Act) (w:World),wpList P ops (fun e a w=>Q e a cs w) (lW ops l) a w→wpOpsS P ops Q l a cs w
 |[],a,w,h=>h
 |i::rest,a,w,h=>by
  unfold wpOpsS;cases ho:ops[i]? with
  |none=>simp only[lW,ho]at h;exact tO hno rest a w h
  |some o=>
   simp only[lW,ho,wpList]at h
   simp only
   by_cases hw:Region.wanted o (yielded ops a.tmps)=true
   ·rw[zN hw]at h⊢
    rcases h with h|h
    ·have h:=Oper.wp_mono (K':=fun a' w'=>wpOpsS P ops Q rest a' cs w') (fun a' w' h=>tO hno rest a' w' h) h
     unfold Oper.wp at h
     generalize (execOp a.eval o).run P w=r at h⊢
     split
     ·exact absurd h (by simp[Oper.upon])
     ·exact h
    ·exact absurd h.2 hno
   ·rw[zL hw]at h⊢
    exact tO hno rest _ w h
theorem NR{i:Nat}{rest:List Nat}{o:Oper}{a:Act}{w:World}{v:Value}(ho:ops[i]?=some o)(hop:o.op=.call {callee:=.builtin .recover,args:=#[],argTypes:=#[]})(hw:Region.wanted o (yielded ops a.tmps)=true)(hr:recoverD cs=some (v,cs'))
  (h:wpOpsS P ops Q rest (a.put o.dst v) cs' w):wpOpsS P ops Q (i::rest) a cs w:=by
 exact zRW
theorem U5{i:Nat}{rest:List Nat}{o:Oper}{a:Act}{w:World}(ho:ops[i]?=some o)(hop:o.op=.call {callee:=.builtin .recover,args:=#[],argTypes:=#[]})(hw:Region.wanted o (yielded ops a.tmps)=true)(hr:recoverD cs=none)
  (h:wpOpsS P ops Q rest (a.put o.dst .nilIface) cs w):wpOpsS P ops Q (i::rest) a cs w:=by
 exact zRW
end
theorem IW:vZ Tryz.prog 192 1:=⟨⟨_,Tryz.underlying192,rfl⟩,by kernel_rfl⟩
theorem YK:nH Tryz.prog 192 #[.int .i64 0]:=by unfold nH;kernel_rfl
theorem PN(v:Value)(w:World):(Instr.typeAssert (.iface 192 v) 20 192 true).run Tryz.prog w=.ok (.tuple #[v,.bool true]) w:=by kernel_rfl
theorem PH(w:World):(Instr.typeAssert .nilIface 20 192 true).run Tryz.prog w=.ok (.tuple #[.agg #[.int .i64 0],.bool false]) w:=by kernel_rfl
theorem zV3(c:Int):Tryz.prog.built 133 [(0,.int .i64 c)]=some (efc ⟨c,false,false,false⟩):=by kernel_rfl
def XM(c:Int)(older:List PanicEntry):FrameMode:=.panicking ({v:=.iface 192 (.agg #[.int .i64 c]),recovered:=true}::older)
theorem zYI{c₀:Frame}{cs:List Frame}{c:Int}(hu:c₀.mode=.panicking (pan c)):recoverD (c₀::cs)=some (.iface 192 (.agg #[.int .i64 c]),{c₀ with mode:=XM c []}::cs):=by simp[recoverD,hu,pan,XM]
theorem rec_no{c₀:Frame}{cs:List Frame}(hu:c₀.mode=.returning):recoverD (c₀::cs)=none:=by simp[recoverD,hu]
theorem zN0(ge:Nat)(c:Int)(f0:Ef)(w:World)(he:Blk ge 133 (efc f0) w):
  CallsD Tryz.prog 78 #[.pointer (some ⟨ge,0,none⟩)] (.panicking (pan c)) w fun e u' w'=>e=.returned (.tuple #[])∧u'=XM c []∧Blk ge 133 (efc ⟨c,false,false,false⟩) w'∧lS (fun k=>k=ge) w w':=by
 refine callsD_of_wpS Tryz.func78 rfl fun c₀ cs hu=>?_;have E:=zW he;have hay:=fun w=>PN (.agg #[.int .i64 c]) w;have hr:=zYI (cs:=cs) hu;simp only[Tryz.ntmps78,jN,List.length_cons,List.length_nil,Nat.reduceAdd,Nat.reduceSub,jY,Array.replicate_zero,jR,jL,List.nil_append,List.cons_append];apply wpS_seq
 apply wpS_region
 show wpOpsS _ _ _ [0,1,2,3,4,5,6,7] _ _ _
 refine NR zGY zGM zGM hr ?_;refine tO (fun h=>?_) _ _ _ ?_
 ·obtain⟨a,w,h⟩:=h;obtain⟨u,h⟩:=h;exact absurd h.1 zGN
 simp only[lW,zX,zK,zV,Act.put,zQ,zZ,zJ];iterate 12 go_step
 refine lO (ds:=#[.int .i64 c]) IW YK rfl rfl (by simp[n8,Value.oneCell']) rfl rfl rfl (.tmp 1) (.tmp 6) rfl zGK zGK ?_;simp only[Act.put,zQ,zZ,zJ];have F:=Blk.new w 192 #[.int .i64 c];have B:=zW (lV w (.cells #[.int .i64 c] 192));have E:=zW (E.out.step B.out);have NE:=zW (show ge<w.heap.size from he.lt);obtain⟨gf,hgf⟩:∃gf,w.heap.size=gf:=⟨_,rfl⟩;rw[hgf]at F NE⊢;clear hgf hu hay hr;generalize World.alloc w _=w1 at*;have c1:w1.cell? ⟨gf,0,none⟩=some (.int .i64 c):=(F.cell 0).trans rfl;iterate 4 go_step
 show Code.wpS _ _ _ _ _ _;refine wpS_of_wp ?_;go_upto_region 2 with fail;refine zH ?_;iterate 6 go_step
 refine lC rfl rfl (by simpa [Act.eval]using zV3 c) ?_;simp only[Act.put,zQ,zZ,zJ];refine lM (ds:=efc ⟨c,false,false,false⟩) fO E.out rfl rfl (pM _) rfl (.tmp 0) (.tmp 11) rfl zGK zGK ?_;simp only[Act.put,zQ,zZ,zJ];have E2:=zW (E.out.store (efc ⟨c,false,false,false⟩));have K:=zW (show lS (fun k=>k=ge) w (w1.setRow ge (efc ⟨c,false,false,false⟩))from(lS.of_below B.out).trans (xR (O:=fun k=>k=ge) rfl) vK.refl);generalize World.setRow w1 ge _=w2 at E2 K⊢;clear c1;go_wp2_with fail;exact⟨rfl,XM c [],rfl,_,results_none rfl _ _ _,rfl,rfl,E2.out,K.out⟩
theorem XN(ge:Nat)(w:World):
  CallsD Tryz.prog 78 #[.pointer (some ⟨ge,0,none⟩)] .returning w fun e u' w'=>e=.returned (.tuple #[])∧u'=.returning∧Below w.heap.size w w':=by
 refine callsD_of_wpS Tryz.func78 rfl fun c₀ cs hu=>?_;have hay:=PH;have hr:=rec_no (cs:=cs) hu;have HU:=zW hu;simp only[Tryz.ntmps78,jN,List.length_cons,List.length_nil,Nat.reduceAdd,Nat.reduceSub,jY,Array.replicate_zero,jR,jL,List.nil_append,List.cons_append];apply wpS_seq
 apply wpS_region
 show wpOpsS _ _ _ [0,1,2,3,4,5,6,7] _ _ _
 refine U5 zGY zGM zGM hr ?_;refine tO (fun h=>?_) _ _ _ ?_
 ·obtain⟨a,w,h⟩:=h;obtain⟨u,h⟩:=h;exact absurd h.1 zGN
 simp only[lW,zX,zK,zV,Act.put,zQ,zZ,zJ];iterate 12 go_step
 refine lO (ds:=#[.int .i64 0]) IW YK rfl rfl (by simp[n8,Value.oneCell']) rfl rfl rfl (.tmp 1) (.tmp 6) rfl zGK zGK ?_;simp only[Act.put,zQ,zZ,zJ];have B:=zW (lV w (.cells #[.int .i64 0] 192));clear hu hay hr;generalize World.alloc w _=w1 at*;iterate 4 go_step
 show Code.wpS _ _ _ _ _ _;refine wpS_of_wp ?_;go_wp2_with fail;exact⟨rfl,.returning,by have h:=HU.out;cases c₀;simp at h⊢;exact h,_,results_none rfl _ _ _,rfl,rfl,B.out⟩
end
end Go.Proofs.YtbpniahcjbagmaaGreatDoor
