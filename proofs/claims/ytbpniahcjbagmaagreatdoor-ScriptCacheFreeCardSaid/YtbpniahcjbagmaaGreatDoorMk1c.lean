/- ScrOpen. -/
import Derived.Test.YtbpniahcjbagmaaGreatDoorMk1b
set_option maxRecDepth 400000
set_option maxHeartbeats 64000000
set_option linter.unusedVariables false
set_option linter.unusedSimpArgs false
namespace Go.Proofs.YtbpniahcjbagmaaGreatDoor
section
open Go.RowKit Go.ChangeShapes Go.WideShapes
instance:Inhabited Stp:=⟨⟨0,0,false,0,0,0,false,false,none,0,0⟩⟩
structure Stps(w:World)(A:Option Addr)(n:Nat)(l:List (Stp×List Nat)):Prop where
 len:l.length=n
 max:n≤maxLen
 at_:∀i (h:i<l.length),∃b o,A=some ⟨b,o,none⟩∧b<w.heap.size∧w.rangeAt b (o+i*9) (stc (l[i].1)).toList∧IN l[i].1 l[i].2 w
theorem Stps.step{w w':World}{A:Option Addr}{n:Nat}{l:List (Stp×List Nat)}(h:Stps w A n l)(hb:Below w.heap.size w w'):Stps w' A n l:=
 ⟨h.len,h.max,fun i hi=>by
  obtain⟨b,o,e,lt,r,k⟩:=h.at_ i hi;exact⟨b,o,e,zD lt hb.size,fun j v hv=>(hb.cell (p:=⟨b,o+i*9+j,none⟩) lt).trans (r j v hv),k.step hb⟩⟩
section
variable {P:Program} {ops:Array Oper} {C:World→Prop} {ty:TypeId} {b o n:Nat} {cs:Array Value} {w:World} {Q:Exit→Act→World→Prop}
theorem pL{op:Oper}{ρ:Operand→Value}(A:vZ P ty n)(H:w.rangeAt b o cs.toList)(hn:cs.size=n)(x:Operand)(ho:op.op=.load ty x)(hx:ρ x=.pointer (some ⟨b,o,none⟩)):(execOp ρ op).run P w=.ok (.value (.agg cs)) w:=by
 obtain⟨d,hu,hd⟩:=A.u;have h:=run_loadVar_mid (P:=P) w b o ty cs.toList d H hu hd (by rw[A.i];simp;omega);rw[Array.toArray_toList]at h;unfold execOp;simp only[ho,hx,Instr.loadAt,Instr.sureAddr,zA,Sem.run_pure,Result.andThen_ok,h]
theorem vJ{Q:Act→Prop}{op:Oper}{rest:List Oper}{a:Act}(A:vZ P ty n)(H:∀w,C w→w.rangeAt b o cs.toList)(hn:cs.size=n)(hw:Region.wanted op (yielded ops a.tmps)=true)(x:Operand)(ho:op.op=.load ty x)(hx:a.eval x=.pointer (some ⟨b,o,none⟩))
  (h:wpQuiet P ops C Q rest (a.put op.dst (.agg cs))):wpQuiet P ops C Q (op::rest) a:=
 u7 hw _ (fun w hC=>pL A (H w hC) hn x ho hx) h
theorem pZ{rest:List Oper}{op:Oper}{a:Act}(A:vZ P ty n)(H:w.rangeAt b o cs.toList)(hn:cs.size=n)(hgd:op.guard=none)(x:Operand)(ho:op.op=.load ty x)(hx:a.eval x=.pointer (some ⟨b,o,none⟩))
  (h:wpList P ops Q rest (a.put op.dst (.agg cs)) w):wpList P ops Q (op::rest) a w:=
 qZ hgd fun K hK=>by unfold Oper.wp;rw[pL A H hn x ho hx];exact hK _ _ h
end
section
variable {H:Type} {enc:TypeId×Value→H} {W:World} {r:Reach} {base:Nat}
end
end
end Go.Proofs.YtbpniahcjbagmaaGreatDoor
