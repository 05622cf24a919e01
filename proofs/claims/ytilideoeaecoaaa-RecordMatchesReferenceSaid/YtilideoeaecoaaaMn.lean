/- Short names for lemmas of lists, and scripts that stand more than once. -/
import Derived.WalkKit
import Derived.BigQuiet
import Derived.Deep.QuietTactic
import Derived.Lib.Hide
import Derived.Below
import Derived.Laws.OwnMore
import Derived.Deep.AppendLies
import Derived.OrdersHeld
import Derived.Handy
import Derived.Deep.MidRow
import Derived.Laws.CopyRow
import Derived.WalkSpells
import Derived.IntWalk
import Derived.Laws.MakeOwn
import Derived.Laws.Tables
import Derived.Laws.StructEq
import Derived.KernelRfl
import Derived.Deep.WholeRow
import Derived.Deep.Cut
import Derived.Deep.CutRange
import Derived.Laws.CopyOwn
import Derived.StillTailTactics
import Derived.Deep.RegionWith
import Derived.ChangeSlices
import Derived.Deep.SlicePairs
import Derived.Carry
import Derived.ChangeOld
import Derived.OpenShut
import Derived.ShutString
import Derived.Maps.AppendAt
import Derived.Deep.OwnRows
import Derived.RangeFuncBox
import Derived.Outline
import Derived.Laws.BitsLemmas
import Derived.Laws.Append
import Derived.Lib.SlBytesConst
import Derived.Laws.BytesArg
import Derived.OwnWalk
import Derived.Laws.AppendOwn
import Derived.Lib.MinMax
import Derived.Deep.Draws
import Derived.Deep.RegionLaw
import Derived.Shelf.Abstract
import Derived.ProofKit
set_option linter.unusedVariables false
namespace Go.Proofs.Ytilideoeaecoaaa
theorem zQ {α : Type _} (l : List α) (i : Nat) (a : α) : l.toArray.setIfInBounds i a = (l.set i a).toArray := List.setIfInBounds_toArray l i a
theorem zZ {α : Type _} {x : α} {xs : List α} {a : α} : (x :: xs).set 0 a = a :: xs := rfl
theorem zJ {α : Type _} {x : α} {xs : List α} {i : Nat} {a : α} : (x :: xs).set (i + 1) a = x :: xs.set i a := rfl
theorem zX {α : Type _} {xs : List α} {i : Nat} : xs.toArray[i]? = xs[i]? := List.getElem?_toArray
theorem zK {α : Type _} {a : α} {i : Nat} {l : List α} : (a :: l)[i + 1]? = l[i]? := rfl
theorem zV {α : Type _} {a : α} {l : List α} : (a :: l)[0]? = some a := rfl
theorem zW {p : Prop} (h : p) : RowKit.Hid p := Lib.hid h
theorem zY:type_of% @if_neg:=@if_neg
theorem zL:type_of% @if_pos:=@if_pos
theorem zM:type_of% @List.length_append:=@List.length_append
theorem zN:type_of% @Go.wp_region_lit:=@Go.wp_region_lit
theorem zH:type_of% @Go.Sem.run_bind:=@Go.Sem.run_bind
theorem zG:type_of% @Nat.lt_of_lt_of_le:=@Nat.lt_of_lt_of_le
theorem zB:type_of% @List.append_assoc:=@List.append_assoc
theorem zR:type_of% @Bool.and_eq_true:=@Bool.and_eq_true
theorem zT:type_of% @Nat.le_trans:=@Nat.le_trans
theorem zD:type_of% @Nat.zero_le:=@Nat.zero_le
theorem zF:type_of% @Go.wpQuiet_nil:=@Go.wpQuiet_nil
theorem zS:type_of% @Go.IntKind.wrap_i64:=@Go.IntKind.wrap_i64
theorem zP:type_of% @Nat.le_refl:=@Nat.le_refl
theorem zE:type_of% @decide_eq_true_eq:=@decide_eq_true_eq
theorem zC:type_of% @And.intro:=@And.intro
theorem zA:type_of% @Go.RowKit.Below.refl:=@Go.RowKit.Below.refl
theorem zU:type_of% @decide_eq_true:=@decide_eq_true
theorem zI:type_of% @Go.wpList_plain:=@Go.wpList_plain
theorem zO:type_of% @Array.getElem?_eq_none:=@Array.getElem?_eq_none
theorem z0:type_of% @decide_eq_false:=@decide_eq_false
theorem z3:type_of% @List.getElem?_eq_none:=@List.getElem?_eq_none
theorem z4:type_of% @List.all_eq_true:=@List.all_eq_true
theorem z5:type_of% @List.append_nil:=@List.append_nil
theorem z6:type_of% @List.length_map:=@List.length_map
theorem z7:type_of% @Go.run_underlying:=@Go.run_underlying
theorem z8:type_of% @List.getElem?_eq_getElem:=@List.getElem?_eq_getElem
theorem z9:type_of% @List.mem_range:=@List.mem_range
theorem qQ:type_of% @Go.IntKind.wrap_u8:=@Go.IntKind.wrap_u8
theorem qZ:type_of% @List.getElem?_append_right:=@List.getElem?_append_right
theorem qJ:type_of% @List.getElem?_map:=@List.getElem?_map
theorem qX:type_of% @List.getElem?_append_left:=@List.getElem?_append_left
theorem qK:type_of% @Array.getElem?_eq_some_iff:=@Array.getElem?_eq_some_iff
theorem qV:type_of% @Nat.le_of_lt:=@Nat.le_of_lt
theorem qW:type_of% @Go.World.cell?_setCell_other:=@Go.World.cell?_setCell_other
theorem qY:type_of% @List.mem_range'_1:=@List.mem_range'_1
theorem qL:type_of% @Nat.zero_add:=@Nat.zero_add
theorem qM:type_of% @Array.ext_getElem?:=@Array.ext_getElem?
theorem qN:type_of% @Array.all_eq_true_iff_forall_mem:=@Array.all_eq_true_iff_forall_mem
theorem qH:type_of% @List.length_take:=@List.length_take
theorem qG:type_of% @Go.DataW.trod_int:=@Go.DataW.trod_int
theorem qB:type_of% @List.eq_nil_of_length_eq_zero:=@List.eq_nil_of_length_eq_zero
theorem qR:type_of% @Nat.mod_eq_of_lt:=@Nat.mod_eq_of_lt
theorem qT:type_of% @Nat.add_assoc:=@Nat.add_assoc
theorem qD:type_of% @List.map_append:=@List.map_append
theorem qF:type_of% @Go.results_cell_row:=@Go.results_cell_row
theorem qS:type_of% @of_decide_eq_true:=@of_decide_eq_true
theorem qP:type_of% @Go.heap_alloc_new:=@Go.heap_alloc_new
theorem qE:type_of% @List.take_of_length_le:=@List.take_of_length_le
theorem qC:type_of% @List.ext_getElem?:=@List.ext_getElem?
theorem qA:type_of% @List.getElem?_eq_some_iff:=@List.getElem?_eq_some_iff
theorem qU:type_of% @Go.bodyPost_ret:=@Go.bodyPost_ret
theorem qI:type_of% @Nat.mod_lt:=@Nat.mod_lt
theorem qO:type_of% @Go.cell_of_row:=@Go.cell_of_row
theorem jQ:type_of% @Array.getElem?_extract:=@Array.getElem?_extract
theorem jZ:type_of% @Array.getElem?_setIfInBounds:=@Array.getElem?_setIfInBounds
theorem jJ:type_of% @Array.getElem?_toList:=@Array.getElem?_toList
theorem jX:type_of% @List.mem_map:=@List.mem_map
theorem jK:type_of% @Nat.le_of_eq:=@Nat.le_of_eq
theorem jV:type_of% @List.getElem_mem:=@List.getElem_mem
theorem jW:type_of% @Prod.mk.injEq:=@Prod.mk.injEq
theorem jY:type_of% @List.getD_eq_getElem?_getD:=@List.getD_eq_getElem?_getD
theorem jL:type_of% @Go.setRow_other:=@Go.setRow_other
theorem jM:type_of% @Go.RowKit.Below.heap_setCell:=@Go.RowKit.Below.heap_setCell
theorem jN:type_of% @Option.some.injEq:=@Option.some.injEq
theorem jH:type_of% @Go.World.ownsRow_nil:=@Go.World.ownsRow_nil
theorem jG:type_of% @Go.World.cell?_of_block:=@Go.World.cell?_of_block
theorem jB:type_of% @Go.info_parts:=@Go.info_parts
theorem jR:type_of% @List.getElem?_drop:=@List.getElem?_drop
theorem jT:type_of% @Go.DataW.trod_bool:=@Go.DataW.trod_bool
theorem jD:type_of% @List.getElem_take:=@List.getElem_take
theorem jF:type_of% @List.size_toArray:=@List.size_toArray
theorem jS:type_of% @Nat.lt_or_ge:=@Nat.lt_or_ge
theorem jP:type_of% @List.length_drop:=@List.length_drop
theorem jE:type_of% @List.not_mem_nil:=@List.not_mem_nil
theorem jC:type_of% @Option.map_eq_some_iff:=@Option.map_eq_some_iff
theorem oB{P:Prop}(h:P:=by omega):P:=h
theorem oR{P:Prop}(h:P:=by decide):P:=h
theorem oT{P:Prop}(h:P:=by kernel_rfl):P:=h
theorem oD{P:Prop}(h:P:=by simp[Act.eval]):P:=h
theorem oF{P:Prop}(h:P:=by rfl):P:=h
theorem oS{P:Prop}(h:P:=by have:=G3.out;omega):P:=h
theorem oP{P:Prop}(h:P:=by simp):P:=h
theorem oE{P:Prop}(h:P:=by unfold maxLen;omega):P:=h
theorem oC{P:Prop}(h:P:=by have:=GB.out;have:=G2.out;omega):P:=h
theorem oA{P:Prop}(h:P:=by simp;omega):P:=h
theorem oU{P:Prop}(h:P:=by rw[World.cell?_alloc_at _ _ _ _ rfl];rfl):P:=h
theorem oI{P:Prop}(h:P:=by simpa [hq]using hi):P:=h
theorem oO{P:Prop}(h:P:=by simp only[zX,zK,zV];rfl):P:=h
theorem o0{P:Prop}(h:P:=by rintro rfl;simp at hk):P:=h
theorem o3{P:Prop}(h:P:=by rw[j1];omega):P:=h
theorem o4{P:Prop}(h:P:=by rw[←hx]):P:=h
theorem o5{P:Prop}(h:P:=by
 refine⟨by simpa using H.lt,fun j hj=>?_,fun j hj=>by rw[World.frozen?_setCell];exact H.fz j hj⟩
 by_cases e:j=k
 ·subst e;rw[zL rfl];exact World.cell?_setCell_same w (a:=⟨g,j,none⟩) _ (H.at_ j hj)
 ·rw[zY e,qW _ _ _ _ (by simp[Ne.symm e])];exact H.at_ j hj):P:=h
theorem o7{P:Prop}(h:P:=by
 intro l;induction l with
 |nil=>intro a h;exact hK a h
 |cons o l ih=>
  intro a h
  simp only[wpQuiet]at h⊢
  split
  ·rename_i hw;simp only[hw,if_true]at h;exact Oper.quiet_mono (fun a h=>ih a h) h
  ·rename_i hw;simp only[hw]at h;exact ih _ h):P:=h
theorem o8{P:Prop}(h:P:=by unfold Oper.wp execOp;simp only[ho,resolve,invoke,builtin,zH,Sem.run_pure,Result.andThen_ok,List.map_toArray,List.map_cons,List.map_nil,hs,hx,hrun];exact hK _ _ (h A' n' c' w' h2)):P:=h
theorem o9{P:Prop}(h:P:=by unfold Oper.wp execOp;simp only[ho,resolve,invoke,builtin,zH,Sem.run_pure,Result.andThen_ok,List.map_toArray,List.map_cons,List.map_nil,hs,hx,hrun];exact hk):P:=h
theorem ZQ{P:Prop}(h:P:=by rcases(show j=0∨j=1∨j=2∨j=3 by omega)with rfl|rfl|rfl|rfl<;>rfl):P:=h
theorem ZJ{P:Prop}(h:P:=by
 conv=>lhs;rw[←t5 r]
 rw[BitVec.toNat_append,←Nat.shiftLeft_add_eq_or_of_lt (lo r).isLt,Nat.shiftLeft_eq]):P:=h
theorem ZX{P:Prop}(h:P:=by
 rcases h2.2 with⟨e,e2⟩|⟨g,cap,cur,e,_⟩
 ·exact⟨none,0,by rw[e,e2]⟩
 ·exact⟨_,_,e⟩):P:=h
end Go.Proofs.Ytilideoeaecoaaa
