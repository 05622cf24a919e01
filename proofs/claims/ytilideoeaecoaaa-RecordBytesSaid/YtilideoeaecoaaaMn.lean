/- Short names for lemmas of lists, and scripts that stand more than once. -/
import Derived.WalkKit
import Derived.BigQuiet
import Derived.Deep.QuietTactic
import Derived.Lib.Hide
import Derived.Below
import Derived.Laws.OwnMore
import Derived.Deep.AppendLies
import Derived.OrdersHeld
import Derived.Handy
import Derived.Deep.MidRow
import Derived.Laws.CopyRow
import Derived.WalkSpells
import Derived.IntWalk
import Derived.Laws.MakeOwn
import Derived.Laws.Tables
import Derived.Laws.StructEq
import Derived.KernelRfl
import Derived.Deep.WholeRow
import Derived.Deep.Cut
import Derived.Deep.CutRange
import Derived.Laws.CopyOwn
import Derived.StillTailTactics
import Derived.Deep.RegionWith
import Derived.ChangeSlices
import Derived.Deep.SlicePairs
import Derived.Carry
import Derived.ChangeOld
import Derived.OpenShut
import Derived.ShutString
import Derived.Maps.AppendAt
import Derived.Deep.OwnRows
import Derived.RangeFuncBox
import Derived.Outline
import Derived.Laws.BitsLemmas
import Derived.Laws.Append
import Derived.Lib.SlBytesConst
import Derived.Laws.BytesArg
import Derived.OwnWalk
import Derived.Laws.AppendOwn
import Derived.Lib.MinMax
import Derived.Deep.Draws
import Derived.ProofKit
import Derived.Deep.RegionLaw
import Derived.Shelf.Abstract
set_option linter.unusedVariables false
namespace Go.Proofs.Ytilideoeaecoaaa
theorem zQ {α : Type _} (l : List α) (i : Nat) (a : α) : l.toArray.setIfInBounds i a = (l.set i a).toArray := List.setIfInBounds_toArray l i a
theorem zZ {α : Type _} {x : α} {xs : List α} {a : α} : (x :: xs).set 0 a = a :: xs := rfl
theorem zJ {α : Type _} {x : α} {xs : List α} {i : Nat} {a : α} : (x :: xs).set (i + 1) a = x :: xs.set i a := rfl
theorem zX {α : Type _} {xs : List α} {i : Nat} : xs.toArray[i]? = xs[i]? := List.getElem?_toArray
theorem zK {α : Type _} {a : α} {i : Nat} {l : List α} : (a :: l)[i + 1]? = l[i]? := rfl
theorem zV {α : Type _} {a : α} {l : List α} : (a :: l)[0]? = some a := rfl
theorem zW {p : Prop} (h : p) : RowKit.Hid p := Lib.hid h
theorem zY:type_of% @if_neg:=@if_neg
theorem zL:type_of% @if_pos:=@if_pos
theorem zM:type_of% @List.length_append:=@List.length_append
theorem zN:type_of% @Go.wp_region_lit:=@Go.wp_region_lit
theorem zH:type_of% @Go.Sem.run_bind:=@Go.Sem.run_bind
theorem zG:type_of% @Nat.lt_of_lt_of_le:=@Nat.lt_of_lt_of_le
theorem zB:type_of% @List.append_assoc:=@List.append_assoc
theorem zR:type_of% @Bool.and_eq_true:=@Bool.and_eq_true
theorem zT:type_of% @Nat.le_refl:=@Nat.le_refl
theorem zD:type_of% @And.intro:=@And.intro
theorem zF:type_of% @Nat.zero_le:=@Nat.zero_le
theorem zS:type_of% @decide_eq_true_eq:=@decide_eq_true_eq
theorem zP:type_of% @decide_eq_true:=@decide_eq_true
theorem zE:type_of% @Nat.le_trans:=@Nat.le_trans
theorem zC:type_of% @Go.IntKind.wrap_i64:=@Go.IntKind.wrap_i64
theorem zA:type_of% @List.append_nil:=@List.append_nil
theorem zU:type_of% @Go.RowKit.Below.refl:=@Go.RowKit.Below.refl
theorem zI:type_of% @Nat.zero_add:=@Nat.zero_add
theorem zO:type_of% @Go.wpList_plain:=@Go.wpList_plain
theorem z3:type_of% @List.length_take:=@List.length_take
theorem z4:type_of% @Array.getElem?_eq_none:=@Array.getElem?_eq_none
theorem z5:type_of% @decide_eq_false:=@decide_eq_false
theorem z6:type_of% @List.all_eq_true:=@List.all_eq_true
theorem z7:type_of% @Go.wpQuiet_nil:=@Go.wpQuiet_nil
theorem z8:type_of% @List.getElem?_eq_getElem:=@List.getElem?_eq_getElem
theorem z9:type_of% @Go.run_underlying:=@Go.run_underlying
theorem qQ:type_of% @of_decide_eq_true:=@of_decide_eq_true
theorem qZ:type_of% @List.mem_range:=@List.mem_range
theorem qJ:type_of% @List.length_map:=@List.length_map
theorem qX:type_of% @List.getElem?_append_right:=@List.getElem?_append_right
theorem qK:type_of% @List.getElem?_append_left:=@List.getElem?_append_left
theorem qV:type_of% @Go.World.cell?_setCell_other:=@Go.World.cell?_setCell_other
theorem qW:type_of% @List.mem_range'_1:=@List.mem_range'_1
theorem qY:type_of% @List.getElem?_eq_none:=@List.getElem?_eq_none
theorem qL:type_of% @Nat.le_of_lt:=@Nat.le_of_lt
theorem qM:type_of% @Array.ext_getElem?:=@Array.ext_getElem?
theorem qN:type_of% @Nat.add_assoc:=@Nat.add_assoc
theorem qH:type_of% @Array.getElem?_eq_some_iff:=@Array.getElem?_eq_some_iff
theorem qG:type_of% @Go.DataW.trod_int:=@Go.DataW.trod_int
theorem qB:type_of% @Array.getElem?_toList:=@Array.getElem?_toList
theorem qR:type_of% @Nat.mod_eq_of_lt:=@Nat.mod_eq_of_lt
theorem qT:type_of% @List.getElem?_map:=@List.getElem?_map
theorem qD:type_of% @Array.all_eq_true_iff_forall_mem:=@Array.all_eq_true_iff_forall_mem
theorem qF:type_of% @Go.results_cell_row:=@Go.results_cell_row
theorem qS:type_of% @Go.IntKind.wrap_u8:=@Go.IntKind.wrap_u8
theorem qP:type_of% @Go.trodAll_cons_mk:=@Go.trodAll_cons_mk
theorem qE:type_of% @List.getD_eq_getElem?_getD:=@List.getD_eq_getElem?_getD
theorem qC:type_of% @List.getElem_take:=@List.getElem_take
theorem qA:type_of% @Nat.mod_lt:=@Nat.mod_lt
theorem qU:type_of% @List.getElem?_eq_some_iff:=@List.getElem?_eq_some_iff
theorem qI:type_of% @Go.heap_alloc_new:=@Go.heap_alloc_new
theorem qO:type_of% @Go.bodyPost_ret:=@Go.bodyPost_ret
theorem jQ:type_of% @Go.OpenClaim.holds_of_wide:=@Go.OpenClaim.holds_of_wide
theorem jZ:type_of% @Int.eq_ofNat_of_zero_le:=@Int.eq_ofNat_of_zero_le
theorem jJ:type_of% @Array.getElem?_extract:=@Array.getElem?_extract
theorem jX:type_of% @List.eq_nil_of_length_eq_zero:=@List.eq_nil_of_length_eq_zero
theorem jK:type_of% @Array.getElem?_setIfInBounds:=@Array.getElem?_setIfInBounds
theorem jV:type_of% @List.mem_map:=@List.mem_map
theorem jW:type_of% @Go.cell_of_row:=@Go.cell_of_row
theorem jY:type_of% @List.map_append:=@List.map_append
theorem jL:type_of% @Go.setRow_other:=@Go.setRow_other
theorem jM:type_of% @Go.RowKit.Below.heap_setCell:=@Go.RowKit.Below.heap_setCell
theorem jN:type_of% @Option.some.injEq:=@Option.some.injEq
theorem jH:type_of% @Go.World.ownsRow_nil:=@Go.World.ownsRow_nil
theorem jG:type_of% @List.take_of_length_le:=@List.take_of_length_le
theorem jB:type_of% @Prod.mk.injEq:=@Prod.mk.injEq
theorem jR:type_of% @List.getElem_mem:=@List.getElem_mem
theorem jT:type_of% @Go.World.cell?_of_block:=@Go.World.cell?_of_block
theorem jD:type_of% @List.getElem?_drop:=@List.getElem?_drop
theorem jF:type_of% @Go.DataW.trod_bool:=@Go.DataW.trod_bool
theorem jS:type_of% @List.size_toArray:=@List.size_toArray
theorem jP:type_of% @List.ext_getElem?:=@List.ext_getElem?
theorem jE:type_of% @List.length_drop:=@List.length_drop
theorem jC:type_of% @Nat.le_of_eq:=@Nat.le_of_eq
theorem jA:type_of% @List.not_mem_nil:=@List.not_mem_nil
theorem jU:type_of% @Go.World.block_lt_of_cell?:=@Go.World.block_lt_of_cell?
theorem jI:type_of% @Option.map_eq_some_iff:=@Option.map_eq_some_iff
theorem jO:type_of% @Nat.lt_or_ge:=@Nat.lt_or_ge
theorem oD{P:Prop}(h:P:=by omega):P:=h
theorem oF{P:Prop}(h:P:=by decide):P:=h
theorem oS{P:Prop}(h:P:=by kernel_rfl):P:=h
theorem oP{P:Prop}(h:P:=by simp[Act.eval]):P:=h
theorem oE{P:Prop}(h:P:=by have:=MN.out;omega):P:=h
theorem oC{P:Prop}(h:P:=by simp):P:=h
theorem oA{P:Prop}(h:P:=by rfl):P:=h
theorem oU{P:Prop}(h:P:=by unfold maxLen;omega):P:=h
theorem oI{P:Prop}(h:P:=by have:=G3.out;omega):P:=h
theorem oO{P:Prop}(h:P:=by have:=D9.out;omega):P:=h
theorem o0{P:Prop}(h:P:=by rintro e w' ⟨x,rfl,hx,hb⟩;rw[yR hx];exact⟨rfl,hb⟩):P:=h
theorem o3{P:Prop}(h:P:=by have:=GB.out;have:=G2.out;omega):P:=h
theorem o4{P:Prop}(h:P:=by rintro e w' ⟨x,rfl,hx,hb⟩;rw[gA TT.out.lenL TT.out.lt hx];exact⟨rfl,hb⟩):P:=h
theorem o5{P:Prop}(h:P:=by rintro e w' ⟨x,rfl,hx,hb⟩;rw[rD TT.out.lenL TT.out.lt hx];exact⟨rfl,hb⟩):P:=h
theorem o7{P:Prop}(h:P:=by rintro e w' ⟨x,rfl,hx,hb⟩;rw[TT.out.ab hx];exact⟨rfl,hb⟩):P:=h
theorem o8{P:Prop}(h:P:=by rintro e w' ⟨x,rfl,hx,hb⟩;rw[TT.out.ba hx];exact⟨rfl,hb⟩):P:=h
theorem o9{P:Prop}(h:P:=by rw[World.cell?_alloc_at _ _ _ _ rfl];rfl):P:=h
theorem ZQ{P:Prop}(h:P:=by simp;omega):P:=h
theorem ZJ{P:Prop}(h:P:=by simpa [hq]using hi):P:=h
theorem ZX{P:Prop}(h:P:=by simp only[zX,zK,zV];rfl):P:=h
theorem ZK{P:Prop}(h:P:=by have:=TT.out.lt;omega):P:=h
theorem ZV{P:Prop}(h:P:=by rintro rfl;simp at hk):P:=h
theorem ZW{P:Prop}(h:P:=by rw[j5];omega):P:=h
theorem ZY{P:Prop}(h:P:=by rw[←hx]):P:=h
theorem ZL{P:Prop}(h:P:=by go_wp2_with fail;refine(nT _).mono ?_;rintro e w2 ⟨rfl,hb⟩;have BB:=zW (BB.out.trans (hb.mono BB.out.size));clear hb;go_wp2_with fail;go_ret;exact⟨rfl,BB.out⟩):P:=h
theorem ZM{P:Prop}(h:P:=by
 refine⟨by simpa using H.lt,fun j hj=>?_,fun j hj=>by rw[World.frozen?_setCell];exact H.fz j hj⟩
 by_cases e:j=k
 ·subst e;rw[zL rfl];exact World.cell?_setCell_same w (a:=⟨g,j,none⟩) _ (H.at_ j hj)
 ·rw[zY e,qV _ _ _ _ (by simp[Ne.symm e])];exact H.at_ j hj):P:=h
theorem ZN{P:Prop}(h:P:=by
 have hh:∀l:List j3,(l.flatMap kR).length≤l.length*4127:=by
  intro l;induction l with
  |nil=>exact zT _
  |cons r l ih=>
   rw[List.flatMap_cons,zM,List.length_cons]
   have:=tD r
   omega
 have:=hh l;have:l.length*4127≤4*4127:=Nat.mul_le_mul_right _ oD;omega):P:=h
theorem ZH{P:Prop}(h:P:=by
 intro l;induction l with
 |nil=>intro a h;exact hK a h
 |cons o l ih=>
  intro a h
  simp only[wpQuiet]at h⊢
  split
  ·rename_i hw;simp only[hw,if_true]at h;exact Oper.quiet_mono (fun a h=>ih a h) h
  ·rename_i hw;simp only[hw]at h;exact ih _ h):P:=h
theorem ZG{P:Prop}(h:P:=by unfold Oper.wp execOp;simp only[ho,resolve,invoke,builtin,zH,Sem.run_pure,Result.andThen_ok,List.map_toArray,List.map_cons,List.map_nil,hs,hx,hrun];exact hk):P:=h
theorem ZB{P:Prop}(h:P:=by simp[Lit.wf,IntKind.min,IntKind.max,IntKind.signed,IntKind.bits]at h;omega):P:=h
theorem ZR{P:Prop}(h:P:=by rcases(show j=0∨j=1∨j=2∨j=3 by omega)with rfl|rfl|rfl|rfl<;>rfl):P:=h
theorem ZT{P:Prop}(h:P:=by
 conv=>lhs;rw[←gD r]
 rw[BitVec.toNat_append,←Nat.shiftLeft_add_eq_or_of_lt (lo r).isLt,Nat.shiftLeft_eq]):P:=h
theorem ZD{P:Prop}(h:P:=by have BB:=zW (BB.out.trans (hb.mono BB.out.size));clear hb SC;go_wp2_with fail;go_ret;exact⟨rfl,BB.out⟩):P:=h
end Go.Proofs.Ytilideoeaecoaaa
