/- Short names for lemmas of lists, and scripts that stand more than once. -/
import Derived.WalkKit
import Derived.Laws.BitsLemmas
import Derived.Lib.Hide
import Derived.BigQuiet
import Derived.Deep.QuietTactic
import Derived.Below
import Derived.Laws.OwnMore
import Derived.Deep.AppendLies
import Derived.OrdersHeld
import Derived.Handy
import Derived.Deep.MidRow
import Derived.Laws.CopyRow
import Derived.Laws.CopyOwn
import Derived.Maps.AppendAt
import Derived.Deep.Cut
import Derived.Deep.WholeRow
import Derived.Deep.OwnRows
import Derived.KernelRfl
import Derived.RangeFuncBox
import Derived.Outline
import Derived.WalkSpells
import Derived.IntWalk
import Derived.LoopTactic
import Derived.Deep.RegionHeld3
import Derived.StillTailTactics
import Derived.Deep.Draws
import Derived.WalkLawsBesides
import Derived.Laws.EntriesVeiled
import Derived.Lib.MinMax
import Derived.Maps.OwnSet
import Derived.Maps.Views
import Derived.Carry
import Derived.Shelf.Abstract
import Derived.Laws.MakeOwn
import Derived.Laws.Tables
import Derived.Laws.StructEq
import Derived.Deep.CutRange
import Derived.Deep.RegionWith
import Derived.ChangeSlices
import Derived.Deep.SlicePairs
import Derived.ChangeOld
import Derived.OpenShut
import Derived.ShutString
import Derived.RangeFuncCalls
import Derived.OrdersIn
import Derived.RangeFuncLeaves
import Derived.RangeFuncNested
import Derived.RangeFuncBound
import Derived.Shelf.RegionOpen
import Derived.OwnWalkIn
import Derived.TacticsInMore
import Derived.LoopNIn
import Derived.LoopIn
import Derived.BigRegionIn
import Derived.Deep.RegionLaw
import Derived.Laws.AppendOwn
import Derived.Lib.SliceRun
import Derived.OwnWalk
import Derived.Recover
import Derived.Laws.LoneSync
import Derived.Maps.Own
import Derived.Maps.OwnOps
import Derived.ProofKit
import Derived.LaidMore
import Derived.Stop.Joined
import Derived.MakeChecks
import Derived.SevenTiedAt
set_option linter.unusedVariables false
namespace Go.Proofs.YtbpniahcjbagmaaGreatDoor
theorem zQ {α : Type _} (l : List α) (i : Nat) (a : α) : l.toArray.setIfInBounds i a = (l.set i a).toArray := List.setIfInBounds_toArray l i a
theorem zZ {α : Type _} {x : α} {xs : List α} {a : α} : (x :: xs).set 0 a = a :: xs := rfl
theorem zJ {α : Type _} {x : α} {xs : List α} {i : Nat} {a : α} : (x :: xs).set (i + 1) a = x :: xs.set i a := rfl
theorem zX {α : Type _} {xs : List α} {i : Nat} : xs.toArray[i]? = xs[i]? := List.getElem?_toArray
theorem zK {α : Type _} {a : α} {i : Nat} {l : List α} : (a :: l)[i + 1]? = l[i]? := rfl
theorem zV {α : Type _} {a : α} {l : List α} : (a :: l)[0]? = some a := rfl
theorem zW {p : Prop} (h : p) : RowKit.Hid p := Lib.hid h
theorem zY:type_of% @Go.wpQuiet_nil:=@Go.wpQuiet_nil
theorem zL:type_of% @if_neg:=@if_neg
theorem zM:type_of% @And.intro:=@And.intro
theorem zN:type_of% @if_pos:=@if_pos
theorem zH:type_of% @Go.wp_region_lit:=@Go.wp_region_lit
theorem zG:type_of% @Nat.le_refl:=@Nat.le_refl
theorem zB:type_of% @Go.RowKit.Below.refl:=@Go.RowKit.Below.refl
theorem zR:type_of% @Nat.le_trans:=@Nat.le_trans
theorem zT:type_of% @Go.World.size_alloc:=@Go.World.size_alloc
theorem zD:type_of% @Nat.lt_of_lt_of_le:=@Nat.lt_of_lt_of_le
theorem zF:type_of% @Array.getElem?_eq_none:=@Array.getElem?_eq_none
theorem zS:type_of% @List.getElem?_eq_getElem:=@List.getElem?_eq_getElem
theorem zP:type_of% @Go.bodyPost_ret:=@Go.bodyPost_ret
theorem zE:type_of% @Go.results_cell_row:=@Go.results_cell_row
theorem zC:type_of% @Bool.and_eq_true:=@Bool.and_eq_true
theorem zA:type_of% @Go.Sem.run_bind:=@Go.Sem.run_bind
theorem zU:type_of% @Go.IntKind.wrap_i64:=@Go.IntKind.wrap_i64
theorem zO:type_of% @decide_eq_false:=@decide_eq_false
theorem qQ:type_of% @Go.setRow_other:=@Go.setRow_other
theorem qZ:type_of% @Go.wpList_plain:=@Go.wpList_plain
theorem qJ:type_of% @List.getD_eq_getElem?_getD:=@List.getD_eq_getElem?_getD
theorem qX:type_of% @List.length_take:=@List.length_take
theorem qK:type_of% @decide_eq_true_eq:=@decide_eq_true_eq
theorem qV:type_of% @List.take_of_length_le:=@List.take_of_length_le
theorem qW:type_of% @Nat.zero_le:=@Nat.zero_le
theorem qY:type_of% @decide_eq_true:=@decide_eq_true
theorem qL:type_of% @Nat.zero_add:=@Nat.zero_add
theorem qM:type_of% @Array.getElem?_eq_some_iff:=@Array.getElem?_eq_some_iff
theorem qH:type_of% @Array.ext_getElem?:=@Array.ext_getElem?
theorem qG:type_of% @Int.natCast_nonneg:=@Int.natCast_nonneg
theorem qB:type_of% @Array.getElem?_setIfInBounds:=@Array.getElem?_setIfInBounds
theorem qR:type_of% @List.getElem?_eq_none:=@List.getElem?_eq_none
theorem qT:type_of% @List.not_mem_nil:=@List.not_mem_nil
theorem qD:type_of% @Go.RowKit.Below.heap_setCell:=@Go.RowKit.Below.heap_setCell
theorem qF:type_of% @List.getElem?_append_left:=@List.getElem?_append_left
theorem qS:type_of% @Go.World.cell?_setCell_other:=@Go.World.cell?_setCell_other
theorem qP:type_of% @Nat.add_assoc:=@Nat.add_assoc
theorem qE:type_of% @List.getElem?_append_right:=@List.getElem?_append_right
theorem qC:type_of% @Array.all_eq_true_iff_forall_mem:=@Array.all_eq_true_iff_forall_mem
theorem qA:type_of% @of_decide_eq_true:=@of_decide_eq_true
theorem qU:type_of% @Go.World.cell?_of_block:=@Go.World.cell?_of_block
theorem qI:type_of% @List.length_map:=@List.length_map
theorem qO:type_of% @Array.getElem?_toList:=@Array.getElem?_toList
theorem jQ:type_of% @Go.DataW.trod_bool:=@Go.DataW.trod_bool
theorem jZ:type_of% @Option.some.inj:=@Option.some.inj
theorem jJ:type_of% @List.all_eq_true:=@List.all_eq_true
theorem jX:type_of% @List.getElem?_map:=@List.getElem?_map
theorem jK:type_of% @List.length_append:=@List.length_append
theorem jV:type_of% @Go.run_underlying:=@Go.run_underlying
theorem jW:type_of% @Int.eq_ofNat_of_zero_le:=@Int.eq_ofNat_of_zero_le
theorem jY:type_of% @Array.replicate_succ:=@Array.replicate_succ
theorem jL:type_of% @List.append_toArray:=@List.append_toArray
theorem jM:type_of% @Go.World.putObj_heap_other:=@Go.World.putObj_heap_other
theorem jN:type_of% @List.size_toArray:=@List.size_toArray
theorem jH:type_of% @Go.heap_alloc_new:=@Go.heap_alloc_new
theorem jG:type_of% @List.mem_map:=@List.mem_map
theorem jB:type_of% @List.getElem_take:=@List.getElem_take
theorem jR:type_of% @List.push_toArray:=@List.push_toArray
theorem jT:type_of% @Nat.le_succ:=@Nat.le_succ
theorem jD:type_of% @List.mem_range:=@List.mem_range
theorem jF:type_of% @List.length_drop:=@List.length_drop
theorem jS:type_of% @Array.getElem?_extract:=@Array.getElem?_extract
theorem jP:type_of% @List.getElem?_eq_some_iff:=@List.getElem?_eq_some_iff
theorem jE:type_of% @List.eq_nil_of_length_eq_zero:=@List.eq_nil_of_length_eq_zero
theorem jC:type_of% @Go.Boxed.new:=@Go.Boxed.new
theorem jA:type_of% @Go.World.block_lt_of_cell?:=@Go.World.block_lt_of_cell?
theorem jU:type_of% @Nat.lt_or_ge:=@Nat.lt_or_ge
theorem jO:type_of% @Go.cell_of_row:=@Go.cell_of_row
theorem j4:type_of% @List.getElem_mem:=@List.getElem_mem
theorem j5:type_of% @List.getElem?_drop:=@List.getElem?_drop
theorem j7:type_of% @Nat.le_of_lt:=@Nat.le_of_lt
theorem j9:type_of% @LawfulBEq.eq_of_beq:=@LawfulBEq.eq_of_beq
theorem kQ:type_of% @Prod.mk.injEq:=@Prod.mk.injEq
theorem kZ:type_of% @Option.some.injEq:=@Option.some.injEq
theorem kJ:type_of% @List.append_assoc:=@List.append_assoc
theorem kX:type_of% @List.mem_range'_1:=@List.mem_range'_1
theorem kK:type_of% @List.append_nil:=@List.append_nil
theorem kV:type_of% @List.mem_toArray:=@List.mem_toArray
theorem kW:type_of% @BitVec.getMsbD_append:=@BitVec.getMsbD_append
theorem kY:type_of% @List.map_append:=@List.map_append
theorem kL:type_of% @Go.wpList_load_row:=@Go.wpList_load_row
theorem kM:type_of% @Go.trodAll_cons_mk:=@Go.trodAll_cons_mk
theorem kN:type_of% @List.ext_getElem?:=@List.ext_getElem?
theorem kH:type_of% @Go.World.ownsRow_nil:=@Go.World.ownsRow_nil
theorem kG:type_of% @Go.returnsInHanded_of_change_and:=@Go.returnsInHanded_of_change_and
theorem kB:type_of% @BitVec.eq_of_getMsbD_eq:=@BitVec.eq_of_getMsbD_eq
theorem kR:type_of% @Nat.mod_eq_of_lt:=@Nat.mod_eq_of_lt
theorem kT:type_of% @Option.map_eq_some_iff:=@Option.map_eq_some_iff
theorem kD:type_of% @Array.mem_of_getElem?:=@Array.mem_of_getElem?
theorem kF:type_of% @Int.tmod_eq_emod_of_nonneg:=@Int.tmod_eq_emod_of_nonneg
theorem kS:type_of% @Go.Claim7.holds_tied_plain_at:=@Go.Claim7.holds_tied_plain_at
theorem kP:type_of% @Go.ChangeSpec.witness_shaped:=@Go.ChangeSpec.witness_shaped
theorem kE:type_of% @Nat.le_of_eq:=@Nat.le_of_eq
theorem kC:type_of% @Go.OpenClaim.holds_of_wide:=@Go.OpenClaim.holds_of_wide
theorem kA:type_of% @Go.info_parts:=@Go.info_parts
theorem kU:type_of% @Nat.mod_lt:=@Nat.mod_lt
theorem kO:type_of% @Go.DataW.trod_int:=@Go.DataW.trod_int
theorem lQ:type_of% @List.take_succ_eq_append_getElem:=@List.take_succ_eq_append_getElem
theorem lZ:type_of% @Go.IntKind.wrap_u8:=@Go.IntKind.wrap_u8
theorem lJ:type_of% @Go.IntWalk.i64_in:=@Go.IntWalk.i64_in
theorem lX:type_of% @Nat.eq_of_beq_eq_true:=@Nat.eq_of_beq_eq_true
theorem zGX{P:Prop}(h:P:=by omega):P:=h
theorem zGK{P:Prop}(h:P:=by simp[Act.eval,Act.put]):P:=h
theorem zGV{P:Prop}(h:P:=by kernel_rfl):P:=h
theorem zGW{P:Prop}(h:P:=by simp only[lW,zX,zK,zV];rfl):P:=h
theorem zGY{P:Prop}(h:P:=by simp only[zX,zK,zV];rfl):P:=h
theorem zGL{P:Prop}(h:P:=by decide):P:=h
theorem zGM{P:Prop}(h:P:=by rfl):P:=h
theorem zGN{P:Prop}(h:P:=by simp):P:=h
theorem zGH{P:Prop}(h:P:=by simp;omega):P:=h
theorem zGG{P:Prop}(h:P:=by rw[lI];decide):P:=h
theorem zGB{P:Prop}(h:P:=by simp[Act.eval]):P:=h
theorem zGR{P:Prop}(h:P:=by have:=Gs.out;omega):P:=h
theorem zGT{P:Prop}(h:P:=by rw[jK,List.length_singleton,OK.out.2.2.1,HM.out]):P:=h
theorem zGD{P:Prop}(h:P:=by unfold maxLen;omega):P:=h
theorem zGF{P:Prop}(h:P:=by simp only[lW];rfl):P:=h
theorem zGS{P:Prop}(h:P:=by simp[Act.eval];exact sX _ _ _ s.q s.ca ⟨_,_,_,rfl⟩ ⟨_,_,_,rfl⟩ ⟨_,_,_,rfl⟩):P:=h
theorem zGP{P:Prop}(h:P:=by rw[nE,lH]):P:=h
theorem zGE{P:Prop}(h:P:=by rw[m5];omega):P:=h
theorem zGC{P:Prop}(h:P:=by unfold n8;kernel_rfl):P:=h
theorem zGA{P:Prop}(h:P:=by simp[results,Tryz.results203,go_sem,t2,t3]):P:=h
theorem zGU{P:Prop}(h:P:=by have:=OO.out.lv;simp only[Lit.wf,zC,qK];simp[IntKind.min,IntKind.max,IntKind.bits];omega):P:=h
theorem zGI{P:Prop}(h:P:=by intro c;injection c with _ c;exact hl c):P:=h
theorem zGO{P:Prop}(h:P:=by have:=hb.size;simp;omega):P:=h
theorem zG0{P:Prop}(h:P:=by have:=OK.out.1.z0;have:=RZ.out.2;omega):P:=h
theorem zG1{P:Prop}(h:P:=by rw[lN];omega):P:=h
theorem zG2{P:Prop}(h:P:=by rintro rfl;simp at hk):P:=h
theorem zG3{P:Prop}(h:P:=by have:=O.msk;omega):P:=h
theorem zG4{P:Prop}(h:P:=by rw[CE.out.1];decide):P:=h
theorem zG5{P:Prop}(h:P:=by simpa [hq]using hi):P:=h
theorem zG6{P:Prop}(h:P:=by simpa using hc):P:=h
theorem zG7{P:Prop}(h:P:=by show 11+4≤17;decide):P:=h
theorem zG8{P:Prop}(h:P:=by show(1:Int)≤2∧(2:Int)≤3;decide):P:=h
theorem zG9{P:Prop}(h:P:=by rw[nP];omega):P:=h
theorem zBQ{P:Prop}(h:P:=by first|exact DQ _ _|exact Lg.up _ _):P:=h
theorem zBZ{P:Prop}(h:P:=by rw[cL.i,lN]):P:=h
theorem zBJ{P:Prop}(h:P:=by rw[cO];omega):P:=h
theorem zBX{P:Prop}(h:P:=by rw[lH];omega):P:=h
theorem zBK{P:Prop}(h:P:=by rw[nF];omega):P:=h
theorem zBV{P:Prop}(h:P:=by rw[xA];omega):P:=h
theorem zBW{P:Prop}(h:P:=by simp[Value.oneCell']):P:=h
theorem zBY{P:Prop}(h:P:=by simp[nD,lB]):P:=h
theorem zBL{P:Prop}(h:P:=by
 have f1:=lJ (x-width) zGX;have O1:=zW (uR em w0 w1);have O2:=zW fun w b X=>wB p 0#64 x width i1 i2 ei w b m1 m2 em X zGX zGX;have O3:=zW (bF ej zGX zGX);have O4:=zW (Q7 hq1 hq2);clear ej hq1 hq2;clear em ei;go_enter Tryz.func203,Tryz.ntmps203;go_wp2_with fail;clear hp;have X10:Box w.heap.size 0 0 ((w.alloc (.cells #[.int .u64 0,.int .u64 0] 38)).alloc (.cells #[.int .u64 (p.toNat:Int),.int .u64 0] 38)):=(Box.new w 0 0 38).alloc _;have X11:Box (w.heap.size+1) p 0#64 ((w.alloc (.cells #[.int .u64 0,.int .u64 0] 38)).alloc (.cells #[.int .u64 (p.toNat:Int),.int .u64 0] 38)):=by
  have:=Box.new (w.alloc (.cells #[.int .u64 0,.int .u64 0] 38)) p 0#64 38;rw[zT]at this;exact this
 have BB:=zW ((((zB _ w).alloc (zG _) (.cells #[.int .u64 0,.int .u64 0] 38)).alloc zGN (.cells #[.int .u64 (p.toNat:Int),.int .u64 0] 38)));have s1:=zW X11.lt;have X10:=zW X10;have X11:=zW X11;generalize (w.alloc (.cells #[.int .u64 0,.int .u64 0] 38)).alloc (.cells #[.int .u64 (p.toNat:Int),.int .u64 0] 38)=wa at*;have c0:∀x:lA wa,x.w.cell? ⟨w.heap.size+1,0,none⟩=some (.int .u64 (p.toNat:Int)):=fun x=>X11.out.c0▸x.below.cell (p:=⟨w.heap.size+1,0,none⟩) s1.out;have c1:∀x:lA wa,x.w.cell? ⟨w.heap.size+1,1,none⟩=some (.int .u64 0):=fun x=>X11.out.c1▸x.below.cell (p:=⟨w.heap.size+1,1,none⟩) s1.out;refine uX (C:=fun w'=>∃x:lA wa,w'=x.w) (.fork [0,1,2] 3 (.fork [] 4 (.fork [] 5 (.call [] 6 (.call [] 7 (.last []))) 6 (.call [] 5 (.call [] 7 (.last [])))) 6 (.call [] 4 (.call [] 5 (.call [] 7 (.last []))))) 6 (.call [] 3 (.call [] 4 (.call [] 5 (.call [] 7 (.last [])))))) zGV zGV (fun _ _ d _ _ h=>by cases d<;>exact h) ⟨⟨wa.drew,(zB _ _).drew⟩,rfl⟩ ?_;intro wn hwd;have DD:=zW (show Below wa.heap.size wa wn by rw[hwd];exact(zB _ _).drew);clear hwd;repeat' (first
  |with_reducible refine zM ?_ ?_
  |skip
   with_reducible show vA _ _ _ _ 3 _ _ _
   refine nG zGM zGM ?_
   intro K hK
   go_wp2_with fail
   refine(O1.out _).mono ?_
   rintro e wn ⟨rfl,b2⟩
   have DD:=zW (DD.out.trans (b2.mono DD.out.size))
   try have ZZ:=zW (ZZ.out.step b2)
   clear b2
   simp only[]
   refine hK _ _ ⟨⟨wn,DD.out⟩,rfl⟩ ?_
   clear hK K
  |skip
   with_reducible show vA _ _ _ _ 4 _ _ _
   refine nG zGM zGM ?_
   intro K hK
   go_wp2_with fail
   have MM:=zW (Box.new wn m1 m2 38)
   try have ZZ:=zW (ZZ.out.alloc (.cells #[.int .u64 (m1.toNat:Int),.int .u64 (m2.toNat:Int)] 38))
   have DD:=zW (DD.out.alloc DD.out.size (.cells #[.int .u64 (m1.toNat:Int),.int .u64 (m2.toNat:Int)] 38))
   refine hK _ _ ⟨⟨_,DD.out⟩,rfl⟩ ?_
   clear hK K
   generalize wn.alloc (.cells #[.int .u64 (m1.toNat:Int),.int .u64 (m2.toNat:Int)] 38)=wn at*
  |skip
   with_reducible show vA _ _ _ _ 5 _ _ _
   refine nG zGM zGM ?_
   intro K hK
   go_wp2_with fail
   refine(O2.out _ _ MM.out).mono ?_
   rintro e wn ⟨rfl,b2⟩
   have DD:=zW (DD.out.trans (b2.mono DD.out.size))
   try have ZZ:=zW (ZZ.out.step b2)
   clear b2 MM
   simp only[]
   refine hK _ _ ⟨⟨wn,DD.out⟩,rfl⟩ ?_
   clear hK K
  |skip
   with_reducible show vA _ _ _ _ 6 _ _ _
   refine nG zGM zGM ?_
   intro K hK
   go_wp2_with fail
   have ZZ:=zW (Box.new wn 0 0 38)
   have hz:=zW DD.out.size
   try have MM:=zW (MM.out.alloc (.cells #[.int .u64 0,.int .u64 0] 38))
   have DD:=zW (DD.out.alloc DD.out.size (.cells #[.int .u64 0,.int .u64 0] 38))
   refine hK _ _ ⟨⟨_,DD.out⟩,rfl⟩ ?_
   clear hK K
   obtain⟨z,hzz⟩:∃z,z=wn.heap.size:=⟨_,rfl⟩
   have ZZ:=zW (show Box z 0 0 (wn.alloc (.cells #[.int .u64 0,.int .u64 0] 38))from hzz▸ZZ.out)
   rw[←hzz]at hz⊢
   generalize wn.alloc (.cells #[.int .u64 0,.int .u64 0] 38)=wn at*
   clear hzz
  |skip
   with_reducible show vA _ _ _ _ 7 _ _ _
   refine nG zGM zGM ?_
   intro K hK
   obtain⟨y1,y2,y3,y4,y5⟩:=ZZ.out
   have ZZ:=zW (ZZ.out.set i1 i2)
   have DD:=zW ((DD.out.setCell (p:=⟨z,0,none⟩) hz.out (.int .u64 (i1.toNat:Int))).setCell (p:=⟨z,1,none⟩) hz.out (.int .u64 (i2.toNat:Int)))
   go_wp2_with fail
   generalize (wn.setCell ⟨z,0,none⟩ (.int .u64 (i1.toNat:Int))).setCell ⟨z,1,none⟩ (.int .u64 (i2.toNat:Int))=wz at*
   refine hK _ _ ⟨⟨wz,DD.out⟩,rfl⟩ ?_
   clear hK K y1 y2 y3 y4 y5
   refine gM zGW ?_
   refine zY ?_
   have FB:=zW (BB.out.trans (DD.out.mono BB.out.size))
   have F10:=zW (X10.out.below DD.out (Nat.lt_trans (Nat.lt_succ_self _) s1.out))
   have F11:=zW (X11.out.below DD.out s1.out)
   have hz0:w.heap.size+1<z:=zD s1.out hz.out
   clear DD hz c0 c1
   obtain⟨z1,z2,z3,z4,z5⟩:=ZZ.out
   obtain⟨t1,t2,t3,t4,t5⟩:=F10.out
   clear t1 t2 t3 t4 t5 z1 z2 z3 z4 z5
   go_wp2_with fail
   haveI:Nonempty (Two (w.heap.size+1) z p 0#64 i1 i2):=⟨⟨wz,F11.out,ZZ.out⟩⟩
   have d0:∀x:Two (w.heap.size+1) z p 0#64 i1 i2,x.w.cell? ⟨w.heap.size+1,0,none⟩=some (.int .u64 (p.toNat:Int)):=fun x=>x.left.c0
   have d1:∀x:Two (w.heap.size+1) z p 0#64 i1 i2,x.w.cell? ⟨w.heap.size+1,1,none⟩=some (.int .u64 0):=fun x=>x.left.c1
   have d2:∀x:Two (w.heap.size+1) z p 0#64 i1 i2,x.w.cell? ⟨z,0,none⟩=some (.int .u64 (i1.toNat:Int)):=fun x=>x.right.c0
   have d3:∀x:Two (w.heap.size+1) z p 0#64 i1 i2,x.w.cell? ⟨z,1,none⟩=some (.int .u64 (i2.toNat:Int)):=fun x=>x.right.c1
   have G10:=zW F10.out.drew
   have G11:=zW F11.out.drew
   have GZ:=zW ZZ.out.drew
   have GB:=zW FB.out.drew
   clear F10 F11 ZZ FB
   refine mT (C:=fun w'=>∃x:Two (w.heap.size+1) z p 0#64 i1 i2,w'=x.w) [([0,1,2,3,4],5),([],6),([],7)] [] zGV zGV (fun _ _ d _ _ h=>by cases d<;>exact h) ⟨⟨wz.drew,G11.out,GZ.out⟩,rfl⟩ ?_
   intro wy hwy
   generalize wz.drew=wq at*
   subst hwy
   refine mD zGW zGM ?_
   repeat(go_big_quiet_step (fail))
   refine zY ?_
   refine mH zGM ?_
   intro K hK
   clear d0 d1 d2 d3
   go_wp2_with fail
   refine(O3.out _).mono ?_
   rintro e wr ⟨rfl,b2⟩
   have G10:=zW (G10.out.step b2)
   have G11:=zW (G11.out.step b2)
   have GZ:=zW (GZ.out.step b2)
   have GB:=zW (GB.out.trans (b2.mono GB.out.size))
   clear b2
   simp only[]
   refine hK _ _ ⟨⟨wr,G11.out,GZ.out⟩,rfl⟩ ?_
   clear hK K
   refine mD zGW zGM ?_
   refine zY ?_
   refine mH zGM ?_
   intro K hK
   go_wp2_with fail
   refine(O4.out _).mono ?_
   rintro e ws ⟨rfl,b2⟩
   have G10:=zW (G10.out.step b2)
   have G11:=zW (G11.out.step b2)
   have GZ:=zW (GZ.out.step b2)
   have GB:=zW (GB.out.trans (b2.mono GB.out.size))
   clear b2
   simp only[]
   refine hK _ _ ⟨⟨ws,G11.out,GZ.out⟩,rfl⟩ ?_
   clear hK K
   refine mD zGW zGM ?_
   refine zY ?_
   refine mH zGM ?_
   intro K hK
   obtain⟨t1,t2,t3,t4,t5⟩:=G10.out
   have FF:=zW (G10.out.set q1 q2)
   have G11:=zW ((G11.out.other (g:=w.heap.size) zGX 0 (.int .u64 (q1.toNat:Int))).other (g:=w.heap.size) zGX 1 (.int .u64 (q2.toNat:Int)))
   have GZ:=zW ((GZ.out.other (g:=w.heap.size) zGX 0 (.int .u64 (q1.toNat:Int))).other (g:=w.heap.size) zGX 1 (.int .u64 (q2.toNat:Int)))
   have FB:=zW ((GB.out.setCell (p:=⟨w.heap.size,0,none⟩) (zG _) (.int .u64 (q1.toNat:Int))).setCell (p:=⟨w.heap.size,1,none⟩) (zG _) (.int .u64 (q2.toNat:Int)))
   go_wp2_with fail
   generalize (ws.setCell ⟨w.heap.size,0,none⟩ (.int .u64 (q1.toNat:Int))).setCell ⟨w.heap.size,1,none⟩ (.int .u64 (q2.toNat:Int))=wf at*
   refine hK _ _ ⟨⟨wf,G11.out,GZ.out⟩,rfl⟩ ?_
   clear hK K t1 t2 t3 t4 t5
   refine vW zGW ?_
   refine zY ?_
   obtain⟨t1,t2,t3,t4,t5⟩:=FF.out
   go_wp2
   exact zP (v:=.agg #[.int .u64 (q1.toNat:Int),.int .u64 (q2.toNat:Int)]) zGA rfl ⟨rfl,FB.out⟩
  |skip
   with_reducible show vS _ _ _ _ (.fork _ _ _ _ _) _ _
   refine gN zGW ?_
   repeat(go_big_quiet_step (fail))
   refine zY ?_
  |skip
   with_reducible show vS _ _ _ _ (.call _ _ _) _ _
   refine gH zGW ?_
   refine zY ?_)):P:=h
theorem zBM{P:Prop}(h:P:=by
 have f1:=lJ (x-width) zGX;have O1:=zW (uR em w0 w1);have O2:=zW fun w b X=>wB p 0#64 x width i1 i2 ei w b m1 m2 em X zGX zGX;clear em ei;go_enter Tryz.func203,Tryz.ntmps203;go_wp2_with fail;clear hp;have X10:Box w.heap.size 0 0 ((w.alloc (.cells #[.int .u64 0,.int .u64 0] 38)).alloc (.cells #[.int .u64 (p.toNat:Int),.int .u64 0] 38)):=(Box.new w 0 0 38).alloc _;have X11:Box (w.heap.size+1) p 0#64 ((w.alloc (.cells #[.int .u64 0,.int .u64 0] 38)).alloc (.cells #[.int .u64 (p.toNat:Int),.int .u64 0] 38)):=by
  have:=Box.new (w.alloc (.cells #[.int .u64 0,.int .u64 0] 38)) p 0#64 38;rw[zT]at this;exact this
 have BB:=zW ((((zB _ w).alloc (zG _) (.cells #[.int .u64 0,.int .u64 0] 38)).alloc zGN (.cells #[.int .u64 (p.toNat:Int),.int .u64 0] 38)));have s1:=zW X11.lt;have X10:=zW X10;have X11:=zW X11;generalize (w.alloc (.cells #[.int .u64 0,.int .u64 0] 38)).alloc (.cells #[.int .u64 (p.toNat:Int),.int .u64 0] 38)=wa at*;have c0:∀x:lA wa,x.w.cell? ⟨w.heap.size+1,0,none⟩=some (.int .u64 (p.toNat:Int)):=fun x=>X11.out.c0▸x.below.cell (p:=⟨w.heap.size+1,0,none⟩) s1.out;have c1:∀x:lA wa,x.w.cell? ⟨w.heap.size+1,1,none⟩=some (.int .u64 0):=fun x=>X11.out.c1▸x.below.cell (p:=⟨w.heap.size+1,1,none⟩) s1.out;refine uX (C:=fun w'=>∃x:lA wa,w'=x.w) (.fork [0,1,2] 3 (.fork [] 4 (.fork [] 5 (.call [] 6 (.call [] 7 (.last []))) 6 (.call [] 5 (.call [] 7 (.last [])))) 6 (.call [] 4 (.call [] 5 (.call [] 7 (.last []))))) 6 (.call [] 3 (.call [] 4 (.call [] 5 (.call [] 7 (.last [])))))) zGV zGV (fun _ _ d _ _ h=>by cases d<;>exact h) ⟨⟨wa.drew,(zB _ _).drew⟩,rfl⟩ ?_;intro wn hwd;have DD:=zW (show Below wa.heap.size wa wn by rw[hwd];exact(zB _ _).drew);clear hwd;repeat' (first
  |with_reducible refine zM ?_ ?_
  |skip
   with_reducible show vA _ _ _ _ 3 _ _ _
   refine nG zGM zGM ?_
   intro K hK
   go_wp2_with fail
   refine(O1.out _).mono ?_
   rintro e wn ⟨rfl,b2⟩
   have DD:=zW (DD.out.trans (b2.mono DD.out.size))
   try have ZZ:=zW (ZZ.out.step b2)
   clear b2
   simp only[]
   refine hK _ _ ⟨⟨wn,DD.out⟩,rfl⟩ ?_
   clear hK K
  |skip
   with_reducible show vA _ _ _ _ 4 _ _ _
   refine nG zGM zGM ?_
   intro K hK
   go_wp2_with fail
   have MM:=zW (Box.new wn m1 m2 38)
   try have ZZ:=zW (ZZ.out.alloc (.cells #[.int .u64 (m1.toNat:Int),.int .u64 (m2.toNat:Int)] 38))
   have DD:=zW (DD.out.alloc DD.out.size (.cells #[.int .u64 (m1.toNat:Int),.int .u64 (m2.toNat:Int)] 38))
   refine hK _ _ ⟨⟨_,DD.out⟩,rfl⟩ ?_
   clear hK K
   generalize wn.alloc (.cells #[.int .u64 (m1.toNat:Int),.int .u64 (m2.toNat:Int)] 38)=wn at*
  |skip
   with_reducible show vA _ _ _ _ 5 _ _ _
   refine nG zGM zGM ?_
   intro K hK
   go_wp2_with fail
   refine(O2.out _ _ MM.out).mono ?_
   rintro e wn ⟨rfl,b2⟩
   have DD:=zW (DD.out.trans (b2.mono DD.out.size))
   try have ZZ:=zW (ZZ.out.step b2)
   clear b2 MM
   simp only[]
   refine hK _ _ ⟨⟨wn,DD.out⟩,rfl⟩ ?_
   clear hK K
  |skip
   with_reducible show vA _ _ _ _ 6 _ _ _
   refine nG zGM zGM ?_
   intro K hK
   go_wp2_with fail
   have ZZ:=zW (Box.new wn 0 0 38)
   have hz:=zW DD.out.size
   try have MM:=zW (MM.out.alloc (.cells #[.int .u64 0,.int .u64 0] 38))
   have DD:=zW (DD.out.alloc DD.out.size (.cells #[.int .u64 0,.int .u64 0] 38))
   refine hK _ _ ⟨⟨_,DD.out⟩,rfl⟩ ?_
   clear hK K
   obtain⟨z,hzz⟩:∃z,z=wn.heap.size:=⟨_,rfl⟩
   have ZZ:=zW (show Box z 0 0 (wn.alloc (.cells #[.int .u64 0,.int .u64 0] 38))from hzz▸ZZ.out)
   rw[←hzz]at hz⊢
   generalize wn.alloc (.cells #[.int .u64 0,.int .u64 0] 38)=wn at*
   clear hzz
  |skip
   with_reducible show vA _ _ _ _ 7 _ _ _
   refine nG zGM zGM ?_
   intro K hK
   obtain⟨y1,y2,y3,y4,y5⟩:=ZZ.out
   have ZZ:=zW (ZZ.out.set i1 i2)
   have DD:=zW ((DD.out.setCell (p:=⟨z,0,none⟩) hz.out (.int .u64 (i1.toNat:Int))).setCell (p:=⟨z,1,none⟩) hz.out (.int .u64 (i2.toNat:Int)))
   go_wp2_with fail
   generalize (wn.setCell ⟨z,0,none⟩ (.int .u64 (i1.toNat:Int))).setCell ⟨z,1,none⟩ (.int .u64 (i2.toNat:Int))=wz at*
   refine hK _ _ ⟨⟨wz,DD.out⟩,rfl⟩ ?_
   clear hK K y1 y2 y3 y4 y5
   refine gM zGW ?_
   refine zY ?_
   have FB:=zW (BB.out.trans (DD.out.mono BB.out.size))
   have F10:=zW (X10.out.below DD.out (Nat.lt_trans (Nat.lt_succ_self _) s1.out))
   have F11:=zW (X11.out.below DD.out s1.out)
   have hz0:w.heap.size+1<z:=zD s1.out hz.out
   clear DD hz c0 c1
   obtain⟨z1,z2,z3,z4,z5⟩:=ZZ.out
   obtain⟨t1,t2,t3,t4,t5⟩:=F10.out
   go_wp2
   have FF:=zW (F10.out.set i1 i2)
   have FB:=zW ((FB.out.setCell (p:=⟨w.heap.size,0,none⟩) (zG _) (.int .u64 (i1.toNat:Int))).setCell (p:=⟨w.heap.size,1,none⟩) (zG _) (.int .u64 (i2.toNat:Int)))
   generalize (wz.setCell ⟨w.heap.size,0,none⟩ (.int .u64 (i1.toNat:Int))).setCell ⟨w.heap.size,1,none⟩ (.int .u64 (i2.toNat:Int))=wf at*
   clear z1 z2 z3 z4 z5 t1 t2 t3 t4 t5
   obtain⟨t1,t2,t3,t4,t5⟩:=FF.out
   exact zP (v:=.agg #[.int .u64 (i1.toNat:Int),.int .u64 (i2.toNat:Int)]) zGA rfl ⟨rfl,FB.out⟩
  |skip
   with_reducible show vS _ _ _ _ (.fork _ _ _ _ _) _ _
   refine gN zGW ?_
   repeat(go_big_quiet_step (fail))
   refine zY ?_
  |skip
   with_reducible show vS _ _ _ _ (.call _ _ _) _ _
   refine gH zGW ?_
   refine zY ?_)):P:=h
theorem zBN{P:Prop}(h:P:=by rintro _ w' ⟨u,rfl⟩ hg;exact⟨⟨w',u.below.trans (hg.mono u.below.size)⟩,rfl⟩):P:=h
theorem zBH{P:Prop}(h:P:=by
 try simp only[lW,zX,zK,zV]
 refine zY ?_;intro w8 g8;have D:=zW (D.out.step g8);clear g8 g5;go_wp2_with fail;go_end0
 exact⟨rfl,_,D.out⟩):P:=h
theorem zBG{P:Prop}(h:P:=by refine⟨88,#[],#[.pointer (some ⟨rb,0,none⟩)],by unfold nA;rfl,rfl,enters_of Tryz.func88 zGV rfl,?_⟩;exact(cT X O.o hx hy hnn zGL).mono fun e w' h=>xC O h):P:=h
theorem zBB{P:Prop}(h:P:=by exact fun _ _ d _ _ h=>by cases d<;>exact h):P:=h
theorem zBR{P:Prop}(h:P:=by simp only[zT]at Y;clear b1 c0 c1 h1 h2 h3 h4 h5 h6 h7 h8 hk O;have X2:=zW (X.set v1 v2);have Y2:=zW ((Y.other (g:=w.heap.size) zGX 0 (.int .u64 (v1.toNat:Int))).other (g:=w.heap.size) zGX 1 (.int .u64 (v2.toNat:Int)));have B2:=zW ((B.out.setCell (p:=⟨w.heap.size,0,none⟩) (zG _) (.int .u64 (v1.toNat:Int))).setCell (p:=⟨w.heap.size,1,none⟩) (zG _) (.int .u64 (v2.toNat:Int)));obtain⟨x1,x2,x3,x4,x5⟩:=X;clear Y B;go_wp2;generalize (w1.setCell ⟨w.heap.size,0,none⟩ (.int .u64 (v1.toNat:Int))).setCell ⟨w.heap.size,1,none⟩ (.int .u64 (v2.toNat:Int))=w2 at*;clear x1 x2 x3 x4 x5;obtain⟨x1,x2,x3,x4,x5⟩:=X2.out;obtain⟨y1,y2,y3,y4,y5⟩:=Y2.out;have Z:=zW (Y2.out.set v1 v2);have B3:=zW ((B2.out.setCell (p:=⟨w.heap.size+1,0,none⟩) zGN (.int .u64 (v1.toNat:Int))).setCell (p:=⟨w.heap.size+1,1,none⟩) zGN (.int .u64 (v2.toNat:Int)));clear B2 X2 Y2;rw[rounds_succ];go_wp2;generalize (w2.setCell ⟨w.heap.size+1,0,none⟩ (.int .u64 (v1.toNat:Int))).setCell ⟨w.heap.size+1,1,none⟩ (.int .u64 (v2.toNat:Int))=w3 at*;clear x1 x2 x3 x4 x5 y1 y2 y3 y4 y5;obtain⟨x1,x2,x3,x4,x5⟩:=Z.out;exact zP (v:=.agg #[.int .u64 (v1.toNat:Int),.int .u64 (v2.toNat:Int)]) (by simp[results,Tryz.results210,go_sem,x2,x3]) rfl ⟨rfl,B3.out⟩):P:=h
theorem zBT{P:Prop}(h:P:=by
 clear s1 s2 s3 s4 s5 s6 s8 S5 k10 f10;refine zH ?_;refine lL wP S6.out.2.2.2.2.1 (lH _) rfl (.tmp 11) rfl zGB ?_;simp only[Act.put,zQ,zZ,zJ];refine lM (ds:=lY Q) wP S6.out.2.2.2.2.2.1 (lH _) (lH _) (vI _) rfl (.tmp 12) (.tmp 53) rfl zGK zGK ?_;simp only[Act.put,zQ,zZ,zJ];have R7:=zW (S6.out.2.2.2.2.2.1.store Q);have G7:=zW (show DrG D s0 (ps++[p]) (w6.setRow (w.heap.size+1) (lY Q))∧But (DrT s0) w (w6.setRow (w.heap.size+1) (lY Q))from by
  obtain⟨s1,s2,s3,s4,s5,s6,s8⟩:=S6.out;refine⟨⟨s1.row zGR _,⟨A3,c-q,?_,?_,?_,?_⟩,?_⟩,s8.rowNew zGX _⟩
  ·have e:(D.N-(ps++[p]).length)*(D.r*D.z)=m':=zGT;rw[e];exact uD s2 zGR _
  ·have e:(D.N-(ps++[p]).length)*(D.r*D.z)=m':=zGT;rw[e];have:=CB.out.1;omega
  ·have:=CB.out.2;omega
  ·have e:(D.N-(ps++[p]).length)*(D.r*D.z)=m':=zGT;rw[e];have e2:(ps++[p]).length*(D.r*D.z)=ps.length*(D.r*D.z)+q:=by rw[jK,List.length_singleton,Nat.succ_mul,OK.out.2.2.1]
   rw[e2,←qP];have h:=s3.row (b:=w.heap.size+1) ng2 (lY Q);simpa [qP]using h
  ·rw[CO.out];exact uD s4 zGR _)
 generalize w6.setRow (w.heap.size+1) (lY Q)=w7 at*
 iterate 4 go_step
 exact zP (zE rfl _ _ (w.heap.size+1) _ _ _ _ rfl R7.out Tryz.underlying41 rfl (by rw[wP.i,lH])) rfl ⟨rfl,G7.out.1,G7.out.2⟩):P:=h
theorem zBD{P:Prop}(h:P:=by
 refine hK _ _ ⟨⟨wd,CB.out⟩,rfl⟩ ?_;clear hK K7;simp only[Act.put,zQ,zZ,zJ];refine mF zGW ?_;refine vV rfl rfl (by simpa [Act.eval,Act.put]using ZP s b p mp) ?_;simp only[Act.put,zQ,zZ,zJ];refine zY ?_;refine List.forall_mem_cons.2 ⟨?_,fun _ h=>absurd h qT⟩;refine mB zGY zGM ?_;intro K7 hK;refine eD _ (.tmp 18) rfl (mcc s b p mp) zGK ?_;have MB:=zW (Blk.new wd 101 (mcc s b p mp));have bx:=lV wd (.cells (mcc s b p mp) 101);have BG:=zW CB.out.size;have MM:=zW (vC MM.out (bx.block mp MM.out.lt));have CC:=zW (CC.out.step bx);have CB:=zW (CB.out.trans (bx.mono CB.out.size));clear bx;obtain⟨mb,hmb⟩:∃p,wd.heap.size=p:=⟨_,rfl⟩;rw[hmb]at MB BG⊢;clear hmb;generalize World.alloc _ _=wd at*;refine hK _ _ ⟨⟨wd,CB.out⟩,rfl⟩ ?_;clear hK K7;simp only[Act.put,zQ,zZ,zJ];refine vO zGW ?_;repeat(go_big_quiet_step (rfl))
 refine zY ?_;have h2:=BB.out.size;exact⟨rfl,p,mp,mb,rfl,BB.out.trans (CB.out.mono h2),C1.out.step CB.out,MM.out,CC.out,MB.out,zR h2 PG.out,zR h2 MG.out,zR h2 BG.out⟩):P:=h
theorem zBF{P:Prop}(h:P:=by refine zY ?_;refine mW (v:=.int .i64 4) (mC (g:=66) (caps:=#[]) (args:=#[.int .i64 a.i,.int .i64 (k:Int),.bool q.fa]) (.func 66) _ _ rfl rfl (enters_of Tryz.func66 zGV rfl) (fun w' hw=>by obtain⟨u,rfl⟩:=hw;exact(CK.out u.w).mono fun e w'' h=>⟨h.1,by rw[←h.2];exact Gr.refl _⟩) rfl zGK) ?_;simp only[Act.put,zQ,zZ,zJ];refine mZ zGW zGY ?_;refine zY ?_;refine mJ rfl ?_;intro w5 g5 C5 K hK;obtain⟨u5,rfl⟩:=C5;refine wG (g:=80) (caps:=#[]) (args:=#[.int .i64 4]) (.func 80) _ _ rfl (enters_of Tryz.func80 zGV rfl) rfl zGK ?_;refine(t9 4 zGL _).mono ?_;rintro e w7 ⟨rfl,rfl⟩;exact⟨_,rfl,rfl,rfl,u5.below⟩):P:=h
theorem zBS{P:Prop}(h:P:=by
 go_upto_region 8 with fail;generalize World.setCell _ _ _=V at Z⊢;refine zH ?_;refine lL mP Z.out.var zBY rfl (.tmp 5) rfl rfl ?_;simp only[Act.put,zQ,zZ,zJ];refine lM mP Z.out.res rfl zBY zGC rfl (.tmp 4) (.tmp 50) rfl rfl rfl ?_;simp only[Act.put,zQ,zZ,zJ];have R:=Z.out.res.store (lB ⟨0,0,0,0,0,0,skl b0 b1 l⟩);have B:=lU Z.out.low (by omega:w.heap.size≤w.heap.size+1) (lB ⟨0,0,0,0,0,0,skl b0 b1 l⟩);iterate 4 go_step
 exact zP (zE rfl _ _ (w.heap.size+1) _ _ _ _ rfl R Tryz.underlying128 rfl mP.i) rfl ⟨by rw[F.out],B⟩):P:=h
theorem zBP{P:Prop}(h:P:=by
 refine⟨by simpa using H.lt,fun j hj=>?_,fun j hj=>by rw[World.frozen?_setCell];exact H.fz j hj⟩
 by_cases e:j=k
 ·subst e;rw[zN rfl];exact World.cell?_setCell_same w (a:=⟨g,j,none⟩) _ (H.at_ j hj)
 ·rw[zL e,qS _ _ _ _ (by simp[Ne.symm e])];exact H.at_ j hj):P:=h
theorem zBE{P:Prop}(h:P:=by
 have K1:=KEY.out _ _ D.out G.out;obtain⟨c1,c2,c3,c4⟩:=K1;obtain⟨t,ht⟩:∃t,q.dw=t:=⟨_,rfl⟩;have HT:=zW ht;rw[ht]at c1;obtain⟨hh,hhh⟩:∃hh,a.hi=hh:=⟨_,rfl⟩;have HHH:=zW hhh;rw[hhh]at c2;clear ht hhh;cases t
 ·go_wp2_with fail;go_end0
  exact⟨rfl,_,by rw[show(q.dw&& !a.hi)=false from by rw[HT.out];rfl];exact D.out.rput 20 (.bool false) rfl⟩
 ·go_wp2_with fail;go_end0
  exact⟨rfl,_,by rw[show(q.dw&& !a.hi)=!hh from by rw[HT.out,HHH.out];rfl];exact D.out.rput 20 (.bool (!hh)) rfl⟩):P:=h
theorem zBC{P:Prop}(h:P:=by refine zY ?_;intro _ hw';obtain⟨u,rfl⟩:=hw';have BE:=zW (B0.out.trans (u.below.mono B0.out.size));go_wp2_with fail;go_ret2;exact⟨by rw[SX.out.1,SX.out.2];rfl,BE.out⟩):P:=h
theorem zBA{P:Prop}(h:P:=by
 have h0:0<n:=by
  rcases Nat.eq_zero_or_pos n with e|e
  ·subst e;exact absurd rfl hne
  ·exact e
 have c0:=hcell 0 zGX;have hlt:=jA W _ c0;have hsp:a.spot=none:=by
  cases hq:a.spot with
  |none=>rfl
  |some z=>
   rw[show a.add 0=a from rfl]at c0
   unfold World.cell? at c0
   rw[hq]at c0
   split at c0<;>simp at c0
 obtain⟨b,o,s⟩:=a;simp only at hsp;subst hsp;refine⟨b,o,rfl,hlt,fun j hj=>?_⟩;rw[qX]at hj;have hj2:j<zs.length:=zGX;have hc:=hcell j hj2;rw[Addr.add_mid]at hc;rw[hc,jB,qJ,zS hj2];rfl):P:=h
theorem zBU{P:Prop}(h:P:=by go_returns;exact⟨rfl,by go_grown⟩):P:=h
theorem zBI{P:Prop}(h:P:=by
 clear hown0;go_wp2_with (first
  |(at_builtin;refine tD rfl (.tmp 5) (.tmp 6) rfl w.heap.size _ 0 [] rfl Q.out.1 (some ad) n c L rfl (HL.out.1.below Q.out.2) HL.out.2.1 (by have:=HL.out.2.2;omega) zGN ?_;intro v1 w1 o1 g1;have P1:=zW (zM o1 (Q.out.2.grown g1 zGN fun j ej=>(Q.out.1.lt j ej).1));clear o1 g1))
 go_ret;refine⟨v1,rfl,?_,P1.out.2⟩;have:=P1.out.1;rw[HL.out.2.1];simpa using this):P:=h
theorem zBO{P:Prop}(h:P:=by
 obtain⟨n,D,es,clock,hb,_⟩:=H.fl;refine⟨fun e=>?_,fun d=>?_,fun d=>?_⟩
 ·have h1:w.heap[mb]?=some (.cells _ _ (0,0)):=H.bk;rw[e,h1]at hb;cases hb
 ·obtain⟨cs,T,h1,_⟩:=H.co.tag mp d;have h1:w.heap[mp]?=some (.cells _ _ (0,0)):=h1;rw[h1]at hb;cases hb
 ·obtain⟨ds,U,fr,h2,_⟩:=H.rc.tag mp d;rw[h2]at hb;cases hb):P:=h
theorem zB0{P:Prop}(h:P:=by unfold pF;first|(simp[b2];done)|(simp[b2];split<;>first|omega|(split<;>omega))):P:=h
theorem zB1{P:Prop}(h:P:=by go_wp2;go_returns;rw[NE.out.1,NE.out.2]at OK⊢;exact⟨rfl,HH.out.both K3.out B3.out R3.out EM.out rfl rfl OK.out,FIN.out _ K3.out⟩):P:=h
theorem zB2{P:Prop}(h:P:=by
 intro l;induction l with
 |nil=>intro a h;exact hK a h
 |cons o l ih=>
  intro a h
  simp only[wpQuiet]at h⊢
  split
  ·rename_i hw;simp only[hw,if_true]at h;exact Oper.quiet_mono (fun a h=>ih a h) h
  ·rename_i hw;simp only[hw]at h;exact ih _ h):P:=h
theorem zB3{P:Prop}(h:P:=by
 generalize World.setRow _ _ _=w9 at R C9 K9 P9⊢;go_wp2_with fail;iterate 4 (try go_step)
 exact zP (zE rfl _ _ g _ _ _ _ rfl R.out Tryz.underlying128 rfl mP.i) rfl ⟨rfl,by rw[E.out];exact⟨_,C9.out,P9.out,K9.out,GW.out⟩⟩):P:=h
theorem zB4{P:Prop}(h:P:=by
 go_upto_region 1 with fail;refine m7 zGV zGV ?_;repeat(go_big_quiet_step ((go_at_call 134;exact cJ (RG.out _))))
 refine zY ?_;intro _ hw';obtain⟨x',rfl⟩:=hw';have b1:=x'.below;go_wp2_with fail;go_ret;exact⟨rfl,b1⟩):P:=h
theorem zB5{P:Prop}(h:P:=by
 go_wp2_with fail;go_end0
 exact⟨rfl,_,D.out.rput 16 _ rfl⟩):P:=h
theorem zB6{P:Prop}(h:P:=by
 obtain rfl|rfl|rfl|rfl|rfl|rfl|rfl|rfl|rfl|rfl|rfl|rfl|rfl|rfl|rfl|rfl:k=0∨k=1∨k=2∨k=3∨k=4∨k=5∨k=6∨k=7∨k=8∨k=9∨k=10∨k=11∨k=12∨k=13∨k=14∨k=15:=by omega
 all_goals exact fun _=>by kernel_rfl):P:=h
theorem zB7{P:Prop}(h:P:=by go_enter Tryz.func86,Tryz.ntmps86;go_wp2_with fail;refine(aE l x _ HL.out).mono ?_;rintro e w1 ⟨rfl,b1⟩;have B1:=zW b1;clear b1;go_wp2_with fail;go_ret;exact⟨by rw[F.out];rfl,(nS _ _).trans (B1.out.mono zGN)⟩):P:=h
theorem zB8{P:Prop}(h:P:=by rintro e u' wg ⟨rfl,rfl,eg,kg⟩;have Z:=zW (Z.out.eff eg kg);exact⟨_,zE rfl _ _ (gi+1+1) _ _ _ _ rfl Z.out.e Tryz.underlying133 rfl fO.i,by rw[P.out.2],v,by rw[P.out.1];exact Z.out.rc.more zBQ,Z.out.k,Z.out.o⟩):P:=h
theorem zB9{P:Prop}(h:P:=by go_wp2_with fail;go_ret;exact⟨rfl,by go_grown⟩):P:=h
theorem zRQ{P:Prop}(h:P:=by
 have hp':tmps[p]?.getD undef=.pointer (some ⟨g,0,none⟩):=by simpa using hp
 have hq':tmps[q]?.getD undef=v:=by simpa using hq
 simp[results,h,hp',hq',asAddr,run_loadVar_row w g t ty cs fr d hg hu hd hi]):P:=h
theorem zRZ{P:Prop}(h:P:=by
 injection hh with hh
 injection hh with _ e3
 subst e3;rcases hT' with e4|e4|e4|e4<;>exact absurd e4 zGL):P:=h
theorem zRJ{P:Prop}(h:P:=by
 generalize World.setRow _ _ _=w2 at RW BW⊢;go_wp2_with fail;iterate 4 (try go_step)
 exact zP (zE rfl _ _ gb _ _ _ _ rfl RW.out Tryz.underlying34 rfl (by rw[wV.i];rfl)) rfl ⟨rfl,BW.out⟩):P:=h
theorem zRX{P:Prop}(h:P:=by go_ret;exact⟨rfl,rfl⟩):P:=h
theorem zRK{P:Prop}(h:P:=by
 intro ad e _;obtain⟨A,cap,gs,e2,p⟩:=R.G;rw[e2]at e;obtain⟨b',o,eA,hb,_⟩:=p.row (by intro c;have:=p.len;rw[c]at this;cases this);simp only at e;rw[eA]at e;cases e
 exact hb):P:=h
theorem zRV{P:Prop}(h:P:=by go_wp2;go_returns;exact⟨rfl,BB.out⟩):P:=h
theorem zRW{P:Prop}(h:P:=by
 unfold wpOpsS;rw[ho];simp only;rw[zN hw];have e:(execOp a.eval o).run P w=.ok .recover w:=by simp[execOp,hop,resolve,go_sem]
 rw[e];simp only;rw[hr];exact h):P:=h
theorem zRY{P:Prop}(h:P:=by refine⟨108,#[],#[.pointer (some ⟨rb,0,none⟩)],by unfold nA;rfl,rfl,enters_of Tryz.func108 zGV rfl,?_⟩;exact(sU X).mono fun e w' h=>xC O h):P:=h
theorem zRL{P:Prop}(h:P:=by refine⟨97,#[],#[.pointer (some ⟨rb,0,none⟩)],by unfold nA;rfl,rfl,enters_of Tryz.func97 zGV rfl,?_⟩;exact(zJR X).mono fun e w' h=>xC O h):P:=h
theorem zRM{P:Prop}(h:P:=by refine⟨o.1,o.2.imp id ?_⟩;rintro⟨k,cap,cur,rfl,hbb,hh,r⟩;exact⟨k,cap,cur,rfl,hbb,(hk k (fun e=>hn (by rw[e];rfl))).trans hh,r⟩):P:=h
theorem zRN{P:Prop}(h:P:=by
 intro ad e hp;obtain⟨b',o,e2,hb,_⟩:=R.sk.row (by intro c;have:=R.sk.len;rw[c]at this;simp at this;omega);rw[e]at e2;cases e2
 exact hb):P:=h
theorem zRH{P:Prop}(h:P:=by generalize World.setRow _ _ _=w3 at R B⊢;go_wp2_with fail;exact zP (mL rfl _ _ w.heap.size _ _ _ _ rfl rfl R mP rfl) rfl ⟨rfl,B⟩):P:=h
theorem zRG{P:Prop}(h:P:=by go_enter Tryz.func70,Tryz.ntmps70;go_wp2;go_ret;exact⟨wM E.out,rfl⟩):P:=h
theorem zRB{P:Prop}(h:P:=by unfold gE;first|(simp;done)|(simp;omega)):P:=h
theorem zRR{P:Prop}(h:P:=by go_wp2_with fail;go_returns;exact⟨⟨_,0,false,rfl,by unfold gE;simp;omega,by omega,rfl,by omega,by omega⟩,by go_grown⟩):P:=h
theorem zRT{P:Prop}(h:P:=by clear M2 K2;generalize World.setRow _ _ _=w3 at M3 K3⊢;go_wp2;go_returns;exact⟨rfl,by rw[FE.out];exact M3.out,K3.out⟩):P:=h
theorem zRD{P:Prop}(h:P:=by unfold Oper.wp;rw[dD x xs ts ho hx eg ha w];simp only[Oper.upon];exact h.mono fun e w' ⟨v,he,hk⟩=>by subst he;exact hk):P:=h
theorem zRF{P:Prop}(h:P:=by
 iterate 4 go_step
 exact zP (zE rfl _ _ (w.heap.size+1) _ _ _ _ rfl R2.out Tryz.underlying80 rfl zBZ) rfl ⟨rfl,B2.out⟩):P:=h
theorem zRS{P:Prop}(h:P:=by refine(RX.out u4).mono ?_;rintro e w6 ⟨rfl,b6⟩;exact⟨_,rfl,rfl,rfl,u4.below.trans (b6.mono u4.below.size)⟩):P:=h
theorem zRP{P:Prop}(h:P:=by rw[h];show Result.ok (slicedAt _ _ _ _ 1) w=_;unfold slicedAt;rw[zL (by first|omega|decide|(simp;done)),xE];rfl):P:=h
theorem zRE{P:Prop}(h:P:=by show s.ex≤s.ex+1∧s.ex+1≤s.ex+1;omega):P:=h
theorem zRC{P:Prop}(h:P:=by simp only[wpQuiet,hw,if_true];exact⟨v,fun w hC=>by unfold Oper.quietAt;rw[h1 w hC];exact⟨rfl,rfl⟩,h⟩):P:=h
theorem zRA{P:Prop}(h:P:=by exact zP (wI rfl _ _ (r+1) _ _ _ _ _ rfl rfl rfl R3.out yQ (mX _)) rfl ⟨rfl,by rw[HR.out];exact B3.out⟩):P:=h
theorem zRU{P:Prop}(h:P:=by
 cases hq:a.spot with
 |none=>rfl
 |some z=>
  unfold World.cell? at h0
  rw[hq]at h0
  split at h0<;>simp at h0):P:=h
theorem zRI{P:Prop}(h:P:=by
 refine⟨_,rfl,H.lt,fun j hj=>?_⟩;have h16:j<16:=by rw[m5]at hj;exact hj
 rw[xE,qL,H.cell h16,wT _ _ h16]):P:=h
theorem zRO{P:Prop}(h:P:=by clear FH;go_wp2;go_ret;exact⟨by rw[e.out];rfl,B.out⟩):P:=h
theorem zR0{P:Prop}(h:P:=by go_wp2_with fail;refine(WZ _ _ h).mono ?_;rintro e w' ⟨rfl,rfl⟩;go_wp2;go_ret;exact⟨wM zGX,rfl⟩):P:=h
theorem zR1{P:Prop}(h:P:=by
 intro ad e hp;obtain⟨b',o,e2,hb,_⟩:=R.K.at_ 0 (by have:=R.K.len;omega);rw[e]at e2;cases e2
 exact hb):P:=h
theorem zR2{P:Prop}(h:P:=by exact zP (mL rfl _ _ (r+1) _ _ _ _ rfl rfl R3.out yQ (mX _)) rfl ⟨rfl,by rw[HR.out];exact B3.out⟩):P:=h
theorem zR3{P:Prop}(h:P:=by clear D5;clear hK K;simp only[Act.put,zQ,zZ,zJ];exact zBH):P:=h
theorem zR4{P:Prop}(h:P:=by generalize World.setCell u5.w _ _=w7 at D⊢;clear D5 cc fc;exact zBH):P:=h
theorem zR5{P:Prop}(h:P:=by go_enter Tryz.func87,Tryz.ntmps87;go_wp2;exact zRX):P:=h
theorem zR6{P:Prop}(h:P:=by have r16:wa.cell? ⟨rb,16,none⟩=some (.int .i64 pc):=(D.out.x.r.cell 16).trans rfl;have f16:=D.out.x.r.frozen 16;exact zB5):P:=h
end Go.Proofs.YtbpniahcjbagmaaGreatDoor
