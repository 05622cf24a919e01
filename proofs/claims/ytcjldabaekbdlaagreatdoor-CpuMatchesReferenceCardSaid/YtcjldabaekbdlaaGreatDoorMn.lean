/- Short names for lemmas of lists, and scripts that stand more than once. -/
import Derived.WalkKit
import Derived.Laws.BitsLemmas
import Derived.Lib.Hide
import Derived.BigQuiet
import Derived.Deep.QuietTactic
import Derived.Below
import Derived.Laws.OwnMore
import Derived.Deep.AppendLies
import Derived.OrdersHeld
import Derived.Handy
import Derived.Deep.MidRow
import Derived.Laws.CopyRow
import Derived.Laws.CopyOwn
import Derived.Maps.AppendAt
import Derived.Deep.Cut
import Derived.Deep.WholeRow
import Derived.Deep.OwnRows
import Derived.KernelRfl
import Derived.RangeFuncBox
import Derived.Outline
import Derived.WalkSpells
import Derived.IntWalk
import Derived.LoopTactic
import Derived.Deep.RegionHeld3
import Derived.StillTailTactics
import Derived.Deep.Draws
import Derived.WalkLawsBesides
import Derived.Laws.EntriesVeiled
import Derived.Lib.MinMax
import Derived.Maps.OwnSet
import Derived.Maps.Views
import Derived.Carry
import Derived.Shelf.Abstract
import Derived.Laws.MakeOwn
import Derived.Laws.Tables
import Derived.Laws.StructEq
import Derived.Deep.CutRange
import Derived.Deep.RegionWith
import Derived.ChangeSlices
import Derived.Deep.SlicePairs
import Derived.ChangeOld
import Derived.OpenShut
import Derived.ShutString
import Derived.RangeFuncCalls
import Derived.OrdersIn
import Derived.RangeFuncLeaves
import Derived.RangeFuncNested
import Derived.RangeFuncBound
import Derived.Shelf.RegionOpen
import Derived.OwnWalkIn
import Derived.TacticsInMore
import Derived.LoopNIn
import Derived.LoopIn
import Derived.BigRegionIn
import Derived.Deep.RegionLaw
import Derived.Laws.AppendOwn
import Derived.Lib.SliceRun
import Derived.OwnWalk
import Derived.Deep.DeepCutAuto
import Derived.Deep.CutBlock
import Derived.Recover
import Derived.ProofKit
import Derived.LaidMore
import Derived.Stop.Joined
import Derived.MakeChecks
import Derived.SevenTiedAt
set_option linter.unusedVariables false
namespace Go.Proofs.YtcjldabaekbdlaaGreatDoor
theorem zQ {α : Type _} (l : List α) (i : Nat) (a : α) : l.toArray.setIfInBounds i a = (l.set i a).toArray := List.setIfInBounds_toArray l i a
theorem zZ {α : Type _} {x : α} {xs : List α} {a : α} : (x :: xs).set 0 a = a :: xs := List.set_cons_zero
theorem zJ {α : Type _} {x : α} {xs : List α} {i : Nat} {a : α} : (x :: xs).set (i + 1) a = x :: xs.set i a := List.set_cons_succ
theorem zX {α : Type _} {xs : List α} {i : Nat} : xs.toArray[i]? = xs[i]? := List.getElem?_toArray
theorem zK {α : Type _} {a : α} {i : Nat} {l : List α} : (a :: l)[i + 1]? = l[i]? := List.getElem?_cons_succ
theorem zV {α : Type _} {a : α} {l : List α} : (a :: l)[0]? = some a := List.getElem?_cons_zero
theorem zW {p : Prop} (h : p) : RowKit.Hid p := Lib.hid h
theorem zY:type_of% @And.intro:=@And.intro
theorem zL:type_of% @if_neg:=@if_neg
theorem zM:type_of% @Go.wpQuiet_nil:=@Go.wpQuiet_nil
theorem zN:type_of% @Go.wp_region_lit:=@Go.wp_region_lit
theorem zH:type_of% @Nat.le_refl:=@Nat.le_refl
theorem zG:type_of% @if_pos:=@if_pos
theorem zB:type_of% @Go.RowKit.Below.refl:=@Go.RowKit.Below.refl
theorem zR:type_of% @Go.World.size_alloc:=@Go.World.size_alloc
theorem zT:type_of% @Go.bodyPost_ret:=@Go.bodyPost_ret
theorem zD:type_of% @Nat.le_trans:=@Nat.le_trans
theorem zF:type_of% @Go.results_cell_row:=@Go.results_cell_row
theorem zS:type_of% @Nat.lt_of_lt_of_le:=@Nat.lt_of_lt_of_le
theorem zP:type_of% @List.getElem?_eq_getElem:=@List.getElem?_eq_getElem
theorem zE:type_of% @Array.getElem?_eq_none:=@Array.getElem?_eq_none
theorem zC:type_of% @decide_eq_false:=@decide_eq_false
theorem zA:type_of% @Go.setRow_other:=@Go.setRow_other
theorem zU:type_of% @Go.IntKind.wrap_i64:=@Go.IntKind.wrap_i64
theorem zO:type_of% @decide_eq_true:=@decide_eq_true
theorem qQ:type_of% @Go.RowKit.Below.heap_setCell:=@Go.RowKit.Below.heap_setCell
theorem qZ:type_of% @of_decide_eq_true:=@of_decide_eq_true
theorem qJ:type_of% @List.getD_eq_getElem?_getD:=@List.getD_eq_getElem?_getD
theorem qX:type_of% @Go.Result.andThen_ok:=@Go.Result.andThen_ok
theorem qK:type_of% @Bool.and_eq_true:=@Bool.and_eq_true
theorem qV:type_of% @List.length_take:=@List.length_take
theorem qW:type_of% @Go.Sem.run_bind:=@Go.Sem.run_bind
theorem qY:type_of% @List.take_of_length_le:=@List.take_of_length_le
theorem qL:type_of% @Go.wpList_plain:=@Go.wpList_plain
theorem qM:type_of% @Go.World.cell?_of_block:=@Go.World.cell?_of_block
theorem qH:type_of% @Array.ext_getElem?:=@Array.ext_getElem?
theorem qG:type_of% @Int.natCast_nonneg:=@Int.natCast_nonneg
theorem qB:type_of% @Nat.zero_add:=@Nat.zero_add
theorem qR:type_of% @Int.eq_ofNat_of_zero_le:=@Int.eq_ofNat_of_zero_le
theorem qT:type_of% @Int.tmod_eq_emod_of_nonneg:=@Int.tmod_eq_emod_of_nonneg
theorem qD:type_of% @List.getElem?_eq_none:=@List.getElem?_eq_none
theorem qF:type_of% @Nat.eq_of_beq_eq_true:=@Nat.eq_of_beq_eq_true
theorem qS:type_of% @Nat.add_assoc:=@Nat.add_assoc
theorem qP:type_of% @List.getElem?_append_right:=@List.getElem?_append_right
theorem qE:type_of% @Nat.zero_le:=@Nat.zero_le
theorem qC:type_of% @Nat.le_succ:=@Nat.le_succ
theorem qA:type_of% @List.getElem?_append_left:=@List.getElem?_append_left
theorem qU:type_of% @Option.some.inj:=@Option.some.inj
theorem qI:type_of% @Go.World.cell?_setCell_other:=@Go.World.cell?_setCell_other
theorem qO:type_of% @Go.World.ownsRow_nil:=@Go.World.ownsRow_nil
theorem jQ:type_of% @List.length_map:=@List.length_map
theorem jZ:type_of% @Array.getElem?_eq_some_iff:=@Array.getElem?_eq_some_iff
theorem jJ:type_of% @Array.getElem?_setIfInBounds:=@Array.getElem?_setIfInBounds
theorem jX:type_of% @Nat.le_of_lt:=@Nat.le_of_lt
theorem jK:type_of% @List.getElem?_map:=@List.getElem?_map
theorem jV:type_of% @Array.all_eq_true_iff_forall_mem:=@Array.all_eq_true_iff_forall_mem
theorem jW:type_of% @Go.Sem.run_pure:=@Go.Sem.run_pure
theorem jY:type_of% @Array.getElem?_toList:=@Array.getElem?_toList
theorem jL:type_of% @Go.trodAll_cons_mk:=@Go.trodAll_cons_mk
theorem jN:type_of% @Go.heap_alloc_new:=@Go.heap_alloc_new
theorem jH:type_of% @List.length_cons:=@List.length_cons
theorem jG:type_of% @decide_eq_true_eq:=@decide_eq_true_eq
theorem jB:type_of% @List.length_append:=@List.length_append
theorem jR:type_of% @List.mem_map:=@List.mem_map
theorem jT:type_of% @Nat.le_of_eq:=@Nat.le_of_eq
theorem jD:type_of% @List.map_append:=@List.map_append
theorem jF:type_of% @List.cons_append:=@List.cons_append
theorem jS:type_of% @Int.toNat_natCast:=@Int.toNat_natCast
theorem jP:type_of% @List.nil_append:=@List.nil_append
theorem jE:type_of% @Go.rounds_succ:=@Go.rounds_succ
theorem jC:type_of% @Prod.mk.injEq:=@Prod.mk.injEq
theorem jA:type_of% @List.all_eq_true:=@List.all_eq_true
theorem jU:type_of% @List.getElem_take:=@List.getElem_take
theorem jO:type_of% @Go.DataW.trod_int:=@Go.DataW.trod_int
theorem j4:type_of% @Go.cell_of_row:=@Go.cell_of_row
theorem j5:type_of% @Go.IntWalk.i64_in:=@Go.IntWalk.i64_in
theorem j6:type_of% @List.not_mem_nil:=@List.not_mem_nil
theorem j7:type_of% @List.take_succ_eq_append_getElem:=@List.take_succ_eq_append_getElem
theorem j8:type_of% @List.mem_range:=@List.mem_range
theorem j9:type_of% @Go.IntKind.wrap_u8:=@Go.IntKind.wrap_u8
theorem kQ:type_of% @List.length_nil:=@List.length_nil
theorem kZ:type_of% @Array.replicate_succ:=@Array.replicate_succ
theorem kJ:type_of% @Array.replicate_zero:=@Array.replicate_zero
theorem kX:type_of% @Go.Boxed.new:=@Go.Boxed.new
theorem kK:type_of% @List.length_drop:=@List.length_drop
theorem kV:type_of% @Option.map_eq_some_iff:=@Option.map_eq_some_iff
theorem kW:type_of% @Nat.mod_eq_of_lt:=@Nat.mod_eq_of_lt
theorem kY:type_of% @List.append_toArray:=@List.append_toArray
theorem kL:type_of% @Go.run_underlying:=@Go.run_underlying
theorem kM:type_of% @Go.DataW.trod_bool:=@Go.DataW.trod_bool
theorem kH:type_of% @Nat.lt_or_ge:=@Nat.lt_or_ge
theorem kR:type_of% @Option.some.injEq:=@Option.some.injEq
theorem kT:type_of% @List.ext_getElem?:=@List.ext_getElem?
theorem kD:type_of% @List.size_toArray:=@List.size_toArray
theorem kF:type_of% @List.push_toArray:=@List.push_toArray
theorem kP:type_of% @Array.length_toList:=@Array.length_toList
theorem kE:type_of% @List.getElem?_eq_some_iff:=@List.getElem?_eq_some_iff
theorem kC:type_of% @Nat.mod_lt:=@Nat.mod_lt
theorem kA:type_of% @List.eq_nil_of_length_eq_zero:=@List.eq_nil_of_length_eq_zero
theorem kU:type_of% @Go.returnsInHanded_of_change_and:=@Go.returnsInHanded_of_change_and
theorem kO:type_of% @List.getElem?_drop:=@List.getElem?_drop
theorem lQ:type_of% @LawfulBEq.eq_of_beq:=@LawfulBEq.eq_of_beq
theorem lZ:type_of% @List.take_zero:=@List.take_zero
theorem lJ:type_of% @List.mem_range'_1:=@List.mem_range'_1
theorem lX:type_of% @Go.wpList_load_row:=@Go.wpList_load_row
theorem lK:type_of% @List.append_nil:=@List.append_nil
theorem lV:type_of% @Array.getElem?_extract:=@Array.getElem?_extract
theorem lW:type_of% @Go.info_parts:=@Go.info_parts
theorem lY:type_of% @Go.Claim7.holds_tied_plain_at:=@Go.Claim7.holds_tied_plain_at
theorem lL:type_of% @BitVec.getMsbD_append:=@BitVec.getMsbD_append
theorem lM:type_of% @Array.mem_of_getElem?:=@Array.mem_of_getElem?
theorem lN:type_of% @Go.ChangeSpec.witness_shaped:=@Go.ChangeSpec.witness_shaped
theorem lH:type_of% @List.append_assoc:=@List.append_assoc
theorem lG:type_of% @Go.wpList_append_own:=@Go.wpList_append_own
theorem lB:type_of% @BitVec.eq_of_getMsbD_eq:=@BitVec.eq_of_getMsbD_eq
theorem lR:type_of% @Go.World.putObj_heap_other:=@Go.World.putObj_heap_other
theorem lT:type_of% @Go.World.block_lt_of_cell?:=@Go.World.block_lt_of_cell?
theorem lD:type_of% @Go.OpenClaim.holds_of_wide:=@Go.OpenClaim.holds_of_wide
theorem lF:type_of% @List.mem_toArray:=@List.mem_toArray
theorem lS:type_of% @List.getElem_mem:=@List.getElem_mem
theorem zBY{P:Prop}(h:P:=by omega):P:=h
theorem zBL{P:Prop}(h:P:=by simp[Act.eval,Act.put]):P:=h
theorem zBM{P:Prop}(h:P:=by kernel_rfl):P:=h
theorem zBN{P:Prop}(h:P:=by simp only[lA,zX,zK,zV];rfl):P:=h
theorem zBH{P:Prop}(h:P:=by decide):P:=h
theorem zBG{P:Prop}(h:P:=by simp only[zX,zK,zV];rfl):P:=h
theorem zBB{P:Prop}(h:P:=by rfl):P:=h
theorem zBR{P:Prop}(h:P:=by simp[Act.eval]):P:=h
theorem zBT{P:Prop}(h:P:=by simp):P:=h
theorem zBD{P:Prop}(h:P:=by simp[World.setRow]):P:=h
theorem zBF{P:Prop}(h:P:=by first|rfl|simp):P:=h
theorem zBS{P:Prop}(h:P:=by simp;omega):P:=h
theorem zBP{P:Prop}(h:P:=by have:=KD.out.2.2.2.2.2.2.1;rw[HO.out,HP.out]at this;simp[hL]at this;omega):P:=h
theorem zBE{P:Prop}(h:P:=by rw[m9];decide):P:=h
theorem zBC{P:Prop}(h:P:=by rw[ED.out];exact(RR.out.step BZ).nums _ _ _ _ _ _ _ _ _):P:=h
theorem zBA{P:Prop}(h:P:=by rw[show(uI s)[3]?=some s.M.v from rfl,FA.out.1];rfl):P:=h
theorem zBU{P:Prop}(h:P:=by rw[mM.i,lC]):P:=h
theorem zBI{P:Prop}(h:P:=by rw[EB.out];exact E.out):P:=h
theorem zBO{P:Prop}(h:P:=by rw[SB.out];exact D.out):P:=h
theorem zB0{P:Prop}(h:P:=by rw[SB.out];exact R.out):P:=h
theorem zB1{P:Prop}(h:P:=by unfold Func.isWrapper;first|(rw[zG (by decide+kernel)];kernel_rfl)|(rw[zL (by decide+kernel)];exact⟨rfl,rfl⟩)):P:=h
theorem zB2{P:Prop}(h:P:=by rw[lC];decide):P:=h
theorem zB3{P:Prop}(h:P:=by simp[World.setCell]):P:=h
theorem zB4{P:Prop}(h:P:=by rw[show(uI s)[0]?=some (.int .i64 s.i)from rfl,FA.out.2.1]):P:=h
theorem zB5{P:Prop}(h:P:=by have:=HG.out;omega):P:=h
theorem zB6{P:Prop}(h:P:=by unfold maxLen;omega):P:=h
theorem zB7{P:Prop}(h:P:=by have:=O.i;omega):P:=h
theorem zB8{P:Prop}(h:P:=by have:=GC.out;omega):P:=h
theorem zB9{P:Prop}(h:P:=by unfold cL;kernel_rfl):P:=h
theorem zRQ{P:Prop}(h:P:=by rw[hs];unfold xO;simp[hl]):P:=h
theorem zRZ{P:Prop}(h:P:=by rw[ED.out,←HS.out];rfl):P:=h
theorem zRJ{P:Prop}(h:P:=by unfold xR;rw[←eR];simp):P:=h
theorem zRX{P:Prop}(h:P:=by have:=Gs.out;omega):P:=h
theorem zRK{P:Prop}(h:P:=by simp[Value.oneCell']):P:=h
theorem zRV{P:Prop}(h:P:=by rw[jB,List.length_singleton,OK.out.2.2.1,HM.out]):P:=h
theorem zRW{P:Prop}(h:P:=by obtain⟨u,rfl⟩:=h;exact(u.below.block _ SZ.out.2.1).trans X.out.b):P:=h
theorem zRY{P:Prop}(h:P:=by obtain⟨u,rfl⟩:=h;exact(u.below.block _ SZ.out.2.2).trans X.out.q):P:=h
theorem zRL{P:Prop}(h:P:=by obtain⟨u,rfl⟩:=h;exact(u.below.block _ SZ.out.1).trans X.out.u):P:=h
theorem zRM{P:Prop}(h:P:=by rw[cJ,mY]):P:=h
theorem zRN{P:Prop}(h:P:=by decide+kernel):P:=h
theorem zRH{P:Prop}(h:P:=by have:=hb.size;simp;omega):P:=h
theorem zRG{P:Prop}(h:P:=by rw[nV];omega):P:=h
theorem zRB{P:Prop}(h:P:=by rw[←HS.out];rfl):P:=h
theorem zRR{P:Prop}(h:P:=by rw[hs];unfold xO;rw[←eF];simp):P:=h
theorem zRT{P:Prop}(h:P:=by unfold xR;rw[eR];simp):P:=h
theorem zRD{P:Prop}(h:P:=by have:=HK.out;have:=HM.out;have:=HX.out;omega):P:=h
theorem zRF{P:Prop}(h:P:=by intro e;have:=h.len;rw[e]at this;cases this):P:=h
theorem zRS{P:Prop}(h:P:=by simp[results,Tryz.results270,go_sem,t2,t3]):P:=h
theorem zRP{P:Prop}(h:P:=by have:=HX.out;omega):P:=h
theorem zRE{P:Prop}(h:P:=by rw[O.M,hK]):P:=h
theorem zRC{P:Prop}(h:P:=by intro c;injection c with _ c;exact hl c):P:=h
theorem zRA{P:Prop}(h:P:=by have:=OK.out.1.z0;have:=RZ.out.2;omega):P:=h
theorem zRU{P:Prop}(h:P:=by rw[mV];omega):P:=h
theorem zRI{P:Prop}(h:P:=by simpa [hq]using hi):P:=h
theorem zRO{P:Prop}(h:P:=by rw[hk];simp):P:=h
theorem zR0{P:Prop}(h:P:=by rw[hs];unfold xO;simp):P:=h
theorem zR1{P:Prop}(h:P:=by have:=O.msk;omega):P:=h
theorem zR2{P:Prop}(h:P:=by unfold cL lI;simp[Value.oneCell']):P:=h
theorem zR3{P:Prop}(h:P:=by rw[e];exact Nat.zero_lt_succ _):P:=h
theorem zR4{P:Prop}(h:P:=by unfold cL;simp[Value.oneCell']):P:=h
theorem zR5{P:Prop}(h:P:=by have:=HA.out;omega):P:=h
theorem zR6{P:Prop}(h:P:=by obtain⟨n,xs,o,r⟩:=rc.log;exact⟨n,xs,cV o B0.out.size,r⟩):P:=h
theorem zR7{P:Prop}(h:P:=by rw[HO.out];have:=NF.out;omega):P:=h
theorem zR8{P:Prop}(h:P:=by rw[qV];omega):P:=h
theorem zR9{P:Prop}(h:P:=by rw[ME.out];exact(RR.out.step BZ).setM PZ):P:=h
theorem zTQ{P:Prop}(h:P:=by rw[gD];rfl):P:=h
theorem zTZ{P:Prop}(h:P:=by show w.heap.size≤w.heap.size+1+1;omega):P:=h
theorem zTJ{P:Prop}(h:P:=by rintro rfl;simp at hk):P:=h
theorem zTX{P:Prop}(h:P:=by rw[GR.out.len];exact KL.out):P:=h
theorem zTK{P:Prop}(h:P:=by unfold uok;omega):P:=h
theorem zTV{P:Prop}(h:P:=by cases d<;>simp_all [TypeDesc.isRow]):P:=h
theorem zTW{P:Prop}(h:P:=by have:=Q.out.2.2.2.2.size;simp;omega):P:=h
theorem zTY{P:Prop}(h:P:=by rw[cQ];omega):P:=h
theorem zTL{P:Prop}(h:P:=by rw[hs,eF];unfold xO;simp):P:=h
theorem zTM{P:Prop}(h:P:=by rw[hs,eR];unfold xR;simp):P:=h
theorem zTN{P:Prop}(h:P:=by rw[nV];exact R.fl.1.symm):P:=h
theorem zTH{P:Prop}(h:P:=by rw[yQ.i,mV]):P:=h
theorem zTG{P:Prop}(h:P:=by have:=DK.out;have:=HY.out;omega):P:=h
theorem zTB{P:Prop}(h:P:=by rw[ME.out,HK.out,←HS.out];rfl):P:=h
theorem zTR{P:Prop}(h:P:=by rw[←hs];rfl):P:=h
theorem zTT{P:Prop}(h:P:=by simp[Act.eval,Act.put,rsC,Sl.v]):P:=h
theorem zTD{P:Prop}(h:P:=by rw[nX];omega):P:=h
theorem zTF{P:Prop}(h:P:=by rw[uP];omega):P:=h
theorem zTS{P:Prop}(h:P:=by
 have FD:=zW (show dec b0 b1 b2 b3 l=⟨(o:Int),pX .pX (x:Int),pY .pX (y:Int),pN .pX (x:Int) (n:Int),pNN .pX (b1:Int),pA .pX (nnn:Int) (b2*256+b3:Nat),2⟩ by rw[wL OKY.out HR.out,rN HB.out.1 HB.out.2.1 OKY.out,HR.out,HO.out,HP.out];unfold dx;rw[E.out.2.1,E.out.2.2.1,E.out.2.2.2.1,E.out.2.2.2.2,zL zBP]);have J0:=zW (show RB w w1.heap.size w2.heap.size #[.int .i64 (hd:Int),.int .i64 (x:Int),.int .i64 (y:Int),.int .i64 (n:Int),.int .i64 (b1:Int),.int .i64 (nnn:Int)] #[.int .i64 (o:Int),.int .i64 0,.int .i64 0,.int .i64 0,.int .i64 0,.int .i64 0,.int .i64 2] (w2.alloc (.cells #[.int .i64 (o:Int),.int .i64 0,.int .i64 0,.int .i64 0,.int .i64 0,.int .i64 0,.int .i64 2] 47))from⟨R2.out.alloc _,G2.out.alloc _,Blk.new _ _ _,B2.out.alloc (jX R2.out.lt) _,hw1,G2.out.lt⟩);have J1:=zW (J0.out.alloc (.cells #[.int .i64 5,.int .i64 6,.int .i64 7,.int .i64 8,.int .i64 9,.int .i64 10,.int .i64 11,.int .i64 12,.int .i64 13,.int .i64 14,.int .i64 15,.int .i64 16,.int .i64 17,.int .i64 18,.int .i64 19,.int .i64 21,.int .i64 22,.int .i64 23,.int .i64 24,.int .i64 25,.int .i64 26,.int .i64 27,.int .i64 28,.int .i64 29,.int .i64 30,.int .i64 31,.int .i64 32,.int .i64 33,.int .i64 34,.int .i64 41,.int .i64 42,.int .i64 43,.int .i64 44,.int .i64 46,.int .i64 47,.int .i64 51] 3));go_wp2_with fail;refine(mO (o:Int) LX _ 36 _ _ gY zBH (mS _ _ 3 LX _ _ rfl yO zBF)).mono ?_;rintro e q1 ⟨rfl,rfl⟩;rw[show vL (o:Int) LX=true by have:=KD.out.1;rw[HO.out,HP.out]at this;exact this];clear J0;generalize World.alloc _ _=q1 at J1⊢;obtain⟨g,hg⟩:∃g,w1.heap.size=g:=⟨_,rfl⟩;obtain⟨bx,hbx⟩:∃bx,w2.heap.size=bx:=⟨_,rfl⟩;rw[hg,hbx]at J1;try rw[hg]
 try rw[hbx]
 have HGX:=zW (zY hg hbx);clear hg hbx;simp only[];have J2:=zW ((J1.out.put 1 (.int .i64 (x:Int))).alloc (.cells #[.int .i64 7,.int .i64 10,.int .i64 11,.int .i64 12,.int .i64 13,.int .i64 14,.int .i64 15,.int .i64 16,.int .i64 17,.int .i64 18,.int .i64 19,.int .i64 23,.int .i64 41,.int .i64 46,.int .i64 47] 3));have cv1:=J1.out.var.cell 1;have fv1:=J1.out.var.frozen 1;simp only[lI,zQ,zZ,zJ,zX,zK,zV]at cv1;have cx:=J1.out.fl.cell 1;have cy:=J1.out.fl.cell 2;have cn:=J1.out.fl.cell 3;have cb:=J1.out.fl.cell 4;have ca:=J1.out.fl.cell 5;simp only[zX,zK,zV]at cx cy cn cb ca;go_wp2_with fail;refine(mO (o:Int) LY _ 15 _ _ gW zBH (mS _ _ 3 LY _ _ rfl yU zBF)).mono ?_;rintro e q2 ⟨rfl,rfl⟩;rw[show vL (o:Int) LY=false by have:=KD.out.2.1;rw[HO.out,HP.out]at this;exact this];clear J1 cv1 fv1 cx cy cn cb ca;generalize World.alloc _ _=q2 at J2⊢;simp only[];have J3:=zW (J2.out.alloc (.cells #[.int .i64 23,.int .i64 35,.int .i64 45] 3));have cx:=J2.out.fl.cell 1;have cy:=J2.out.fl.cell 2;have cn:=J2.out.fl.cell 3;have cb:=J2.out.fl.cell 4;have ca:=J2.out.fl.cell 5;simp only[zX,zK,zV]at cx cy cn cb ca;go_wp2_with fail;refine(mO (o:Int) LN _ 3 _ _ gL zBH (mS _ _ 3 LN _ _ rfl uQ zBF)).mono ?_;rintro e q3 ⟨rfl,rfl⟩;rw[show vL (o:Int) LN=false by have:=KD.out.2.2.1;rw[HO.out,HP.out]at this;exact this];clear J2 cx cy cn cb ca;generalize World.alloc _ _=q3 at J3⊢;simp only[];have n49:((o:Int)==49)=false:=by have:=KD.out.2.2.2.2.2.1;rw[HO.out,HP.out]at this;exact this
 have J4:=zW (J3.out.alloc (.cells #[.int .i64 5,.int .i64 6,.int .i64 8,.int .i64 9,.int .i64 22] 3));have cx:=J3.out.fl.cell 1;have cy:=J3.out.fl.cell 2;have cn:=J3.out.fl.cell 3;have cb:=J3.out.fl.cell 4;have ca:=J3.out.fl.cell 5;simp only[zX,zK,zV]at cx cy cn cb ca;go_wp2_with fail;refine(mO (o:Int) LNN _ 5 _ _ wN zBH (mS _ _ 3 LNN _ _ rfl xA zBF)).mono ?_;rintro e q4 ⟨rfl,rfl⟩;rw[show vL (o:Int) LNN=false by have:=KD.out.2.2.2.1;rw[HO.out,HP.out]at this;exact this];clear J3 cx cy cn cb ca;generalize World.alloc _ _=q4 at J4⊢;simp only[];have J5:=zW (J4.out.alloc (.cells #[.int .i64 3,.int .i64 4,.int .i64 20,.int .i64 21] 3));have cx:=J4.out.fl.cell 1;have cy:=J4.out.fl.cell 2;have cn:=J4.out.fl.cell 3;have cb:=J4.out.fl.cell 4;have ca:=J4.out.fl.cell 5;simp only[zX,zK,zV]at cx cy cn cb ca;go_wp2_with fail;refine(mO (o:Int) LA _ 4 _ _ gM zBH (mS _ _ 3 LA _ _ rfl uZ zBF)).mono ?_;rintro e q5 ⟨rfl,rfl⟩;rw[show vL (o:Int) LA=false by have:=KD.out.2.2.2.2.1;rw[HO.out,HP.out]at this;exact this];clear J4 cx cy cn cb ca;generalize World.alloc _ _=q5 at J5⊢;simp only[];have n48:((o:Int)==48)=false:=by have:=KD.out.2.2.2.2.2.2.1;rw[HO.out,HP.out]at this;exact this
 have Z:=zW (J5.out);have cx:=J5.out.fl.cell 1;have cy:=J5.out.fl.cell 2;have cn:=J5.out.fl.cell 3;have cb:=J5.out.fl.cell 4;have ca:=J5.out.fl.cell 5;simp only[zX,zK,zV]at cx cy cn cb ca;go_upto_region 21 with fail;have Y:=zW (show RB w g bx #[.int .i64 (hd:Int),.int .i64 (x:Int),.int .i64 (y:Int),.int .i64 (n:Int),.int .i64 (b1:Int),.int .i64 (nnn:Int)] (lI ⟨(o:Int),(x:Int),0,0,0,0,2⟩) q5 from Z.out);refine zN ?_;refine lP (cs:=lI ⟨(o:Int),(x:Int),0,0,0,0,2⟩) mN Y.out.var rfl rfl (.tmp 13) rfl rfl ?_;simp only[Act.put,zQ,zZ,zJ];refine lE mN Y.out.res rfl rfl zB9 rfl (.tmp 10) (.tmp 94) rfl rfl rfl ?_;simp only[Act.put,zQ,zZ,zJ];have RR:=Y.out.res.store (lI ⟨(o:Int),(x:Int),0,0,0,0,2⟩);have BR:=lU Y.out.low (zH _) (lI ⟨(o:Int),(x:Int),0,0,0,0,2⟩);iterate 4 go_step
 exact zT (zF rfl _ _ w.heap.size _ _ _ _ rfl RR Tryz.underlying47 rfl mN.i) rfl ⟨by rw[FD.out];rfl,BR⟩):P:=h
theorem zTP{P:Prop}(h:P:=by go_upto_region 38 with fail;have DM:=zW (D0.out.put HX.out.1 R);clear D0 cx cy fx f15 c15 i0 i1 i2 i4 p1 p4;generalize World.setCell _ _ _=w4 at DM⊢;have c15:=DM.out.cx (show 15<16 by decide);have f15:=DM.out.r.frozen 15;go_upto_region 40 with fail;have DE:=zW (DM.out.put (show 15<16 by decide) F);clear DM c15 f15;generalize World.setCell _ _ _=w5 at DE⊢;refine zN ?_;refine lP mD DE.out.r (mK _) rfl (.tmp 3) rfl rfl ?_;simp only[Act.put,zQ,zZ,zJ];refine lE mD DE.out.o (nX _) (mK _) (vT _) rfl (.tmp 6) (.tmp 111) rfl rfl rfl ?_;simp only[Act.put,zQ,zZ,zJ];have RE:=DE.out.o.store (rg (upd (upd v x R) 15 F));have BE:=lU DE.out.low (show w.heap.size≤g+1+1+1 by have:=GL.out;omega) (rg (upd (upd v x R) 15 F));generalize World.setRow _ _ _=w9 at RE BE⊢;clear DE;go_wp2_with fail;exact zT (mW rfl _ _ (g+1+1+1) _ _ _ _ rfl rfl RE mD (mK _)) rfl ⟨by rw[AE.out];rfl,BE⟩):P:=h
theorem zTE{P:Prop}(h:P:=by
 have f1:=j5 (x-width) zBY;have O1:=zW (rP em w0 w1);have O2:=zW fun w b X=>tE p 0#64 x width i1 i2 ei w b m1 m2 em X zBY zBY;have O3:=zW (pF ej zBY zBY);have O4:=zW (M9 hq1 hq2);clear ej hq1 hq2;clear em ei;go_enter Tryz.func270,Tryz.ntmps270;go_wp2_with fail;clear hp;have X10:Box w.heap.size 0 0 ((w.alloc (.cells #[.int .u64 0,.int .u64 0] 66)).alloc (.cells #[.int .u64 (p.toNat:Int),.int .u64 0] 66)):=(Box.new w 0 0 66).alloc _;have X11:Box (w.heap.size+1) p 0#64 ((w.alloc (.cells #[.int .u64 0,.int .u64 0] 66)).alloc (.cells #[.int .u64 (p.toNat:Int),.int .u64 0] 66)):=by
  have:=Box.new (w.alloc (.cells #[.int .u64 0,.int .u64 0] 66)) p 0#64 66;rw[zR]at this;exact this
 have BB:=zW ((((zB _ w).alloc (zH _) (.cells #[.int .u64 0,.int .u64 0] 66)).alloc zBT (.cells #[.int .u64 (p.toNat:Int),.int .u64 0] 66)));have s1:=zW X11.lt;have X10:=zW X10;have X11:=zW X11;generalize (w.alloc (.cells #[.int .u64 0,.int .u64 0] 66)).alloc (.cells #[.int .u64 (p.toNat:Int),.int .u64 0] 66)=wa at*;have c0:∀x:mH wa,x.w.cell? ⟨w.heap.size+1,0,none⟩=some (.int .u64 (p.toNat:Int)):=fun x=>X11.out.c0▸x.below.cell (p:=⟨w.heap.size+1,0,none⟩) s1.out;have c1:∀x:mH wa,x.w.cell? ⟨w.heap.size+1,1,none⟩=some (.int .u64 0):=fun x=>X11.out.c1▸x.below.cell (p:=⟨w.heap.size+1,1,none⟩) s1.out;refine uV (C:=fun w'=>∃x:mH wa,w'=x.w) (.fork [0,1,2] 3 (.fork [] 4 (.fork [] 5 (.call [] 6 (.call [] 7 (.last []))) 6 (.call [] 5 (.call [] 7 (.last [])))) 6 (.call [] 4 (.call [] 5 (.call [] 7 (.last []))))) 6 (.call [] 3 (.call [] 4 (.call [] 5 (.call [] 7 (.last [])))))) zBM zBM (fun _ _ d _ _ h=>by cases d<;>exact h) ⟨⟨wa.drew,(zB _ _).drew⟩,rfl⟩ ?_;intro wn hwd;have DD:=zW (show Below wa.heap.size wa wn by rw[hwd];exact(zB _ _).drew);clear hwd;repeat' (first
  |with_reducible refine zY ?_ ?_
  |skip
   with_reducible show cO _ _ _ _ 3 _ _ _
   refine nO zBB zBB ?_
   intro K hK
   go_wp2_with fail
   refine(O1.out _).mono ?_
   rintro e wn ⟨rfl,b2⟩
   have DD:=zW (DD.out.trans (b2.mono DD.out.size))
   try have ZZ:=zW (ZZ.out.step b2)
   clear b2
   simp only[]
   refine hK _ _ ⟨⟨wn,DD.out⟩,rfl⟩ ?_
   clear hK K
  |skip
   with_reducible show cO _ _ _ _ 4 _ _ _
   refine nO zBB zBB ?_
   intro K hK
   go_wp2_with fail
   have MM:=zW (Box.new wn m1 m2 66)
   try have ZZ:=zW (ZZ.out.alloc (.cells #[.int .u64 (m1.toNat:Int),.int .u64 (m2.toNat:Int)] 66))
   have DD:=zW (DD.out.alloc DD.out.size (.cells #[.int .u64 (m1.toNat:Int),.int .u64 (m2.toNat:Int)] 66))
   refine hK _ _ ⟨⟨_,DD.out⟩,rfl⟩ ?_
   clear hK K
   generalize wn.alloc (.cells #[.int .u64 (m1.toNat:Int),.int .u64 (m2.toNat:Int)] 66)=wn at*
  |skip
   with_reducible show cO _ _ _ _ 5 _ _ _
   refine nO zBB zBB ?_
   intro K hK
   go_wp2_with fail
   refine(O2.out _ _ MM.out).mono ?_
   rintro e wn ⟨rfl,b2⟩
   have DD:=zW (DD.out.trans (b2.mono DD.out.size))
   try have ZZ:=zW (ZZ.out.step b2)
   clear b2 MM
   simp only[]
   refine hK _ _ ⟨⟨wn,DD.out⟩,rfl⟩ ?_
   clear hK K
  |skip
   with_reducible show cO _ _ _ _ 6 _ _ _
   refine nO zBB zBB ?_
   intro K hK
   go_wp2_with fail
   have ZZ:=zW (Box.new wn 0 0 66)
   have hz:=zW DD.out.size
   try have MM:=zW (MM.out.alloc (.cells #[.int .u64 0,.int .u64 0] 66))
   have DD:=zW (DD.out.alloc DD.out.size (.cells #[.int .u64 0,.int .u64 0] 66))
   refine hK _ _ ⟨⟨_,DD.out⟩,rfl⟩ ?_
   clear hK K
   obtain⟨z,hzz⟩:∃z,z=wn.heap.size:=⟨_,rfl⟩
   have ZZ:=zW (show Box z 0 0 (wn.alloc (.cells #[.int .u64 0,.int .u64 0] 66))from hzz▸ZZ.out)
   rw[←hzz]at hz⊢
   generalize wn.alloc (.cells #[.int .u64 0,.int .u64 0] 66)=wn at*
   clear hzz
  |skip
   with_reducible show cO _ _ _ _ 7 _ _ _
   refine nO zBB zBB ?_
   intro K hK
   obtain⟨y1,y2,y3,y4,y5⟩:=ZZ.out
   have ZZ:=zW (ZZ.out.set i1 i2)
   have DD:=zW ((DD.out.setCell (p:=⟨z,0,none⟩) hz.out (.int .u64 (i1.toNat:Int))).setCell (p:=⟨z,1,none⟩) hz.out (.int .u64 (i2.toNat:Int)))
   go_wp2_with fail
   generalize (wn.setCell ⟨z,0,none⟩ (.int .u64 (i1.toNat:Int))).setCell ⟨z,1,none⟩ (.int .u64 (i2.toNat:Int))=wz at*
   refine hK _ _ ⟨⟨wz,DD.out⟩,rfl⟩ ?_
   clear hK K y1 y2 y3 y4 y5
   refine tN zBN ?_
   refine zM ?_
   have FB:=zW (BB.out.trans (DD.out.mono BB.out.size))
   have F10:=zW (X10.out.below DD.out (Nat.lt_trans (Nat.lt_succ_self _) s1.out))
   have F11:=zW (X11.out.below DD.out s1.out)
   have hz0:w.heap.size+1<z:=zS s1.out hz.out
   clear DD hz c0 c1
   obtain⟨z1,z2,z3,z4,z5⟩:=ZZ.out
   obtain⟨t1,t2,t3,t4,t5⟩:=F10.out
   clear t1 t2 t3 t4 t5 z1 z2 z3 z4 z5
   go_wp2_with fail
   haveI:Nonempty (Two (w.heap.size+1) z p 0#64 i1 i2):=⟨⟨wz,F11.out,ZZ.out⟩⟩
   have d0:∀x:Two (w.heap.size+1) z p 0#64 i1 i2,x.w.cell? ⟨w.heap.size+1,0,none⟩=some (.int .u64 (p.toNat:Int)):=fun x=>x.left.c0
   have d1:∀x:Two (w.heap.size+1) z p 0#64 i1 i2,x.w.cell? ⟨w.heap.size+1,1,none⟩=some (.int .u64 0):=fun x=>x.left.c1
   have d2:∀x:Two (w.heap.size+1) z p 0#64 i1 i2,x.w.cell? ⟨z,0,none⟩=some (.int .u64 (i1.toNat:Int)):=fun x=>x.right.c0
   have d3:∀x:Two (w.heap.size+1) z p 0#64 i1 i2,x.w.cell? ⟨z,1,none⟩=some (.int .u64 (i2.toNat:Int)):=fun x=>x.right.c1
   have G10:=zW F10.out.drew
   have G11:=zW F11.out.drew
   have GZ:=zW ZZ.out.drew
   have GB:=zW FB.out.drew
   clear F10 F11 ZZ FB
   refine nR (C:=fun w'=>∃x:Two (w.heap.size+1) z p 0#64 i1 i2,w'=x.w) [([0,1,2,3,4],5),([],6),([],7)] [] zBM zBM (fun _ _ d _ _ h=>by cases d<;>exact h) ⟨⟨wz.drew,G11.out,GZ.out⟩,rfl⟩ ?_
   intro wy hwy
   generalize wz.drew=wq at*
   subst hwy
   refine nD zBN zBB ?_
   repeat(go_big_quiet_step (fail))
   refine zM ?_
   refine nK zBB ?_
   intro K hK
   clear d0 d1 d2 d3
   go_wp2_with fail
   refine(O3.out _).mono ?_
   rintro e wr ⟨rfl,b2⟩
   have G10:=zW (G10.out.step b2)
   have G11:=zW (G11.out.step b2)
   have GZ:=zW (GZ.out.step b2)
   have GB:=zW (GB.out.trans (b2.mono GB.out.size))
   clear b2
   simp only[]
   refine hK _ _ ⟨⟨wr,G11.out,GZ.out⟩,rfl⟩ ?_
   clear hK K
   refine nD zBN zBB ?_
   refine zM ?_
   refine nK zBB ?_
   intro K hK
   go_wp2_with fail
   refine(O4.out _).mono ?_
   rintro e ws ⟨rfl,b2⟩
   have G10:=zW (G10.out.step b2)
   have G11:=zW (G11.out.step b2)
   have GZ:=zW (GZ.out.step b2)
   have GB:=zW (GB.out.trans (b2.mono GB.out.size))
   clear b2
   simp only[]
   refine hK _ _ ⟨⟨ws,G11.out,GZ.out⟩,rfl⟩ ?_
   clear hK K
   refine nD zBN zBB ?_
   refine zM ?_
   refine nK zBB ?_
   intro K hK
   obtain⟨t1,t2,t3,t4,t5⟩:=G10.out
   have FF:=zW (G10.out.set q1 q2)
   have G11:=zW ((G11.out.other (g:=w.heap.size) zBY 0 (.int .u64 (q1.toNat:Int))).other (g:=w.heap.size) zBY 1 (.int .u64 (q2.toNat:Int)))
   have GZ:=zW ((GZ.out.other (g:=w.heap.size) zBY 0 (.int .u64 (q1.toNat:Int))).other (g:=w.heap.size) zBY 1 (.int .u64 (q2.toNat:Int)))
   have FB:=zW ((GB.out.setCell (p:=⟨w.heap.size,0,none⟩) (zH _) (.int .u64 (q1.toNat:Int))).setCell (p:=⟨w.heap.size,1,none⟩) (zH _) (.int .u64 (q2.toNat:Int)))
   go_wp2_with fail
   generalize (ws.setCell ⟨w.heap.size,0,none⟩ (.int .u64 (q1.toNat:Int))).setCell ⟨w.heap.size,1,none⟩ (.int .u64 (q2.toNat:Int))=wf at*
   refine hK _ _ ⟨⟨wf,G11.out,GZ.out⟩,rfl⟩ ?_
   clear hK K t1 t2 t3 t4 t5
   refine cT zBN ?_
   refine zM ?_
   obtain⟨t1,t2,t3,t4,t5⟩:=FF.out
   go_wp2
   exact zT (v:=.agg #[.int .u64 (q1.toNat:Int),.int .u64 (q2.toNat:Int)]) zRS rfl ⟨rfl,FB.out⟩
  |skip
   with_reducible show xH _ _ _ _ (.fork _ _ _ _ _) _ _
   refine bG zBN ?_
   repeat(go_big_quiet_step (fail))
   refine zM ?_
  |skip
   with_reducible show xH _ _ _ _ (.call _ _ _) _ _
   refine uG zBN ?_
   refine zM ?_)):P:=h
theorem zTC{P:Prop}(h:P:=by
 have f1:=j5 (x-width) zBY;have O1:=zW (rP em w0 w1);have O2:=zW fun w b X=>tE p 0#64 x width i1 i2 ei w b m1 m2 em X zBY zBY;clear em ei;go_enter Tryz.func270,Tryz.ntmps270;go_wp2_with fail;clear hp;have X10:Box w.heap.size 0 0 ((w.alloc (.cells #[.int .u64 0,.int .u64 0] 66)).alloc (.cells #[.int .u64 (p.toNat:Int),.int .u64 0] 66)):=(Box.new w 0 0 66).alloc _;have X11:Box (w.heap.size+1) p 0#64 ((w.alloc (.cells #[.int .u64 0,.int .u64 0] 66)).alloc (.cells #[.int .u64 (p.toNat:Int),.int .u64 0] 66)):=by
  have:=Box.new (w.alloc (.cells #[.int .u64 0,.int .u64 0] 66)) p 0#64 66;rw[zR]at this;exact this
 have BB:=zW ((((zB _ w).alloc (zH _) (.cells #[.int .u64 0,.int .u64 0] 66)).alloc zBT (.cells #[.int .u64 (p.toNat:Int),.int .u64 0] 66)));have s1:=zW X11.lt;have X10:=zW X10;have X11:=zW X11;generalize (w.alloc (.cells #[.int .u64 0,.int .u64 0] 66)).alloc (.cells #[.int .u64 (p.toNat:Int),.int .u64 0] 66)=wa at*;have c0:∀x:mH wa,x.w.cell? ⟨w.heap.size+1,0,none⟩=some (.int .u64 (p.toNat:Int)):=fun x=>X11.out.c0▸x.below.cell (p:=⟨w.heap.size+1,0,none⟩) s1.out;have c1:∀x:mH wa,x.w.cell? ⟨w.heap.size+1,1,none⟩=some (.int .u64 0):=fun x=>X11.out.c1▸x.below.cell (p:=⟨w.heap.size+1,1,none⟩) s1.out;refine uV (C:=fun w'=>∃x:mH wa,w'=x.w) (.fork [0,1,2] 3 (.fork [] 4 (.fork [] 5 (.call [] 6 (.call [] 7 (.last []))) 6 (.call [] 5 (.call [] 7 (.last [])))) 6 (.call [] 4 (.call [] 5 (.call [] 7 (.last []))))) 6 (.call [] 3 (.call [] 4 (.call [] 5 (.call [] 7 (.last [])))))) zBM zBM (fun _ _ d _ _ h=>by cases d<;>exact h) ⟨⟨wa.drew,(zB _ _).drew⟩,rfl⟩ ?_;intro wn hwd;have DD:=zW (show Below wa.heap.size wa wn by rw[hwd];exact(zB _ _).drew);clear hwd;repeat' (first
  |with_reducible refine zY ?_ ?_
  |skip
   with_reducible show cO _ _ _ _ 3 _ _ _
   refine nO zBB zBB ?_
   intro K hK
   go_wp2_with fail
   refine(O1.out _).mono ?_
   rintro e wn ⟨rfl,b2⟩
   have DD:=zW (DD.out.trans (b2.mono DD.out.size))
   try have ZZ:=zW (ZZ.out.step b2)
   clear b2
   simp only[]
   refine hK _ _ ⟨⟨wn,DD.out⟩,rfl⟩ ?_
   clear hK K
  |skip
   with_reducible show cO _ _ _ _ 4 _ _ _
   refine nO zBB zBB ?_
   intro K hK
   go_wp2_with fail
   have MM:=zW (Box.new wn m1 m2 66)
   try have ZZ:=zW (ZZ.out.alloc (.cells #[.int .u64 (m1.toNat:Int),.int .u64 (m2.toNat:Int)] 66))
   have DD:=zW (DD.out.alloc DD.out.size (.cells #[.int .u64 (m1.toNat:Int),.int .u64 (m2.toNat:Int)] 66))
   refine hK _ _ ⟨⟨_,DD.out⟩,rfl⟩ ?_
   clear hK K
   generalize wn.alloc (.cells #[.int .u64 (m1.toNat:Int),.int .u64 (m2.toNat:Int)] 66)=wn at*
  |skip
   with_reducible show cO _ _ _ _ 5 _ _ _
   refine nO zBB zBB ?_
   intro K hK
   go_wp2_with fail
   refine(O2.out _ _ MM.out).mono ?_
   rintro e wn ⟨rfl,b2⟩
   have DD:=zW (DD.out.trans (b2.mono DD.out.size))
   try have ZZ:=zW (ZZ.out.step b2)
   clear b2 MM
   simp only[]
   refine hK _ _ ⟨⟨wn,DD.out⟩,rfl⟩ ?_
   clear hK K
  |skip
   with_reducible show cO _ _ _ _ 6 _ _ _
   refine nO zBB zBB ?_
   intro K hK
   go_wp2_with fail
   have ZZ:=zW (Box.new wn 0 0 66)
   have hz:=zW DD.out.size
   try have MM:=zW (MM.out.alloc (.cells #[.int .u64 0,.int .u64 0] 66))
   have DD:=zW (DD.out.alloc DD.out.size (.cells #[.int .u64 0,.int .u64 0] 66))
   refine hK _ _ ⟨⟨_,DD.out⟩,rfl⟩ ?_
   clear hK K
   obtain⟨z,hzz⟩:∃z,z=wn.heap.size:=⟨_,rfl⟩
   have ZZ:=zW (show Box z 0 0 (wn.alloc (.cells #[.int .u64 0,.int .u64 0] 66))from hzz▸ZZ.out)
   rw[←hzz]at hz⊢
   generalize wn.alloc (.cells #[.int .u64 0,.int .u64 0] 66)=wn at*
   clear hzz
  |skip
   with_reducible show cO _ _ _ _ 7 _ _ _
   refine nO zBB zBB ?_
   intro K hK
   obtain⟨y1,y2,y3,y4,y5⟩:=ZZ.out
   have ZZ:=zW (ZZ.out.set i1 i2)
   have DD:=zW ((DD.out.setCell (p:=⟨z,0,none⟩) hz.out (.int .u64 (i1.toNat:Int))).setCell (p:=⟨z,1,none⟩) hz.out (.int .u64 (i2.toNat:Int)))
   go_wp2_with fail
   generalize (wn.setCell ⟨z,0,none⟩ (.int .u64 (i1.toNat:Int))).setCell ⟨z,1,none⟩ (.int .u64 (i2.toNat:Int))=wz at*
   refine hK _ _ ⟨⟨wz,DD.out⟩,rfl⟩ ?_
   clear hK K y1 y2 y3 y4 y5
   refine tN zBN ?_
   refine zM ?_
   have FB:=zW (BB.out.trans (DD.out.mono BB.out.size))
   have F10:=zW (X10.out.below DD.out (Nat.lt_trans (Nat.lt_succ_self _) s1.out))
   have F11:=zW (X11.out.below DD.out s1.out)
   have hz0:w.heap.size+1<z:=zS s1.out hz.out
   clear DD hz c0 c1
   obtain⟨z1,z2,z3,z4,z5⟩:=ZZ.out
   obtain⟨t1,t2,t3,t4,t5⟩:=F10.out
   go_wp2
   have FF:=zW (F10.out.set i1 i2)
   have FB:=zW ((FB.out.setCell (p:=⟨w.heap.size,0,none⟩) (zH _) (.int .u64 (i1.toNat:Int))).setCell (p:=⟨w.heap.size,1,none⟩) (zH _) (.int .u64 (i2.toNat:Int)))
   generalize (wz.setCell ⟨w.heap.size,0,none⟩ (.int .u64 (i1.toNat:Int))).setCell ⟨w.heap.size,1,none⟩ (.int .u64 (i2.toNat:Int))=wf at*
   clear z1 z2 z3 z4 z5 t1 t2 t3 t4 t5
   obtain⟨t1,t2,t3,t4,t5⟩:=FF.out
   exact zT (v:=.agg #[.int .u64 (i1.toNat:Int),.int .u64 (i2.toNat:Int)]) zRS rfl ⟨rfl,FB.out⟩
  |skip
   with_reducible show xH _ _ _ _ (.fork _ _ _ _ _) _ _
   refine bG zBN ?_
   repeat(go_big_quiet_step (fail))
   refine zM ?_
  |skip
   with_reducible show xH _ _ _ _ (.call _ _ _) _ _
   refine uG zBN ?_
   refine zM ?_)):P:=h
theorem zTA{P:Prop}(h:P:=by clear eR;go_wp2_with fail;refine(BI.out _).mono ?_;rintro e w' ⟨rfl,rfl⟩;have wr:=vZ RB.out;have wf:=vZ (show 0<256 by decide);go_upto_region 38 with fail;have DM:=zW (D0.out.put HX.out.1 R);clear D0 cx cy fx f15 c15 i0 i1 i2 i4 p1 p4;generalize World.setCell _ _ _=w4 at DM⊢;have c15:=DM.out.cx (show 15<16 by decide);have f15:=DM.out.r.frozen 15;go_upto_region 40 with fail;have DE:=zW (DM.out.put (show 15<16 by decide) 0);clear DM c15 f15;generalize World.setCell _ _ _=w5 at DE⊢;refine zN ?_;refine lP mD DE.out.r (mK _) rfl (.tmp 3) rfl rfl ?_;simp only[Act.put,zQ,zZ,zJ];refine lE mD DE.out.o (nX _) (mK _) (vT _) rfl (.tmp 6) (.tmp 111) rfl rfl rfl ?_;simp only[Act.put,zQ,zZ,zJ];have RE:=DE.out.o.store (rg (upd (upd v x R) 15 0));have BE:=lU DE.out.low (show w.heap.size≤g+1+1+1 by have:=GL.out;omega) (rg (upd (upd v x R) 15 0));generalize World.setRow _ _ _=w9 at RE BE⊢;clear DE;go_wp2_with fail;exact zT (mW rfl _ _ (g+1+1+1) _ _ _ _ rfl rfl RE mD (mK _)) rfl ⟨by rw[AE.out];rfl,BE⟩):P:=h
theorem zTU{P:Prop}(h:P:=by go_upto_region 40 with fail;have DE:=zW (D0.out.put HX.out.1 R);clear D0;generalize World.setCell _ _ _=w5 at DE⊢;refine zN ?_;refine lP mD DE.out.r (mK _) rfl (.tmp 3) rfl rfl ?_;simp only[Act.put,zQ,zZ,zJ];refine lE mD DE.out.o (nX _) (mK _) (vT _) rfl (.tmp 6) (.tmp 111) rfl rfl rfl ?_;simp only[Act.put,zQ,zZ,zJ];have RE:=DE.out.o.store (rg (upd v x R));have BE:=lU DE.out.low (show w.heap.size≤g+1+1+1 by have:=GL.out;omega) (rg (upd v x R));generalize World.setRow _ _ _=w9 at RE BE⊢;clear DE;go_wp2_with fail;exact zT (mW rfl _ _ (g+1+1+1) _ _ _ _ rfl rfl RE mD (mK _)) rfl ⟨by rw[AE.out];rfl,BE⟩):P:=h
theorem zTI{P:Prop}(h:P:=by
 rw[hf]at HR BS⊢;clear hx hy hf;go_enter Tryz.func148,Tryz.ntmps148;go_wp2_with fail;go_loop [7,8,9] (fun n v i=>∃k:Nat,k≤8∧i=.int .i64 (k:Int)∧v=.int .i64 ((2^k:Nat):Int)∧n=.int .i64 ((f%2^k:Nat):Int)) (fun _ _ i=>8-(intOf i).toNat)
 case atStart=>exact⟨0,by omega,rfl,rfl,by rw[Nat.pow_zero,Nat.mod_one];rfl⟩
 case round=>
  obtain⟨k,hk,rfl,rfl,rfl⟩:=hrel
  by_cases hlt:k<8
  ·have HK:=zW hlt
   obtain⟨q,r,⟨u1,u2,u3,u4⟩,er⟩:=rV x k HX.out.1 hlt
   obtain⟨q',r',⟨v1,v2,v3,v4⟩,er'⟩:=rV y k HX.out.2 hlt
   have ST:=zW (aK f k)
   have BK:=zW (BS.out k)
   have p8:=zMV (show k≤8 by omega)
   have p1:0<2^k:=Nat.two_pow_pos k
   have E2:=zW (show 2^(k+1)=2*2^k by rw[Nat.pow_succ];omega)
   have hki:(k:Int)<8:=zBY
   obtain⟨P,hP⟩:∃P:Nat,2^k=P:=⟨_,rfl⟩
   rw[hP]at u1 v1 ST p8 p1 E2⊢
   have M0:=zW (show f%P<P from kC _ p1)
   obtain⟨m,hm⟩:∃m:Nat,f%P=m:=⟨_,rfl⟩
   rw[hm]at M0 ST⊢
   have PI:¬(P:Int)=0:=zBY
   have P0:=zW (zY p8 p1)
   have W2:IntKind.i64.wrap (2*(P:Int))=((2*P:Nat):Int):=by rw[zU];omega
   have W1:IntKind.i64.wrap ((m:Int)+(P:Int))=((m+P:Nat):Int):=by have:=M0.out;rw[zU];omega
   obtain⟨d2,hd2⟩:∃d2:Int,((2*P:Nat):Int)=d2:=⟨_,rfl⟩
   obtain⟨d1,hd1⟩:∃d1:Int,((m+P:Nat):Int)=d1:=⟨_,rfl⟩
   rw[hd2]at W2
   rw[hd1]at W1
   have D:=zW (zY hd1 hd2)
   have ER:=zW (zY er er')
   clear hd1 hd2 hP hm hk hlt p8 p1 er er'
   rcases gF x k with bx|bx<;>rcases gF y k with by'|by'
   all_goals
    have hr:=ER.out.1
    have hr':=ER.out.2
    rw[bx]at hr
    rw[by']at hr'
    have BK2:=BK.out
    rw[bx,by']at BK2
    have BK3:=zW BK2
    clear BK2
    subst hr hr'
    clear bx by'
    go_wp2_with fail
    refine⟨⟨k+1,HK.out,rfl,?_,?_⟩,by have:=HK.out;simp[intOf];omega⟩
    ·rw[E2.out,D.out.2]
    ·have hb:=BK3.out
     simp[b2]at hb
     rw[ST.out,hb]
     first|(rw[←D.out.1];simp;done)|(simp;done)
  ·obtain rfl:k=8:=by omega
   have e:=zW (show f%2^8=f from kW HR.out)
   clear hk hlt
   rw[e.out]
   go_wp2_with fail
   go_ret
   exact⟨rfl,rfl⟩):P:=h
theorem zTO{P:Prop}(h:P:=by
 refine tN zBN ?_;repeat(go_big_quiet_step (rfl))
 refine zM ?_;go_upto_region 4 with fail;refine zN ?_;refine lP xL R7.out rfl rfl (.tmp 9) rfl rfl ?_;simp only[Act.put,zQ,zZ,zJ];iterate 3 go_step
 refine nG (o:=20) (ds:=rsC ⟨A3,4,cap3⟩ s.hi (Mk:Int)) xL DG.out.s rfl zB2 (uC _ _ _) rfl (.tmp 47) (.tmp 46) rfl rfl rfl ?_;simp only[Act.put,zQ,zZ,zJ];rw[uB];have PX:=zW (PX.out.past DG.out.s (w':=World.setRow w7 g (cst {s with G:=⟨A3,4,cap3⟩,hi:=s.hi,msk:=(Mk:Int)})) zBD (fun k hk=>zA _ _ _ _ hk));have DG:=zW (DG.out.row (s':={s with G:=⟨A3,4,cap3⟩,hi:=s.hi,msk:=(Mk:Int)}));generalize World.setRow _ _ _=w10 at PX DG⊢;clear R7;have f15:=DG.out.s.frozen 15;have c15:=(DG.out.s.cell 15).trans (wJ _ zBH);go_upto_region 6 with fail;have PX2:=PX.out.past DG.out.s (w':=World.setCell w10 ⟨g,15,none⟩ (.int .u8 0)) zB3 (fun k hk=>qQ _ _ _ _ hk);have DG2:=DG.out.putv (k:=15) zBH 0;obtain⟨w11,hw⟩:∃v,World.setCell w10 ⟨g,15,none⟩ (.int .u8 0)=v:=⟨_,rfl⟩;rw[show((0:Nat):Int)=0 from rfl]at DG2;rw[hw]at PX2 DG2⊢;have PX:=zW PX2;have DG:=zW DG2;clear hw PX2 DG2 f15 c15;cases hit
 ·skip
  go_upto_region 8 with fail;refine zN ?_;refine lP mM DG.out.s (lC _) rfl (.tmp 3) rfl rfl ?_;simp only[Act.put,zQ,zZ,zJ];refine lE mM DG.out.o (lC _) (lC _) (nZ _) rfl (.tmp 6) (.tmp 53) rfl rfl rfl ?_;simp only[Act.put,zQ,zZ,zJ];have RE:=DG.out.o.store (cst {s with G:=⟨A3,4,cap3⟩,hi:=s.hi,msk:=(Mk:Int),v:=Cpu.upd s.v 15 0});have PZ:=PX.out.past DG.out.o (w':=World.setRow w11 (g+1+1+1) (cst {s with G:=⟨A3,4,cap3⟩,hi:=s.hi,msk:=(Mk:Int),v:=Cpu.upd s.v 15 0})) zBD (fun k hk=>zA _ _ _ _ hk);have BZ:=lU DG.out.low (show w.heap.size≤g+1+1+1 by have:=DG.out.at_;omega) (cst {s with G:=⟨A3,4,cap3⟩,hi:=s.hi,msk:=(Mk:Int),v:=Cpu.upd s.v 15 0});generalize World.setRow _ _ _=wz at RE BZ PZ⊢;go_wp2_with fail;iterate 4 (try go_step)
  exact zT (zF rfl _ _ (g+1+1+1) _ _ _ _ rfl RE Tryz.underlying43 rfl zBU) rfl (MS.of ⟨A3,cap3,gs3,by simp only[HM.out];rfl,PZ,BZ,F3.out⟩)
 ·skip
  have f15:=DG.out.s.frozen 15;have c15:=(DG.out.s.cell 15).trans (wJ _ zBH);go_upto_region 8 with fail;have PX2:=PX.out.past DG.out.s (w':=World.setCell w11 ⟨g,15,none⟩ (.int .u8 1)) zB3 (fun k hk=>qQ _ _ _ _ hk);have DG2:=DG.out.putv (k:=15) zBH 1;obtain⟨w12,hw⟩:∃v,World.setCell w11 ⟨g,15,none⟩ (.int .u8 1)=v:=⟨_,rfl⟩;rw[show((1:Nat):Int)=1 from rfl]at DG2;rw[hw]at PX2 DG2⊢;have PX:=zW PX2;have DG:=zW DG2;clear hw PX2 DG2 f15 c15;go_upto_region 8 with fail;refine zN ?_;refine lP mM DG.out.s (lC _) rfl (.tmp 3) rfl rfl ?_;simp only[Act.put,zQ,zZ,zJ];refine lE mM DG.out.o (lC _) (lC _) (nZ _) rfl (.tmp 6) (.tmp 53) rfl rfl rfl ?_;simp only[Act.put,zQ,zZ,zJ];have RE:=DG.out.o.store (cst {s with G:=⟨A3,4,cap3⟩,hi:=s.hi,msk:=(Mk:Int),v:=Cpu.upd (Cpu.upd s.v 15 0) 15 1});have PZ:=PX.out.past DG.out.o (w':=World.setRow w12 (g+1+1+1) (cst {s with G:=⟨A3,4,cap3⟩,hi:=s.hi,msk:=(Mk:Int),v:=Cpu.upd (Cpu.upd s.v 15 0) 15 1})) zBD (fun k hk=>zA _ _ _ _ hk);have BZ:=lU DG.out.low (show w.heap.size≤g+1+1+1 by have:=DG.out.at_;omega) (cst {s with G:=⟨A3,4,cap3⟩,hi:=s.hi,msk:=(Mk:Int),v:=Cpu.upd (Cpu.upd s.v 15 0) 15 1});generalize World.setRow _ _ _=wz at RE BZ PZ⊢;go_wp2_with fail;iterate 4 (try go_step)
  exact zT (zF rfl _ _ (g+1+1+1) _ _ _ _ rfl RE Tryz.underlying43 rfl zBU) rfl (MS.of ⟨A3,cap3,gs3,by simp only[HM.out,NJ];rfl,PZ,BZ,F3.out⟩)):P:=h
theorem zT0{P:Prop}(h:P:=by rintro _ w' ⟨u,rfl⟩ hg;exact⟨⟨w',u.below.trans (hg.mono u.below.size)⟩,rfl⟩):P:=h
theorem zT1{P:Prop}(h:P:=by
 go_upto_region 7 with fail;cases hf:q.fa
 ·rw[hf]at p7 k7;have RE:=zW (HD.out 0 (by rw[hf];simp));clear HD;refine m8 zBM zBM ?_;repeat(go_big_quiet_step (fail))
  refine zM ?_;intro _ hw';obtain⟨u,rfl⟩:=hw';have BF:=zW (BE.out.trans (u.below.mono BE.out.size));go_wp2_with fail;go_ret;exact⟨by rw[RE.out];rfl,BF.out⟩
 ·rw[hf]at p7 k7;have a1:0≤I:=hi.1;have a2:I≤65535:=hi.2;have a3:(z:Int)≤128:=zBY;refine m8 zBM zBM ?_;by_cases hb:I+(z:Int)>65536
  ·have RE:=zW (HD.out 4 (by rw[zG ⟨hf,hb⟩]));clear HD;repeat(first
    |(refine l9 mM FS.out (lC _) ?_ (.tmp 3) ?_ ?_ ?_;(focus rfl);(focus rfl);(focus(simp[Act.eval];done));simp only[Act.put,zQ,zZ,zJ])
    |(refine l9 mN FI.out rfl ?_ (.tmp 4) ?_ ?_ ?_;(focus rfl);(focus rfl);(focus(simp[Act.eval];done));simp only[Act.put,zQ,zZ,zJ])
    |go_big_quiet_step ((go_at_call 147;exact nM (SP.out _))))
   refine zM ?_
   intro _ hw';obtain⟨u,rfl⟩:=hw';have BF:=zW (BE.out.trans (u.below.mono BE.out.size));go_wp2_with fail;go_ret;exact⟨by rw[RE.out];rfl,BF.out⟩
  ·have RE:=zW (HD.out 0 (by rw[zL (fun h=>hb h.2)]));clear HD;repeat(first
    |(refine l9 mM FS.out (lC _) ?_ (.tmp 3) ?_ ?_ ?_;(focus rfl);(focus rfl);(focus(simp[Act.eval];done));simp only[Act.put,zQ,zZ,zJ])
    |(refine l9 mN FI.out rfl ?_ (.tmp 4) ?_ ?_ ?_;(focus rfl);(focus rfl);(focus(simp[Act.eval];done));simp only[Act.put,zQ,zZ,zJ])
    |go_big_quiet_step ((go_at_call 147;exact nM (SP.out _))))
   refine zM ?_
   intro _ hw';obtain⟨u,rfl⟩:=hw';have BF:=zW (BE.out.trans (u.below.mono BE.out.size));go_wp2_with fail;go_ret;exact⟨by rw[RE.out];rfl,BF.out⟩):P:=h
theorem zT2{P:Prop}(h:P:=by
 try simp only[lA,zX,zK,zV]
 refine zM ?_;intro w8 g8;have D:=zW (D.out.step g8);clear g8 g5;go_wp2_with fail;go_end0
 exact⟨rfl,_,D.out⟩):P:=h
theorem zT3{P:Prop}(h:P:=by
 have FB:=zW (show dec b0 b1 b2 b3 l=⟨0,0,0,0,0,0,2⟩ by rw[LI NK,oO HB.out.1 HB.out.2.1 NK]);clear NK;go_upto_region 4 with fail;refine zN ?_;refine nU (cs:=lI ⟨0,0,0,0,0,0,2⟩) rfl rfl zBM ?_;simp only[Act.put,zQ,zZ,zJ];refine lE (ds:=lI ⟨0,0,0,0,0,0,2⟩) mN R2.out rfl rfl zB9 rfl (.tmp 10) (.tmp 46) rfl rfl rfl ?_;simp only[Act.put,zQ,zZ,zJ];have RR:=zW (zY (R2.out.store (lI ⟨0,0,0,0,0,0,2⟩)) (lU B2.out (zH _) (lI ⟨0,0,0,0,0,0,2⟩)));iterate 4 go_step
 simp only[Exit.then];exact zT (zF rfl _ _ w.heap.size _ _ _ _ rfl RR.out.1 Tryz.underlying47 rfl mN.i) rfl ⟨by rw[FB.out],RR.out.2⟩):P:=h
theorem zT4{P:Prop}(h:P:=by
 generalize World.setRow _ _ _=wz at RE BZ⊢;go_wp2_with fail;iterate 4 (try go_step)
 exact zT (zF rfl _ _ (g+1+1) _ _ _ _ rfl RE Tryz.underlying43 rfl zBU) rfl (vA.mk z zRZ zBC BZ ⟨.inl ⟨rfl,zH _⟩,rfl,rfl,.inl rfl,.inl rfl,.inl rfl,.inl rfl⟩)):P:=h
theorem zT5{P:Prop}(h:P:=by
 refine m8 zBM zBM ?_;repeat(go_big_quiet_step (fail))
 refine zM ?_;intro _ hw';obtain⟨u,rfl⟩:=hw';have BE:=zW (B0.out.trans (u.below.mono B0.out.size));go_wp2_with fail;go_ret2;refine⟨?_,BE.out⟩;rw[SY.out.1,SY.out.2];first|rfl|(simp[he];done)|(simp[he];omega)):P:=h
theorem zT6{P:Prop}(h:P:=by go_wp2;go_ret;exact⟨by rw[E.out];rfl,mP _ _⟩):P:=h
theorem zT7{P:Prop}(h:P:=by refine⟨115,#[],#[.pointer (some ⟨rb,0,none⟩)],by unfold cW;rfl,rfl,enters_of Tryz.func115 zBM rfl,?_⟩;exact(yX X O.o hx hy hnn zBH).mono fun e w' h=>uF O h):P:=h
theorem zT8{P:Prop}(h:P:=by exact fun _ _ d _ _ h=>by cases d<;>exact h):P:=h
theorem zT9{P:Prop}(h:P:=by
 iterate 4 go_step
 exact zT (zF rfl _ _ w.heap.size _ _ _ _ rfl RR Tryz.underlying47 rfl mN.i) rfl ⟨by rw[FD.out];rfl,BR⟩):P:=h
theorem zDQ{P:Prop}(h:P:=by simp only[zR]at Y;clear b1 c0 c1 h1 h2 h3 h4 h5 h6 h7 h8 hk O;have X2:=zW (X.set v1 v2);have Y2:=zW ((Y.other (g:=w.heap.size) zBY 0 (.int .u64 (v1.toNat:Int))).other (g:=w.heap.size) zBY 1 (.int .u64 (v2.toNat:Int)));have B2:=zW ((B.out.setCell (p:=⟨w.heap.size,0,none⟩) (zH _) (.int .u64 (v1.toNat:Int))).setCell (p:=⟨w.heap.size,1,none⟩) (zH _) (.int .u64 (v2.toNat:Int)));obtain⟨x1,x2,x3,x4,x5⟩:=X;clear Y B;go_wp2;generalize (w1.setCell ⟨w.heap.size,0,none⟩ (.int .u64 (v1.toNat:Int))).setCell ⟨w.heap.size,1,none⟩ (.int .u64 (v2.toNat:Int))=w2 at*;clear x1 x2 x3 x4 x5;obtain⟨x1,x2,x3,x4,x5⟩:=X2.out;obtain⟨y1,y2,y3,y4,y5⟩:=Y2.out;have Z:=zW (Y2.out.set v1 v2);have B3:=zW ((B2.out.setCell (p:=⟨w.heap.size+1,0,none⟩) zBT (.int .u64 (v1.toNat:Int))).setCell (p:=⟨w.heap.size+1,1,none⟩) zBT (.int .u64 (v2.toNat:Int)));clear B2 X2 Y2;rw[jE];go_wp2;generalize (w2.setCell ⟨w.heap.size+1,0,none⟩ (.int .u64 (v1.toNat:Int))).setCell ⟨w.heap.size+1,1,none⟩ (.int .u64 (v2.toNat:Int))=w3 at*;clear x1 x2 x3 x4 x5 y1 y2 y3 y4 y5;obtain⟨x1,x2,x3,x4,x5⟩:=Z.out;exact zT (v:=.agg #[.int .u64 (v1.toNat:Int),.int .u64 (v2.toNat:Int)]) (by simp[results,Tryz.results279,go_sem,x2,x3]) rfl ⟨rfl,B3.out⟩):P:=h
theorem zDZ{P:Prop}(h:P:=by
 clear s1 s2 s3 s4 s5 s6 s8 S5 k10 f10;refine zN ?_;refine lP t9 S6.out.2.2.2.2.1 (mY _) rfl (.tmp 11) rfl zBR ?_;simp only[Act.put,zQ,zZ,zJ];refine lE (ds:=mQ Q) t9 S6.out.2.2.2.2.2.1 (mY _) (mY _) (xD _) rfl (.tmp 12) (.tmp 53) rfl zBL zBL ?_;simp only[Act.put,zQ,zZ,zJ];have R7:=zW (S6.out.2.2.2.2.2.1.store Q);have G7:=zW (show DrG D s0 (ps++[p]) (w6.setRow (w.heap.size+1) (mQ Q))∧But (DrT s0) w (w6.setRow (w.heap.size+1) (mQ Q))from by
  obtain⟨s1,s2,s3,s4,s5,s6,s8⟩:=S6.out;refine⟨⟨s1.row zRX _,⟨A3,c-q,?_,?_,?_,?_⟩,?_⟩,s8.rowNew zBY _⟩
  ·have e:(D.N-(ps++[p]).length)*(D.r*D.z)=m':=zRV;rw[e];exact rE s2 zRX _
  ·have e:(D.N-(ps++[p]).length)*(D.r*D.z)=m':=zRV;rw[e];have:=CB.out.1;omega
  ·have:=CB.out.2;omega
  ·have e:(D.N-(ps++[p]).length)*(D.r*D.z)=m':=zRV;rw[e];have e2:(ps++[p]).length*(D.r*D.z)=ps.length*(D.r*D.z)+q:=by rw[jB,List.length_singleton,Nat.succ_mul,OK.out.2.2.1]
   rw[e2,←qS];have h:=s3.row (b:=w.heap.size+1) ng2 (mQ Q);simpa [qS]using h
  ·rw[CO.out];exact rE s4 zRX _)
 generalize w6.setRow (w.heap.size+1) (mQ Q)=w7 at*
 iterate 4 go_step
 exact zT (zF rfl _ _ (w.heap.size+1) _ _ _ _ rfl R7.out Tryz.underlying69 rfl (by rw[t9.i,mY])) rfl ⟨rfl,G7.out.1,G7.out.2⟩):P:=h
theorem zDJ{P:Prop}(h:P:=by
 subst e;rcases AD.out with h|⟨rfl,h,hh⟩|⟨h,hh⟩|⟨h1,h2,h3,hh⟩
 ·unfold V3 at h;clear AD;rcases h with rfl|rfl|rfl|rfl|rfl
  all_goals
   go_wp2
   go_ret
   exact⟨rfl,LX.out⟩
 ·have hh:eh=true:=hh;subst hh h;clear AD;go_wp2;go_ret;exact⟨rfl,LX.out⟩
 ·unfold aH at h;clear AD;rcases hh with rfl|rfl|⟨rfl,hq⟩
  rotate_left 2
  ·rw[hq]at q0';rcases h with rfl|rfl|rfl|rfl|rfl|rfl
   all_goals
    go_wp2
    go_ret
    exact⟨rfl,LX.out⟩
  all_goals
   rcases h with rfl|rfl|rfl|rfl|rfl|rfl
   all_goals
    go_wp2
    go_ret
    exact⟨rfl,LX.out⟩
 ·unfold V3 at h1;unfold aH at h3;clear AD;have n0:op≠0:=zBY;have n3:op≠3:=zBY;have n4:op≠4:=zBY;have n2:op≠2:=zBY;have n21:op≠21:=zBY;have n38:op≠38:=zBY;have n5:op≠5:=zBY;have n6:op≠6:=zBY;have n7:op≠7:=zBY;have n19:op≠19:=zBY;have n24:op≠24:=zBY;have n25:op≠25:=zBY;clear h1 h2 h3;rcases hh with⟨hc,hz⟩|⟨hc,hz⟩
  ·have hc:ec≠0:=hc;subst hz;go_wp2;go_ret;exact⟨rfl,LX.out⟩
  ·have hc:ec=0:=hc;subst hc hz;go_wp2;go_ret;exact⟨rfl,LX.out⟩):P:=h
theorem zDX{P:Prop}(h:P:=by
 have b0:=fun k:Int=>fun h:op≠k=>(show(op==k)=false from by simpa using h);have AO:=zW (show xZ v ⟨op,x,y,n,nn,addr,len⟩ q=v∧yC op=false from by
  have h:yC op=false:=by unfold yC;rw[Bool.and_eq_false_iff,decide_eq_false_iff_not,decide_eq_false_iff_not];omega
  exact⟨by unfold xZ;rw[h];rfl,h⟩)
 have e8:=b0 8 h8;have e9:=b0 9 h9;have e10:=b0 10 h10;have e11:=b0 11 h11;have e12:=b0 12 h12;have e13:=b0 13 h13;have e14:=b0 14 h14;have e15:=b0 15 h15;have e16:=b0 16 h16;have e17:=b0 17 h17;have e18:=b0 18 h18;clear b0 AV;go_upto_region 9 with fail;refine zN ?_;refine lP mD D0.out.r (mK _) rfl (.tmp 3) rfl rfl ?_;simp only[Act.put,zQ,zZ,zJ];refine lE mD D0.out.o (nX _) (mK _) (vT _) rfl (.tmp 6) (.tmp 29) rfl rfl rfl ?_;simp only[Act.put,zQ,zZ,zJ];have RE:=D0.out.o.store (rg v);have BE:=lU D0.out.low (show w.heap.size≤g+1+1+1 by have:=GL.out;omega) (rg v);generalize World.setRow _ _ _=w9 at RE BE⊢;clear D0;go_wp2_with fail;exact zT (mW rfl _ _ (g+1+1+1) _ _ _ _ rfl rfl RE mD (mK _)) rfl ⟨by rw[AO.out.1,AO.out.2];rfl,BE⟩):P:=h
theorem zDK{P:Prop}(h:P:=by subst h10;have wn:=vZ vy;have AE:=zW (show xZ v ⟨10,x,y,n,nn,addr,len⟩ q=upd v x (v y)from AV.out (v y) (none) zR0 (by unfold xR;simp) zBH);go_upto_region 40 with fail;have DE:=zW (D0.out.put HX.out.1 (v y));clear D0;generalize World.setCell _ _ _=w5 at DE⊢;refine zN ?_;refine lP mD DE.out.r (mK _) rfl (.tmp 3) rfl rfl ?_;simp only[Act.put,zQ,zZ,zJ];refine lE mD DE.out.o (nX _) (mK _) (vT _) rfl (.tmp 6) (.tmp 111) rfl rfl rfl ?_;simp only[Act.put,zQ,zZ,zJ];have RE:=DE.out.o.store (rg (upd v x (v y)));have BE:=lU DE.out.low (show w.heap.size≤g+1+1+1 by have:=GL.out;omega) (rg (upd v x (v y)));generalize World.setRow _ _ _=w9 at RE BE⊢;clear DE;go_wp2_with fail;exact zT (mW rfl _ _ (g+1+1+1) _ _ _ _ rfl rfl RE mD (mK _)) rfl ⟨by rw[AE.out];rfl,BE⟩):P:=h
theorem zDV{P:Prop}(h:P:=by subst h8;have wn:=vZ HX.out.2.2;have AE:=zW (show xZ v ⟨8,x,y,n,nn,addr,len⟩ q=upd v x nn from AV.out nn (none) zR0 (by unfold xR;simp) zBH);go_upto_region 40 with fail;have DE:=zW (D0.out.put HX.out.1 nn);clear D0;generalize World.setCell _ _ _=w5 at DE⊢;refine zN ?_;refine lP mD DE.out.r (mK _) rfl (.tmp 3) rfl rfl ?_;simp only[Act.put,zQ,zZ,zJ];refine lE mD DE.out.o (nX _) (mK _) (vT _) rfl (.tmp 6) (.tmp 111) rfl rfl rfl ?_;simp only[Act.put,zQ,zZ,zJ];have RE:=DE.out.o.store (rg (upd v x nn));have BE:=lU DE.out.low (show w.heap.size≤g+1+1+1 by have:=GL.out;omega) (rg (upd v x nn));generalize World.setRow _ _ _=w9 at RE BE⊢;clear DE;go_wp2_with fail;exact zT (mW rfl _ _ (g+1+1+1) _ _ _ _ rfl rfl RE mD (mK _)) rfl ⟨by rw[AE.out];rfl,BE⟩):P:=h
theorem zDW{P:Prop}(h:P:=by
 have SZ:=zW (show z=vD x y from by rw[←HZ.out];unfold spN;simp);clear HZ;have xi:(x:Int)<16:=by have:=HX.out;omega
 have yi:(y:Int)<16:=by have:=HX.out;omega
 by_cases hxy:x≤y
 ·have hI:(x:Int)≤(y:Int):=zBY;have HY:=zW hxy;have d0:0≤(y:Int)-(x:Int):=zBY;clear hxy;go_wp2_with fail;go_ret;have e:((vD x y:Nat):Int)=(y:Int)-(x:Int)+1:=by unfold vD;rw[zG HY.out];have:=HY.out;omega
  exact⟨by rw[SZ.out,e];rfl,BE.out⟩
 ·have hI:¬(x:Int)≤(y:Int):=zBY;have HY:=zW hxy;have d0:0≤(x:Int)-(y:Int):=zBY;clear hxy;go_wp2_with fail;go_ret;have e:((vD x y:Nat):Int)=(x:Int)-(y:Int)+1:=by unfold vD;rw[zL HY.out];have:=HY.out;omega
  exact⟨by rw[SZ.out,e];rfl,BE.out⟩):P:=h
theorem zDY{P:Prop}(h:P:=by refine zM ?_;refine m5 (v:=.int .i64 4) (nN (g:=173) (caps:=#[]) (args:=#[.int .i64 a.i,.int .i64 (k:Int),.bool q.fa]) (.func 173) _ _ rfl rfl (enters_of Tryz.func173 zBM rfl) (fun w' hw=>by obtain⟨u,rfl⟩:=hw;exact(CK.out u.w).mono fun e w'' h=>⟨h.1,by rw[←h.2];exact Gr.refl _⟩) rfl zBL) ?_;simp only[Act.put,zQ,zZ,zJ];refine mE zBN zBG ?_;refine zM ?_;refine mC rfl ?_;intro w5 g5 C5 K hK;obtain⟨u5,rfl⟩:=C5;refine tP (g:=61) (caps:=#[]) (args:=#[.int .i64 4]) (.func 61) _ _ rfl (enters_of Tryz.func61 zBM rfl) rfl zBL ?_;refine(eN 4 zBH _).mono ?_;rintro e w7 ⟨rfl,rfl⟩;exact⟨_,rfl,rfl,rfl,u5.below⟩):P:=h
theorem zDL{P:Prop}(h:P:=by subst he;exact⟨_,rfl,_,_,_,[],_,[],hW',trodAll_mk1 (shut_bool Tryz.underlying4 _),(jL (Below.trod eJ zBM (qZ zBM) h0 bel fun x hx=>hlt x (by simp[hx])) (jL (eE b0_1 b1_1 b2_1 b3_1 wb0_1 wb1_1 wb2_1 wb3_1) (jL (dA l_2 b0_2 b1_2 b2_2 b3_2 b4_2 b5_2 b6_2 wl_2) trodAll_mk0))),rfl,bel.frame _,fun h=>by cases h⟩):P:=h
theorem zDM{P:Prop}(h:P:=by
 refine⟨by simpa using H.lt,fun j hj=>?_,fun j hj=>by rw[World.frozen?_setCell];exact H.fz j hj⟩
 by_cases e:j=k
 ·subst e;rw[zG rfl];exact World.cell?_setCell_same w (a:=⟨g,j,none⟩) _ (H.at_ j hj)
 ·rw[zL e,qI _ _ _ _ (by simp[Ne.symm e])];exact H.at_ j hj):P:=h
theorem zDN{P:Prop}(h:P:=by
 have K1:=KEY.out _ _ D.out G.out;obtain⟨c1,c2,c3,c4⟩:=K1;obtain⟨t,ht⟩:∃t,q.dw=t:=⟨_,rfl⟩;have HT:=zW ht;rw[ht]at c1;obtain⟨hh,hhh⟩:∃hh,a.hi=hh:=⟨_,rfl⟩;have HHH:=zW hhh;rw[hhh]at c2;clear ht hhh;cases t
 ·go_wp2_with fail;go_end0
  exact⟨rfl,_,by rw[show(q.dw&& !a.hi)=false from by rw[HT.out];rfl];exact D.out.rput 20 (.bool false) rfl⟩
 ·go_wp2_with fail;go_end0
  exact⟨rfl,_,by rw[show(q.dw&& !a.hi)=!hh from by rw[HT.out,HHH.out];rfl];exact D.out.rput 20 (.bool (!hh)) rfl⟩):P:=h
theorem zDH{P:Prop}(h:P:=by refine zM ?_;intro _ hw';obtain⟨u,rfl⟩:=hw';have BE:=zW (B0.out.trans (u.below.mono B0.out.size));go_wp2_with fail;go_ret2;exact⟨by rw[SX.out.1,SX.out.2];rfl,BE.out⟩):P:=h
theorem zDG{P:Prop}(h:P:=by
 simp only[Act.put,zQ,zZ,zJ];have RE:=D0.out.o.store (cst s);have BZ:=lU D0.out.low (show w.heap.size≤g+1+1 by have:=D0.out.at_;omega) (cst s);generalize World.setRow _ _ _=wz at RE BZ⊢;go_wp2_with fail;iterate 4 (try go_step)
 exact zT (zF rfl _ _ (g+1+1) _ _ _ _ rfl RE Tryz.underlying43 rfl zBU) rfl (vA.mk z (by rw[ED.out,HS.out]) (by rw[ED.out];exact RR.out.step BZ) BZ ⟨.inl ⟨rfl,zH _⟩,rfl,rfl,.inl rfl,.inl rfl,.inl rfl,.inl rfl⟩)):P:=h
theorem zDB{P:Prop}(h:P:=by go_enter Tryz.func84,Tryz.ntmps84;go_wp2;go_ret;exact⟨by rw[e.out];rfl,rfl⟩):P:=h
theorem zDR{P:Prop}(h:P:=by
 clear hown0;go_wp2_with (first
  |(at_builtin;refine tZ rfl (.tmp 5) (.tmp 6) rfl w.heap.size _ 0 [] rfl Q.out.1 (some ad) n c L rfl (HL.out.1.below Q.out.2) HL.out.2.1 (by have:=HL.out.2.2;omega) zBT ?_;intro v1 w1 o1 g1;have P1:=zW (zY o1 (Q.out.2.grown g1 zBT fun j ej=>(Q.out.1.lt j ej).1));clear o1 g1))
 go_ret;refine⟨v1,rfl,?_,P1.out.2⟩;have:=P1.out.1;rw[HL.out.2.1];simpa using this):P:=h
theorem zDT{P:Prop}(h:P:=by
 generalize World.setRow _ _ _=wz at RE BZ PZ⊢;go_wp2_with fail;iterate 4 (try go_step)
 exact zT (zF rfl _ _ (g+1+1+1) _ _ _ _ rfl RE Tryz.underlying43 rfl zBU) rfl (vA.mk {z with M:=⟨some ⟨gm,0,none⟩,65536,cm⟩} zTB zR9 BZ ⟨.inl ⟨rfl,zH _⟩,rfl,rfl,.inr (fun _ e=>by cases e;have:=GM.out;have:=D6.out.at_;simp only;omega),.inl rfl,.inl rfl,.inl rfl⟩)):P:=h
theorem zDD{P:Prop}(h:P:=by
 refine zN ?_;refine lP wV Q.out (vF _) rfl (.tmp 4) rfl zBR ?_;simp only[Act.put,zQ,zZ,zJ];refine lE (ds:=kc K') wV P.out (vF _) (vF _) (iX _) rfl (.tmp 1) (.tmp 18) rfl zBL zBL ?_;iterate 2 go_step
 refine bodyPost_end (results_none rfl _ _ _) rfl ?_;exact⟨rfl,⟨by rw[HL.out];exact HS.out.store,X.out.otherRow hs _⟩,eT B.out N1.out.1 _⟩):P:=h
theorem zDF{P:Prop}(h:P:=by
 refine⟨h.len,fun hne=>?_,fun i hi=>?_⟩
 ·obtain⟨b,o,hA,hlt,hc⟩:=h.row hne;have hb:=ha _ hA;exact⟨b,o,hA,by omega,fun j hj=>(rK (hk b hb) _).trans (hc j hj)⟩
 ·have P:=h.px i hi;have hb:=hp i hi;exact⟨by have:=P.lt;omega,fun j hj=>(rK (hk _ hb) _).trans (P.at_ j hj),fun j hj=>(pC (hk _ hb) _).trans (P.fz j hj)⟩):P:=h
theorem zDS{P:Prop}(h:P:=by go_wp2_with fail;go_ret;exact⟨by rw[SZ.out];rfl,BE.out⟩):P:=h
theorem zDP{P:Prop}(h:P:=by go_wp2;go_ret;exact⟨rfl,rfl⟩):P:=h
theorem zDE{P:Prop}(h:P:=by unfold xO;first|(simp[b2];done)|(simp[b2];split<;>first|omega|(split<;>omega))):P:=h
theorem zDC{P:Prop}(h:P:=by
 generalize World.setRow _ _ _=wz at DO DE2 B11⊢;go_wp2_with fail;iterate 4 (try go_step)
 exact zT (wS rfl _ _ (g+1+1+1) (g+1+1+1+1) _ _ _ _ _ _ rfl rfl DO.out DE2.out mM (lC _) sT rfl) rfl (YR.mk ST.out.symm EE.out.symm z rfl (RR.out.step B11.out) B11.out (Fr.refl _ _))):P:=h
theorem zDA{P:Prop}(h:P:=by refine⟨fun _ _=>qE _,fun hne=>?_,R.sk.len,R.sk.cap,R.sk.max⟩;obtain⟨b',o,e,hb,hc⟩:=R.sk.row hne;have hn:=f.sk _ e (by have:=List.length_pos_iff.2 hne;rw[R.sk.len]at this;exact this);exact⟨b',o,e,zS hb k.size,fun j hj=>(qM (k.block b' hb hn)).trans (hc j hj)⟩):P:=h
theorem zDU{P:Prop}(h:P:=by exact⟨rfl,by go_grown⟩):P:=h
theorem zDI{P:Prop}(h:P:=by unfold fv at*;rw[hc]at*;clear hc hh;go_enter Tryz.func82,Tryz.ntmps82;go_wp2_with fail;refine(C.out _).mono ?_;rintro e w1 ⟨rfl,b1⟩;have B:=zW ((mP w _).trans (b1.mono zBT));clear b1;go_wp2_with fail;go_ret;exact⟨by rw[E.out];rfl,B.out⟩):P:=h
theorem zDO{P:Prop}(h:P:=by
 intro l;induction l with
 |nil=>intro a h;exact hK a h
 |cons o l ih=>
  intro a h
  simp only[wpQuiet]at h⊢
  split
  ·rename_i hw;simp only[hw,if_true]at h;exact Oper.quiet_mono (fun a h=>ih a h) h
  ·rename_i hw;simp only[hw]at h;exact ih _ h):P:=h
theorem zD0{P:Prop}(h:P:=by
 unfold tI;repeat' split
 all_goals first|exact O|exact⟨O.v,O.i,O.pc,O.sk,O.M,O.B,O.msk,O.ks,O.dl,O.sd,O.P,O.pt,O.fl,O.L,O.LB,O.rd⟩|exact⟨O.v,O.i,O.pc,O.sk,O.M,O.B,(by simp only;omega),O.ks,O.dl,O.sd,O.P,O.pt,O.fl,O.L,O.LB,O.rd⟩):P:=h
theorem zD1{P:Prop}(h:P:=by
 rw[zL e];unfold spF;rw[show decide (x≤j∧j<x+c∧j<m∧c+x≤j+(k+1))=decide (x≤j∧j<x+c∧j<m∧c+x≤j+k) by congr 1;simp;omega,
  show decide (j+m<x+c∧c+x≤j+m+(k+1))=decide (j+m<x+c∧c+x≤j+m+k) by congr 1;simp;omega]):P:=h
theorem zD2{P:Prop}(h:P:=by
 go_upto_region 1 with fail;refine m8 zBM zBM ?_;repeat(go_big_quiet_step ((go_at_call 196;exact yV (RG.out _))))
 refine zM ?_;intro _ hw';obtain⟨x',rfl⟩:=hw';have b1:=x'.below;go_wp2_with fail;go_ret;exact⟨rfl,b1⟩):P:=h
theorem zD3{P:Prop}(h:P:=by refine⟨R.K.len,R.K.max,fun i hi=>?_⟩;obtain⟨b',o,e,hb,c1,c2,q⟩:=R.K.at_ i hi;have hn:=f.K _ e (by have:=R.K.len;omega);have hk:=k.block b' hb hn;exact⟨b',o,e,zS hb k.size,(qM hk).trans c1,(qM hk).trans c2,q⟩):P:=h
theorem zD4{P:Prop}(h:P:=by
 go_wp2_with fail;go_end0
 exact⟨rfl,_,D.out.rput 16 _ rfl⟩):P:=h
theorem zD5{P:Prop}(h:P:=by
 obtain rfl|rfl|rfl|rfl|rfl|rfl|rfl|rfl|rfl|rfl|rfl|rfl|rfl|rfl|rfl|rfl:k=0∨k=1∨k=2∨k=3∨k=4∨k=5∨k=6∨k=7∨k=8∨k=9∨k=10∨k=11∨k=12∨k=13∨k=14∨k=15:=by omega
 all_goals exact fun _=>by kernel_rfl):P:=h
theorem zD6{P:Prop}(h:P:=by rintro e u' wg ⟨rfl,rfl,eg,kg⟩;have Z:=zW (Z.out.eff eg kg);exact⟨_,zF rfl _ _ (gi+1+1) _ _ _ _ rfl Z.out.e Tryz.underlying51 rfl ZI.i,by rw[P.out.2],v,by rw[P.out.1];exact Z.out.rc.more zBY,Z.out.k,Z.out.o⟩):P:=h
theorem zD7{P:Prop}(h:P:=by go_wp2;go_ret;exact⟨by rw[zC zTK];rfl,GE.out▸B0.out⟩):P:=h
theorem zD8{P:Prop}(h:P:=by
 have hp':tmps[p]?.getD undef=.pointer (some ⟨g,0,none⟩):=by simpa using hp
 have hq':tmps[q]?.getD undef=v:=by simpa using hq
 simp[results,h,hp',hq',asAddr,run_loadVar_row w g t ty cs fr d hg hu hd hi]):P:=h
theorem zD9{P:Prop}(h:P:=by
 injection hh with hh
 injection hh with _ e3
 subst e3;rcases hT' with e4|e4|e4|e4<;>exact absurd e4 zBH):P:=h
theorem zFQ{P:Prop}(h:P:=by unfold fv;rw[hc];clear hc hh;go_enter Tryz.func82,Tryz.ntmps82;go_wp2_with fail;refine(C.out _).mono ?_;rintro e w1 ⟨rfl,rfl⟩;go_wp2_with fail;go_ret;exact⟨by rw[E.out];rfl,mP _ _⟩):P:=h
theorem zFZ{P:Prop}(h:P:=by
 intro ad e _;obtain⟨A,cap,gs,e2,p⟩:=R.G;rw[e2]at e;obtain⟨b',o,eA,hb,_⟩:=p.row (by intro c;have:=p.len;rw[c]at this;cases this);simp only at e;rw[eA]at e;cases e
 exact hb):P:=h
theorem zFJ{P:Prop}(h:P:=by
 generalize World.setRow _ _ _=w9 at RE BZ⊢;go_wp2_with fail;iterate 4 (try go_step)
 exact zT (zF rfl _ _ (g+1+1) _ _ _ _ rfl RE Tryz.underlying43 rfl zBU) rfl ⟨rfl,BZ⟩):P:=h
theorem zFX{P:Prop}(h:P:=by exact bL b0 b1 b2 b3 l w h0 h1 h2 h3 hok hf zRO):P:=h
theorem zFK{P:Prop}(h:P:=by exact bW b0 b1 b2 b3 l w h0 h1 h2 h3 hok hf zRO):P:=h
theorem zFV{P:Prop}(h:P:=by obtain⟨b',o,eA,hb,hc⟩:=p.row hne;have hn:=f.G _ (by rw[e];exact eA) zR3;exact⟨b',o,eA,zS hb k.size,fun j hj=>(qM (k.block b' hb hn)).trans (hc j hj)⟩):P:=h
theorem zFW{P:Prop}(h:P:=by obtain⟨ad,c,e,r⟩:=R.M;have hn:=f.M ad (by rw[e]) zR3;exact⟨ad,c,e,zS r.1 k.size,fun j hj=>(qM (by rw[cP];exact k.block _ r.1 hn)).trans (r.2 j hj)⟩):P:=h
theorem zFY{P:Prop}(h:P:=by
 unfold wpOpsS;rw[ho];simp only;rw[zG hw];have e:(execOp a.eval o).run P w=.ok .recover w:=by simp[execOp,hop,resolve,go_sem]
 rw[e];simp only;rw[hr];exact h):P:=h
theorem zFL{P:Prop}(h:P:=by go_enter Tryz.func156,Tryz.ntmps156;go_wp2;go_ret;exact⟨uA E.out.symm,rfl⟩):P:=h
theorem zFM{P:Prop}(h:P:=by refine⟨124,#[],#[.pointer (some ⟨rb,0,none⟩)],by unfold cW;rfl,rfl,enters_of Tryz.func124 zBM rfl,?_⟩;exact(zKS X).mono fun e w' h=>uF O h):P:=h
theorem zFN{P:Prop}(h:P:=by refine⟨135,#[],#[.pointer (some ⟨rb,0,none⟩)],by unfold cW;rfl,rfl,enters_of Tryz.func135 zBM rfl,?_⟩;exact(iF X).mono fun e w' h=>uF O h):P:=h
theorem zFH{P:Prop}(h:P:=by simp[Lit.wf,IntKind.min,IntKind.max,IntKind.signed,IntKind.bits]at h;omega):P:=h
theorem zFG{P:Prop}(h:P:=by
 by_cases h:c
 ·rw[zG h];exact hx
 ·rw[zL h];exact hy):P:=h
theorem zFB{P:Prop}(h:P:=by refine⟨o.1,o.2.imp id ?_⟩;rintro⟨k,cap,cur,rfl,hbb,hh,r⟩;exact⟨k,cap,cur,rfl,hbb,(hk k (fun e=>hn (by rw[e];rfl))).trans hh,r⟩):P:=h
theorem zFR{P:Prop}(h:P:=by
 intro ad e hp;obtain⟨b',o,e2,hb,_⟩:=R.sk.row (by intro c;have:=R.sk.len;rw[c]at this;simp at this;omega);rw[e]at e2;cases e2
 exact hb):P:=h
theorem zFT{P:Prop}(h:P:=by unfold xR;first|(simp;done)|(simp;omega)):P:=h
theorem zFD{P:Prop}(h:P:=by clear HC;go_wp2_with fail;go_ret;exact⟨by rw[RE.out];rfl,BE.out⟩):P:=h
theorem zFF{P:Prop}(h:P:=by go_wp2_with fail;go_returns;exact⟨⟨_,0,false,rfl,by unfold xR;simp;omega,by omega,rfl,by omega,by omega⟩,by go_grown⟩):P:=h
theorem zFS{P:Prop}(h:P:=by unfold Oper.wp;rw[fC x xs ts ho hx eg ha w];simp only[Oper.upon];exact h.mono fun e w' ⟨v,he,hk⟩=>by subst he;exact hk):P:=h
theorem zFP{P:Prop}(h:P:=by
 iterate 4 go_step
 exact zT (zF rfl _ _ (w.heap.size+1) _ _ _ _ rfl R2.out Tryz.underlying72 rfl zTH) rfl ⟨rfl,B2.out⟩):P:=h
theorem zFE{P:Prop}(h:P:=by
 obtain⟨ad2,e2,hb,_⟩:=h.lst.1 (by intro c2;have:=h.lst.2;rw[c2]at this;simp at this;omega);rw[e]at e2;cases e2
 omega):P:=h
theorem zFC{P:Prop}(h:P:=by exact⟨zS P.lt k.size,fun j hj=>(qM hk).trans (P.at_ j hj),fun j hj=>(World.frozen?_of_block hk).trans (P.fz j hj)⟩):P:=h
theorem zFA{P:Prop}(h:P:=by refine(RX.out u4).mono ?_;rintro e w6 ⟨rfl,b6⟩;exact⟨_,rfl,rfl,rfl,u4.below.trans (b6.mono u4.below.size)⟩):P:=h
theorem zFU{P:Prop}(h:P:=by rw[h];show Result.ok (slicedAt _ _ _ _ 1) w=_;unfold slicedAt;rw[zL (by first|omega|decide|(simp;done)),yN];rfl):P:=h
theorem zFI{P:Prop}(h:P:=by simp only[wpQuiet,hw,if_true];exact⟨v,fun w hC=>by unfold Oper.quietAt;rw[h1 w hC];exact⟨rfl,rfl⟩,h⟩):P:=h
theorem zFO{P:Prop}(h:P:=by exact zT (gN rfl _ _ (r+1) _ _ _ _ _ rfl rfl rfl R3.out xE (nQ _)) rfl ⟨rfl,by rw[HR.out];exact B3.out⟩):P:=h
theorem zF0{P:Prop}(h:P:=by
 refine⟨_,rfl,H.lt,fun j hj=>?_⟩;have h16:j<16:=by rw[nV]at hj;exact hj
 rw[yN,qB,H.cell h16,yS _ _ h16]):P:=h
theorem zF1{P:Prop}(h:P:=by go_wp2_with fail;refine(GU _ _ h).mono ?_;rintro e w' ⟨rfl,rfl⟩;go_wp2;go_ret;exact⟨uA zBY,rfl⟩):P:=h
theorem zF2{P:Prop}(h:P:=by
 intro ad e hp;obtain⟨b',o,e2,hb,_⟩:=R.K.at_ 0 (by have:=R.K.len;omega);rw[e]at e2;cases e2
 exact hb):P:=h
theorem zF3{P:Prop}(h:P:=by exact zT (mW rfl _ _ (r+1) _ _ _ _ rfl rfl R3.out xE (nQ _)) rfl ⟨rfl,by rw[HR.out];exact B3.out⟩):P:=h
theorem zF4{P:Prop}(h:P:=by
 have PK:=zW (KD.out.2.2.2.2.2.2.2.2 (by rw[HO.out];omega)).1;have HP:=zW (show R.pk=.pX from PK.out);have AF:=zW (show ok b0 b1 l=wX l (x:Int) by rw[OKE.out];exact oN (by rw[HO.out];omega));clear hf;cases hal:wX l (x:Int)
 ·have HA:=zW hal;clear hal;go_wp2_with fail;refine(LC.out _).mono ?_;rintro e w3 ⟨rfl,rfl⟩;go_wp2_with fail;refine(gR l (x:Int) _).mono ?_;rintro e w4 ⟨rfl,rfl⟩;rw[HA.out];have NK:ok b0 b1 l=false:=by
   exact AF.out.trans HA.out
  exact zT3
 ·have HA:=zW hal;clear hal;go_wp2_with fail;refine(LC.out _).mono ?_;rintro e w3 ⟨rfl,rfl⟩;go_wp2_with fail;refine(gR l (x:Int) _).mono ?_;rintro e w4 ⟨rfl,rfl⟩;rw[HA.out];simp only[];have OKY:=zW (show ok b0 b1 l=true from AF.out.trans HA.out);exact zTS):P:=h
theorem zF5{P:Prop}(h:P:=by
 subst h11;cases hl:q.lr
 ·rw[hl]at p4;obtain⟨R,eR⟩:∃R,v x|||v y=R:=⟨_,rfl⟩
  have RB:=zW (show R<256 by rw[←eR];exact QG vx vy);have BI:=zW (fun w=>eR▸iC (v x) (v y) w vx vy);have AE:=zW (show xZ v ⟨11,x,y,n,nn,addr,len⟩ q=upd v x R from AV.out R (none) zRQ zRJ zBH);clear eR;go_wp2_with fail;refine(BI.out _).mono ?_;rintro e w' ⟨rfl,rfl⟩;have wr:=vZ RB.out;have wf:=vZ (show 0<256 by decide);exact zTU
 ·rw[hl]at p4;obtain⟨R,eR⟩:∃R,v x|||v y=R:=⟨_,rfl⟩
  have RB:=zW (show R<256 by rw[←eR];exact QG vx vy);have BI:=zW (fun w=>eR▸iC (v x) (v y) w vx vy);have AE:=zW (show xZ v ⟨11,x,y,n,nn,addr,len⟩ q=upd (upd v x R) 15 0 from AV.out R (some 0) zRQ zRJ zBH);exact zTA):P:=h
theorem zF6{P:Prop}(h:P:=by
 subst h12;cases hl:q.lr
 ·rw[hl]at p4;obtain⟨R,eR⟩:∃R,v x&&&v y=R:=⟨_,rfl⟩;have RB:=zW (show R<256 by rw[←eR];exact dF vx vy);have BI:=zW (fun w=>eR▸fR (v x) (v y) w vx vy);have AE:=zW (show xZ v ⟨12,x,y,n,nn,addr,len⟩ q=upd v x R from AV.out R (none) zRQ zRJ zBH);clear eR;go_wp2_with fail;refine(BI.out _).mono ?_;rintro e w' ⟨rfl,rfl⟩;have wr:=vZ RB.out;have wf:=vZ (show 0<256 by decide);exact zTU
 ·rw[hl]at p4;obtain⟨R,eR⟩:∃R,v x&&&v y=R:=⟨_,rfl⟩;have RB:=zW (show R<256 by rw[←eR];exact dF vx vy);have BI:=zW (fun w=>eR▸fR (v x) (v y) w vx vy);have AE:=zW (show xZ v ⟨12,x,y,n,nn,addr,len⟩ q=upd (upd v x R) 15 0 from AV.out R (some 0) zRQ zRJ zBH);exact zTA):P:=h
theorem zF7{P:Prop}(h:P:=by
 subst h13;cases hl:q.lr
 ·rw[hl]at p4;obtain⟨R,eR⟩:∃R,v x^^^v y=R:=⟨_,rfl⟩;have RB:=zW (show R<256 by rw[←eR];exact eP vx vy);have BI:=zW (fun w=>eR▸fB (v x) (v y) w vx vy);have AE:=zW (show xZ v ⟨13,x,y,n,nn,addr,len⟩ q=upd v x R from AV.out R (none) zRQ zRJ zBH);clear eR;go_wp2_with fail;refine(BI.out _).mono ?_;rintro e w' ⟨rfl,rfl⟩;have wr:=vZ RB.out;have wf:=vZ (show 0<256 by decide);exact zTU
 ·rw[hl]at p4;obtain⟨R,eR⟩:∃R,v x^^^v y=R:=⟨_,rfl⟩;have RB:=zW (show R<256 by rw[←eR];exact eP vx vy);have BI:=zW (fun w=>eR▸fB (v x) (v y) w vx vy);have AE:=zW (show xZ v ⟨13,x,y,n,nn,addr,len⟩ q=upd (upd v x R) 15 0 from AV.out R (some 0) zRQ zRJ zBH);exact zTA):P:=h
theorem zF8{P:Prop}(h:P:=by go_wp2_with fail;refine(FL.out _).mono ?_;rintro e w' ⟨rfl,rfl⟩;have wf:=vZ (show F<256 by have:=FB.out;omega);have f0:(F:Int)≥0:=zBY;exact zTP):P:=h
theorem zF9{P:Prop}(h:P:=by go_enter Tryz.func165,Tryz.ntmps165;exact zT6):P:=h
theorem zSQ{P:Prop}(h:P:=by have c16:w1.cell? ⟨g,16,none⟩=some (.int .i64 s.i):=(D0.out.s.cell 16).trans (nW _ 0);have f16:=D0.out.s.frozen 16;go_upto_region 30 with fail;have D1:=zW (D0.out.put 16 (.int .i64 addr) (rX s addr));generalize World.setCell _ _ _=w3 at D1⊢;go_upto_region 30 with fail;refine zN ?_;refine lP mM D1.out.s (lC _) rfl (.tmp 2) rfl rfl ?_;simp only[Act.put,zQ,zZ,zJ];refine lE mM D1.out.o (lC _) (lC _) (nZ _) rfl (.tmp 4) (.tmp 111) rfl rfl rfl ?_;simp only[Act.put,zQ,zZ,zJ];have RE:=D1.out.o.store (cst {s with i:=addr});have BZ:=lU D1.out.low (show w.heap.size≤g+1+1 by have:=D1.out.at_;omega) (cst {s with i:=addr});exact zT4):P:=h
theorem zSZ{P:Prop}(h:P:=by go_enter Tryz.func82,Tryz.ntmps82;exact zT6):P:=h
theorem zSJ{P:Prop}(h:P:=by clear D5;clear hK K;simp only[Act.put,zQ,zZ,zJ];exact zT2):P:=h
theorem zSX{P:Prop}(h:P:=by generalize World.setCell u5.w _ _=w7 at D⊢;clear D5 cc fc;exact zT2):P:=h
theorem zSK{P:Prop}(h:P:=by go_enter Tryz.func162,Tryz.ntmps162;exact zT6):P:=h
theorem zSV{P:Prop}(h:P:=by
 clear i0;by_cases he:v x=v y
 ·have hI:((v x:Nat):Int)=((v y:Nat):Int):=zBY;have SY:=zW SX.out;rw[zO he]at SY;exact zT5
 ·have hI:¬((v x:Nat):Int)=((v y:Nat):Int):=zBY;have SY:=zW SX.out;rw[zC he]at SY;exact zT5):P:=h
theorem zSW{P:Prop}(h:P:=by
 clear i0;by_cases he:v x=nn
 ·have hI:((v x:Nat):Int)=((nn:Nat):Int):=zBY;have SY:=zW SX.out;rw[zO he]at SY;exact zT5
 ·have hI:¬((v x:Nat):Int)=((nn:Nat):Int):=zBY;have SY:=zW SX.out;rw[zC he]at SY;exact zT5):P:=h
theorem zSY{P:Prop}(h:P:=by subst h9;obtain⟨d,R,⟨q1,q2,q3,q4⟩,eR,ed⟩:=JT vx HX.out.2.2;have AE:=zW (show xZ v ⟨9,x,y,n,nn,addr,len⟩ q=upd v x R from AV.out R (none) zR0 zRT zBH);clear eR ed;exact zTU):P:=h
theorem zSL{P:Prop}(h:P:=by have f0:(F:Int)≥0:=zBY;have AE:=zW (show xZ v ⟨16,x,y,n,nn,addr,len⟩ q=upd (upd v x R) 15 F from AV.out R (some F) zTL zTM zBH);clear eR eF;exact zTP):P:=h
theorem zSM{P:Prop}(h:P:=by have f0:(F:Int)≥0:=zBY;have AE:=zW (show xZ v ⟨18,x,y,n,nn,addr,len⟩ q=upd (upd v x R) 15 F from AV.out R (some F) zTL zTM zBH);clear eR eF;exact zTP):P:=h
theorem zSN{P:Prop}(h:P:=by go_wp2_with fail;go_ret;exact zDU):P:=h
theorem zSH{P:Prop}(h:P:=by have r16:wa.cell? ⟨rb,16,none⟩=some (.int .i64 pc):=(D.out.x.r.cell 16).trans rfl;have f16:=D.out.x.r.frozen 16;exact zD4):P:=h
theorem zSG{P:Prop}(h:P:=by
 have SZ:=zW (show z=x+1 from by rw[←HZ.out];unfold spN;simp);clear HZ;have xi:(x:Int)<16:=by have:=HX.out;omega
 exact zDS):P:=h
theorem zSB{P:Prop}(h:P:=by go_wp2_with fail;go_returns;exact zDU):P:=h
theorem zSR{P:Prop}(h:P:=by go_enter Tryz.func150,Tryz.ntmps150;exact zDP):P:=h
theorem zST{P:Prop}(h:P:=by go_enter Tryz.func227,Tryz.ntmps227;exact zDP):P:=h
theorem zSD{P:Prop}(h:P:=by
 rw[←e,nL,nL];clear e;go_enter Tryz.func279,Tryz.ntmps279;go_wp2;go_rounds 1
 go_returns;exact zDU):P:=h
theorem zSF{P:Prop}(h:P:=by
 subst h14;obtain⟨d,R,⟨q1,q2,q3,q4⟩,eR,ed⟩:=JT vx vy;obtain⟨F,eF⟩:∃F,b2 (decide (255<v x+v y))=F:=⟨_,rfl⟩;have FB:=zW (show F≤1 by rw[←eF];exact dN _);have eb:b2 (decide (255<d))=F:=by
  rw[←eF];exact congrArg b2 (by rw[decide_eq_decide,ed];omega)
 have FL:=zW (fun u:World=>eb▸gA (decide (255<d)) u);clear eb;have AE:=zW (show xZ v ⟨14,x,y,n,nn,addr,len⟩ q=upd (upd v x R) 15 F from AV.out R (some F) zRR zRT zBH);clear eR eF;clear ed;exact zF8):P:=h
theorem zSS{P:Prop}(h:P:=by subst h15;obtain⟨d,e,R,⟨q1,q2,q3,q4,q5⟩,eR⟩:=JD vx vy;obtain⟨F,eF⟩:∃F,b2 (decide (v y≤v x))=F:=⟨_,rfl⟩;have FB:=zW (show F≤1 by rw[←eF];exact dN _);have FL:=zW (fun u:World=>eF▸gA (decide (v y≤v x)) u);have AE:=zW (show xZ v ⟨15,x,y,n,nn,addr,len⟩ q=upd (upd v x R) 15 F from AV.out R (some F) zRR zRT zBH);clear eR eF;exact zF8):P:=h
theorem zSP{P:Prop}(h:P:=by subst h17;obtain⟨d,e,R,⟨q1,q2,q3,q4,q5⟩,eR⟩:=JD vy vx;obtain⟨F,eF⟩:∃F,b2 (decide (v x≤v y))=F:=⟨_,rfl⟩;have FB:=zW (show F≤1 by rw[←eF];exact dN _);have FL:=zW (fun u:World=>eF▸gA (decide (v x≤v y)) u);have AE:=zW (show xZ v ⟨17,x,y,n,nn,addr,len⟩ q=upd (upd v x R) 15 F from AV.out R (some F) zRR zRT zBH);clear eR eF;exact zF8):P:=h
theorem zSE{P:Prop}(h:P:=by unfold fv;rw[hc];clear hc hh;exact zSZ):P:=h
end Go.Proofs.YtcjldabaekbdlaaGreatDoor
