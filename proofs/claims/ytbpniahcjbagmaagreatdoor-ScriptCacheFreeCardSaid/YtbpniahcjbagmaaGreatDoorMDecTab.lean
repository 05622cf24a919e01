/- DecTab. -/
import Derived.Test.YtbpniahcjbagmaaGreatDoorMk0b
set_option maxRecDepth 400000
set_option maxHeartbeats 64000000
set_option linter.unusedVariables false
set_option linter.unusedSimpArgs false
namespace Go.Proofs.YtbpniahcjbagmaaGreatDoor
section
open Go.RowKit Num Dec
def pf:Pk→Nat
 |.pNone=>150
 |.pX=>156
 |.pN=>157
 |.pXY=>153
 |.pXYN=>155
 |.pXNN=>152
 |.pAddr=>151
 |.pXAddr=>154
 |.pPlanes=>159
 |.pNext=>158
def rcs(r:Rl):Array Value:=#[.int .i64 (r.mask:Int),.int .i64 (r.code:Int),.int .i64 (r.op:Int),.int .i64 (r.level:Int),.func (.func (pf r.pk)) #[] #[]]
def tC:Array Value:=#[.int .i64 65535,.int .i64 224,.int .i64 1,.int .i64 1,.func (.func 150) #[] #[],.int .i64 65535,.int .i64 238,.int .i64 2,.int .i64 1,.func (.func 150) #[] #[],.int .i64 61440,.int .i64 4096,.int .i64 3,.int .i64 1,.func (.func 151) #[] #[],.int .i64 61440,.int .i64 8192,.int .i64 4,.int .i64 1,.func (.func 151) #[] #[],.int .i64 61440,.int .i64 12288,.int .i64 5,.int .i64 1,.func (.func 152) #[] #[],.int .i64 61440,.int .i64 16384,.int .i64 6,.int .i64 1,.func (.func 152) #[] #[],.int .i64 61455,.int .i64 20480,.int .i64 7,.int .i64 1,.func (.func 153) #[] #[],.int .i64 61440,.int .i64 24576,.int .i64 8,.int .i64 1,.func (.func 152) #[] #[],.int .i64 61440,.int .i64 28672,.int .i64 9,.int .i64 1,.func (.func 152) #[] #[],.int .i64 61455,.int .i64 32768,.int .i64 10,.int .i64 1,.func (.func 153) #[] #[],.int .i64 61455,.int .i64 32769,.int .i64 11,.int .i64 1,.func (.func 153) #[] #[],.int .i64 61455,.int .i64 32770,.int .i64 12,.int .i64 1,.func (.func 153) #[] #[],.int .i64 61455,.int .i64 32771,.int .i64 13,.int .i64 1,.func (.func 153) #[] #[],.int .i64 61455,.int .i64 32772,.int .i64 14,.int .i64 1,.func (.func 153) #[] #[],.int .i64 61455,.int .i64 32773,.int .i64 15,.int .i64 1,.func (.func 153) #[] #[],.int .i64 61455,.int .i64 32774,.int .i64 16,.int .i64 1,.func (.func 153) #[] #[],.int .i64 61455,.int .i64 32775,.int .i64 17,.int .i64 1,.func (.func 153) #[] #[],.int .i64 61455,.int .i64 32782,.int .i64 18,.int .i64 1,.func (.func 153) #[] #[],.int .i64 61455,.int .i64 36864,.int .i64 19,.int .i64 1,.func (.func 153) #[] #[],.int .i64 61440,.int .i64 40960,.int .i64 20,.int .i64 1,.func (.func 151) #[] #[],.int .i64 61440,.int .i64 45056,.int .i64 21,.int .i64 1,.func (.func 154) #[] #[],.int .i64 61440,.int .i64 49152,.int .i64 22,.int .i64 1,.func (.func 152) #[] #[],.int .i64 61455,.int .i64 53248,.int .i64 41,.int .i64 2,.func (.func 153) #[] #[],.int .i64 61440,.int .i64 53248,.int .i64 23,.int .i64 1,.func (.func 155) #[] #[],.int .i64 61695,.int .i64 57502,.int .i64 24,.int .i64 1,.func (.func 156) #[] #[],.int .i64 61695,.int .i64 57505,.int .i64 25,.int .i64 1,.func (.func 156) #[] #[],.int .i64 61695,.int .i64 61447,.int .i64 26,.int .i64 1,.func (.func 156) #[] #[],.int .i64 61695,.int .i64 61450,.int .i64 27,.int .i64 1,.func (.func 156) #[] #[],.int .i64 61695,.int .i64 61461,.int .i64 28,.int .i64 1,.func (.func 156) #[] #[],.int .i64 61695,.int .i64 61464,.int .i64 29,.int .i64 1,.func (.func 156) #[] #[],.int .i64 61695,.int .i64 61470,.int .i64 30,.int .i64 1,.func (.func 156) #[] #[],.int .i64 61695,.int .i64 61481,.int .i64 31,.int .i64 1,.func (.func 156) #[] #[],.int .i64 61695,.int .i64 61491,.int .i64 32,.int .i64 1,.func (.func 156) #[] #[],.int .i64 61695,.int .i64 61525,.int .i64 33,.int .i64 1,.func (.func 156) #[] #[],.int .i64 61695,.int .i64 61541,.int .i64 34,.int .i64 1,.func (.func 156) #[] #[],.int .i64 65520,.int .i64 192,.int .i64 35,.int .i64 2,.func (.func 157) #[] #[],.int .i64 65535,.int .i64 251,.int .i64 36,.int .i64 2,.func (.func 150) #[] #[],.int .i64 65535,.int .i64 252,.int .i64 37,.int .i64 2,.func (.func 150) #[] #[],.int .i64 65535,.int .i64 253,.int .i64 38,.int .i64 2,.func (.func 150) #[] #[],.int .i64 65535,.int .i64 254,.int .i64 39,.int .i64 2,.func (.func 150) #[] #[],.int .i64 65535,.int .i64 255,.int .i64 40,.int .i64 2,.func (.func 150) #[] #[],.int .i64 61695,.int .i64 61488,.int .i64 42,.int .i64 2,.func (.func 156) #[] #[],.int .i64 61695,.int .i64 61557,.int .i64 43,.int .i64 2,.func (.func 156) #[] #[],.int .i64 61695,.int .i64 61573,.int .i64 44,.int .i64 2,.func (.func 156) #[] #[],.int .i64 65520,.int .i64 208,.int .i64 45,.int .i64 3,.func (.func 157) #[] #[],.int .i64 61455,.int .i64 20482,.int .i64 46,.int .i64 3,.func (.func 153) #[] #[],.int .i64 61455,.int .i64 20483,.int .i64 47,.int .i64 3,.func (.func 153) #[] #[],.int .i64 65535,.int .i64 61440,.int .i64 48,.int .i64 3,.func (.func 158) #[] #[],.int .i64 61695,.int .i64 61441,.int .i64 49,.int .i64 3,.func (.func 159) #[] #[],.int .i64 65535,.int .i64 61442,.int .i64 50,.int .i64 3,.func (.func 150) #[] #[],.int .i64 61695,.int .i64 61498,.int .i64 51,.int .i64 3,.func (.func 156) #[] #[]]
def zJU:Value:=.agg tC
theorem zYB(k:Nat)(h:k<rls.length)(w:World):(Instr.index 217 zJU (.int .i64 (k:Int))).run Tryz.prog w=.ok (.agg (rcs rls[k])) w:=
 match k,h with
 |0,_=>by kernel_rfl
 |1,_=>by kernel_rfl
 |2,_=>by kernel_rfl
 |3,_=>by kernel_rfl
 |4,_=>by kernel_rfl
 |5,_=>by kernel_rfl
 |6,_=>by kernel_rfl
 |7,_=>by kernel_rfl
 |8,_=>by kernel_rfl
 |9,_=>by kernel_rfl
 |10,_=>by kernel_rfl
 |11,_=>by kernel_rfl
 |12,_=>by kernel_rfl
 |13,_=>by kernel_rfl
 |14,_=>by kernel_rfl
 |15,_=>by kernel_rfl
 |16,_=>by kernel_rfl
 |17,_=>by kernel_rfl
 |18,_=>by kernel_rfl
 |19,_=>by kernel_rfl
 |20,_=>by kernel_rfl
 |21,_=>by kernel_rfl
 |22,_=>by kernel_rfl
 |23,_=>by kernel_rfl
 |24,_=>by kernel_rfl
 |25,_=>by kernel_rfl
 |26,_=>by kernel_rfl
 |27,_=>by kernel_rfl
 |28,_=>by kernel_rfl
 |29,_=>by kernel_rfl
 |30,_=>by kernel_rfl
 |31,_=>by kernel_rfl
 |32,_=>by kernel_rfl
 |33,_=>by kernel_rfl
 |34,_=>by kernel_rfl
 |35,_=>by kernel_rfl
 |36,_=>by kernel_rfl
 |37,_=>by kernel_rfl
 |38,_=>by kernel_rfl
 |39,_=>by kernel_rfl
 |40,_=>by kernel_rfl
 |41,_=>by kernel_rfl
 |42,_=>by kernel_rfl
 |43,_=>by kernel_rfl
 |44,_=>by kernel_rfl
 |45,_=>by kernel_rfl
 |46,_=>by kernel_rfl
 |47,_=>by kernel_rfl
 |48,_=>by kernel_rfl
 |49,_=>by kernel_rfl
 |50,_=>by kernel_rfl
 |n+51,h=>absurd h (by have:=MA;omega)
theorem zXL(p:Pk)(hd x y n nn nnn next:Int)(w:World):
  Calls Tryz.prog (pf p) #[.agg #[.int .i64 hd,.int .i64 x,.int .i64 y,.int .i64 n,.int .i64 nn,.int .i64 nnn],.int .i64 next] w fun e w'=>
   e=.returned (.agg (lB ⟨0,pX p x,pY p y,pN p x n,pNN p nn,pA p nnn next,0⟩))∧Below w.heap.size w w':=by
 cases p
 ·go_enter Tryz.func150,Tryz.ntmps150;go_wp2;exact zBU
 ·go_enter Tryz.func156,Tryz.ntmps156;go_wp2;exact zBU
 ·go_enter Tryz.func157,Tryz.ntmps157;go_wp2;exact zBU
 ·go_enter Tryz.func153,Tryz.ntmps153;go_wp2;exact zBU
 ·go_enter Tryz.func155,Tryz.ntmps155;go_wp2;exact zBU
 ·go_enter Tryz.func152,Tryz.ntmps152;go_wp2;exact zBU
 ·go_enter Tryz.func151,Tryz.ntmps151;go_wp2;exact zBU
 ·go_enter Tryz.func154,Tryz.ntmps154;go_wp2;exact zBU
 ·go_enter Tryz.func159,Tryz.ntmps159;go_wp2;exact zBU
 ·go_enter Tryz.func158,Tryz.ntmps158;go_wp2;exact zBU
def AH:Array Value:=#[.int .i64 0,.int .i64 0,.int .i64 0,.int .i64 0,.nilFunc,.int .i64 0,.int .i64 0,.int .i64 0,.int .i64 0,.nilFunc,.int .i64 0,.int .i64 0,.int .i64 0,.int .i64 0,.nilFunc,.int .i64 0,.int .i64 0,.int .i64 0,.int .i64 0,.nilFunc,.int .i64 0,.int .i64 0,.int .i64 0,.int .i64 0,.nilFunc,.int .i64 0,.int .i64 0,.int .i64 0,.int .i64 0,.nilFunc,.int .i64 0,.int .i64 0,.int .i64 0,.int .i64 0,.nilFunc,.int .i64 0,.int .i64 0,.int .i64 0,.int .i64 0,.nilFunc,.int .i64 0,.int .i64 0,.int .i64 0,.int .i64 0,.nilFunc,.int .i64 0,.int .i64 0,.int .i64 0,.int .i64 0,.nilFunc,.int .i64 0,.int .i64 0,.int .i64 0,.int .i64 0,.nilFunc,.int .i64 0,.int .i64 0,.int .i64 0,.int .i64 0,.nilFunc,.int .i64 0,.int .i64 0,.int .i64 0,.int .i64 0,.nilFunc,.int .i64 0,.int .i64 0,.int .i64 0,.int .i64 0,.nilFunc,.int .i64 0,.int .i64 0,.int .i64 0,.int .i64 0,.nilFunc,.int .i64 0,.int .i64 0,.int .i64 0,.int .i64 0,.nilFunc,.int .i64 0,.int .i64 0,.int .i64 0,.int .i64 0,.nilFunc,.int .i64 0,.int .i64 0,.int .i64 0,.int .i64 0,.nilFunc,.int .i64 0,.int .i64 0,.int .i64 0,.int .i64 0,.nilFunc,.int .i64 0,.int .i64 0,.int .i64 0,.int .i64 0,.nilFunc,.int .i64 0,.int .i64 0,.int .i64 0,.int .i64 0,.nilFunc,.int .i64 0,.int .i64 0,.int .i64 0,.int .i64 0,.nilFunc,.int .i64 0,.int .i64 0,.int .i64 0,.int .i64 0,.nilFunc,.int .i64 0,.int .i64 0,.int .i64 0,.int .i64 0,.nilFunc,.int .i64 0,.int .i64 0,.int .i64 0,.int .i64 0,.nilFunc,.int .i64 0,.int .i64 0,.int .i64 0,.int .i64 0,.nilFunc,.int .i64 0,.int .i64 0,.int .i64 0,.int .i64 0,.nilFunc,.int .i64 0,.int .i64 0,.int .i64 0,.int .i64 0,.nilFunc,.int .i64 0,.int .i64 0,.int .i64 0,.int .i64 0,.nilFunc,.int .i64 0,.int .i64 0,.int .i64 0,.int .i64 0,.nilFunc,.int .i64 0,.int .i64 0,.int .i64 0,.int .i64 0,.nilFunc,.int .i64 0,.int .i64 0,.int .i64 0,.int .i64 0,.nilFunc,.int .i64 0,.int .i64 0,.int .i64 0,.int .i64 0,.nilFunc,.int .i64 0,.int .i64 0,.int .i64 0,.int .i64 0,.nilFunc,.int .i64 0,.int .i64 0,.int .i64 0,.int .i64 0,.nilFunc,.int .i64 0,.int .i64 0,.int .i64 0,.int .i64 0,.nilFunc,.int .i64 0,.int .i64 0,.int .i64 0,.int .i64 0,.nilFunc,.int .i64 0,.int .i64 0,.int .i64 0,.int .i64 0,.nilFunc,.int .i64 0,.int .i64 0,.int .i64 0,.int .i64 0,.nilFunc,.int .i64 0,.int .i64 0,.int .i64 0,.int .i64 0,.nilFunc,.int .i64 0,.int .i64 0,.int .i64 0,.int .i64 0,.nilFunc,.int .i64 0,.int .i64 0,.int .i64 0,.int .i64 0,.nilFunc,.int .i64 0,.int .i64 0,.int .i64 0,.int .i64 0,.nilFunc,.int .i64 0,.int .i64 0,.int .i64 0,.int .i64 0,.nilFunc,.int .i64 0,.int .i64 0,.int .i64 0,.int .i64 0,.nilFunc,.int .i64 0,.int .i64 0,.int .i64 0,.int .i64 0,.nilFunc,.int .i64 0,.int .i64 0,.int .i64 0,.int .i64 0,.nilFunc,.int .i64 0,.int .i64 0,.int .i64 0,.int .i64 0,.nilFunc,.int .i64 0,.int .i64 0,.int .i64 0,.int .i64 0,.nilFunc,.int .i64 0,.int .i64 0,.int .i64 0,.int .i64 0,.nilFunc,.int .i64 0,.int .i64 0,.int .i64 0,.int .i64 0,.nilFunc]
theorem zJA:nH Tryz.prog 217 AH:=by unfold nH;kernel_rfl
theorem TN:vZ Tryz.prog 217 255:=⟨⟨_,Tryz.underlying217,rfl⟩,by kernel_rfl⟩
def fV(P:Program):List Oper→Act→Act
 |[],a=>a
 |o::os,a=>match o.op with
  |.build ty parts=>(match P.built ty (parts.map fun(i,x)=>(i,a.eval x)).toList with|some cs=>fV P os (a.put o.dst (.agg cs))|none=>a)
  |_=>a
def oI(P:Program):List Oper→Act→Bool
 |[],_=>true
 |o::os,a=>o.guard.isNone&&match o.op with
  |.build ty parts=>(match P.built ty (parts.map fun(i,x)=>(i,a.eval x)).toList with|some cs=>oI P os (a.put o.dst (.agg cs))|none=>false)
  |_=>false
theorem LS{P:Program}{ops:Array Oper}{Q:Exit→Act→World→Prop}{w:World}{a:Act}(n:Nat){l:List Oper}(h:wpList P ops Q (l.take n++l.drop n) a w):wpList P ops Q l a w:=by
 rwa [List.take_append_drop]at h
theorem aH{P:Program}{ops:Array Oper}{Q:Exit→Act→World→Prop}{w:World}(rest:List Oper):∀(os:List Oper) (a:Act),oI P os a=true→wpList P ops Q rest (fV P os a) w→wpList P ops Q (os++rest) a w
 |[],_,_,h=>h
 |o::os,a,hb,h=>by
  unfold oI at hb;rw[zC]at hb;obtain⟨hg,hb⟩:=hb;unfold fV at h;split at hb
  ·rename_i ty parts ho
   rw[ho]at h;simp only at h;split at hb
   ·rename_i cs hc
    rw[hc]at h;exact lC (by simpa using hg) ho hc (aH rest os _ hb h)
   ·cases hb
  ·cases hb
theorem UT(w:World):Calls Tryz.prog 120 #[] w fun e w'=>e=.returned zJU∧Below w.heap.size w w':=by
 go_enter Tryz.func120,Tryz.ntmps120;go_upto_region 0 with fail;refine zH ?_;refine qZ rfl fun K hK=>nJ zJA rfl (hK _ _ ?_);clear hK K;go_upto_region 1 with fail;refine zH ?_;refine LS 52 ?_;refine aH _ _ _ zGV ?_;refine lM (ds:=tC) TN (Blk.new w _ AH) rfl rfl zGC rfl (.tmp 0) (.tmp 52) rfl zGV zGV ?_;have H:=(Blk.new w 217 AH).store tC;have B:=lU ((zB w.heap.size w).alloc (zG _) (.cells AH 217)) (zG _) tC;iterate 4 go_step
 exact zP (zE rfl _ _ w.heap.size _ tC _ _ zGV H Tryz.underlying217 rfl TN.i) zGV ⟨rfl,B⟩
end
end Go.Proofs.YtbpniahcjbagmaaGreatDoor
