/- Pix4. -/
import Derived.Test.YtbpniahcjbagmaaGreatDoorMk0d
set_option maxRecDepth 400000
set_option maxHeartbeats 64000000
set_option linter.unusedVariables false
set_option linter.unusedSimpArgs false
namespace Go.Proofs.YtbpniahcjbagmaaGreatDoor
section
open Go.RowKit Num
def Two(b c:Nat)(h l h' l':BitVec 64):Type:={w:World//Box b h l w∧Box c h' l' w}
def Two.w{b c:Nat}{h l h' l':BitVec 64}(x:Two b c h l h' l'):World:=x.1
theorem Two.left{b c:Nat}{h l h' l':BitVec 64}(x:Two b c h l h' l'):Box b h l x.w:=x.2.1
theorem Two.right{b c:Nat}{h l h' l':BitVec 64}(x:Two b c h l h' l'):Box c h' l' x.w:=x.2.2
theorem QY(b x width:Int)(p m1 m2 i1 i2:BitVec 64)(w:World)(hp:IntKind.u64.wrap (b*72057594037927936)=(p.toNat:Int))(b0:0≤b)(b1:b≤65535)(x0:0≤x)(x1:x≤128)(w0:0≤width)(w1:width≤128)
  (em:uT width=m1++m2) (ei:uA (p++0#64) x width=i1++i2):
  Calls Tryz.prog 203 #[.int .u16 b,.int .i64 8,.int .i64 x,.int .i64 width,.bool true] w fun e w'=>e=.returned (.agg #[.int .u64 (i1.toNat:Int),.int .u64 (i2.toNat:Int)])∧Below w.heap.size w w':=by
 exact zBM
theorem oZ(b x width:Int)(p m1 m2 i1 i2:BitVec 64)(j1 j2 q1 q2:BitVec 64)(ej:mv (p++0#64) (x-width)=j1++j2)(hq1:i1^^^j1=q1)(hq2:i2^^^j2=q2)(w:World)(hp:IntKind.u64.wrap (b*72057594037927936)=(p.toNat:Int))(b0:0≤b)(b1:b≤65535)(x0:0≤x)(x1:x≤128)(w0:0≤width)(w1:width≤128)
  (em:uT width=m1++m2) (ei:uA (p++0#64) x width=i1++i2):
  Calls Tryz.prog 203 #[.int .u16 b,.int .i64 8,.int .i64 x,.int .i64 width,.bool false] w fun e w'=>e=.returned (.agg #[.int .u64 (q1.toNat:Int),.int .u64 (q2.toNat:Int)])∧Below w.heap.size w w':=by
 exact zBL
theorem oJ(b x width:Int)(p m1 m2 i1 i2:BitVec 64)(w:World)(hp:IntKind.u64.wrap (b*281474976710656)=(p.toNat:Int))(b0:0≤b)(b1:b≤65535)(x0:0≤x)(x1:x≤128)(w0:0≤width)(w1:width≤128)
  (em:uT width=m1++m2) (ei:uA (p++0#64) x width=i1++i2):
  Calls Tryz.prog 203 #[.int .u16 b,.int .i64 16,.int .i64 x,.int .i64 width,.bool true] w fun e w'=>e=.returned (.agg #[.int .u64 (i1.toNat:Int),.int .u64 (i2.toNat:Int)])∧Below w.heap.size w w':=by
 exact zBM
theorem a8(b x width:Int)(p m1 m2 i1 i2:BitVec 64)(j1 j2 q1 q2:BitVec 64)(ej:mv (p++0#64) (x-width)=j1++j2)(hq1:i1^^^j1=q1)(hq2:i2^^^j2=q2)(w:World)(hp:IntKind.u64.wrap (b*281474976710656)=(p.toNat:Int))(b0:0≤b)(b1:b≤65535)(x0:0≤x)(x1:x≤128)(w0:0≤width)(w1:width≤128)
  (em:uT width=m1++m2) (ei:uA (p++0#64) x width=i1++i2):
  Calls Tryz.prog 203 #[.int .u16 b,.int .i64 16,.int .i64 x,.int .i64 width,.bool false] w fun e w'=>e=.returned (.agg #[.int .u64 (q1.toNat:Int),.int .u64 (q2.toNat:Int)])∧Below w.heap.size w w':=by
 exact zBL
end
end Go.Proofs.YtbpniahcjbagmaaGreatDoor
