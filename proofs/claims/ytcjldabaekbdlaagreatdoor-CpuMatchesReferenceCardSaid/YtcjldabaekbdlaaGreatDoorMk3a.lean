/- ScrSame, DecRef6. -/
import Derived.Test.YtcjldabaekbdlaaGreatDoorMScrScr
import Derived.Test.YtcjldabaekbdlaaGreatDoorMDecRef3
import Derived.Test.YtcjldabaekbdlaaGreatDoorMDecRef4
import Derived.Test.YtcjldabaekbdlaaGreatDoorMDecRef5
set_option maxRecDepth 400000
set_option maxHeartbeats 64000000
set_option linter.unusedVariables false
set_option linter.unusedSimpArgs false
namespace Go.Proofs.YtcjldabaekbdlaaGreatDoor
section
open Go.RowKit Go.Shelf Num
section
variable {ops:Array Oper} {C:World→Prop}
theorem IG{Q:Act→Prop}{o:Oper}{rest:List Oper}{a:Act}{A B:Pl}(hs:bK A B=true)(hw:Region.wanted o (yielded ops a.tmps)=true)(x y:Operand)(z:TypeId)(ho:o.op=.binOp .neq 69 x y z)(hx:a.eval x=.agg (mQ A))(hy:a.eval y=.agg (mQ B))
  (h:wpQuiet Tryz.prog ops C Q rest (a.put o.dst (.bool false))):wpQuiet Tryz.prog ops C Q (o::rest) a:=
 gI hw (.bool false) (fun w' _=>by rw[DH x y z ho A B hx hy,hs];rfl) h
end
theorem wordsN{N:Nat}(hN:N=8192)(g:Nat)(f:Nat→Bool)(w:World)(H:Pxs g f w){y:Nat}(y1:y<64):
  Calls Tryz.prog 80 #[.slice (some ⟨g,0,none⟩) N N,.int .i64 (y:Int)] w fun e w'=>e=.returned (.tuple #[.int .u64 ((N8 f y).toNat:Int),.int .u64 ((N7 f y).toNat:Int)])∧w=w':=by
 subst hN;exact zQ8 g f w H rfl y1
end
section
open Go.RowKit Num Dec
theorem QM(b0 b1 b2 b3:Nat)(l:Int)(w:World)(h0:b0<256)(h1:b1<256)(h2:b2<256)(h3:b3<256):
  Calls Tryz.prog 24 #[.int .u8 (b0:Int),.int .u8 (b1:Int),.int .u8 (b2:Int),.int .u8 (b3:Int),.int .i64 l] w fun e w'=>e=.returned (.agg (lI (dec b0 b1 b2 b3 l)))∧Below w.heap.size w w':=by
 by_cases hf:(top (b0*256+b1)).op=43∨(top (b0*256+b1)).op=44
 ·exact iP b0 b1 b2 b3 l w h0 h1 h2 h3 (fun _=>hf)
 ·cases hok:ok b0 b1 l
  ·exact iP b0 b1 b2 b3 l w h0 h1 h2 h3 (fun h=>by rw[hok]at h;cases h)
  ·cases hk:(top (b0*256+b1)).pk
   ·exact zFX
   ·exact zFX
   ·exact zFX
   ·exact zFX
   ·exact zFX
   ·exact zFK
   ·exact zFK
   ·exact zFK
   ·exact zFK
   ·exact zFK
end
end Go.Proofs.YtcjldabaekbdlaaGreatDoor
