/- DecFin. -/
import Derived.Test.YthknmadinmigfaaGreatDoorMk0a
set_option maxRecDepth 400000
set_option maxHeartbeats 64000000
set_option linter.unusedVariables false
set_option linter.unusedSimpArgs false
namespace Go.Proofs.YthknmadinmigfaaGreatDoor
section
namespace Dec
def tC(n:Nat):Nat:=bif Nat.beq (Nat.land n 65535) 224 then 1 else bif Nat.beq (Nat.land n 65535) 238 then 2 else bif Nat.beq (Nat.land n 61440) 4096 then 3 else bif Nat.beq (Nat.land n 61440) 8192 then 4 else bif Nat.beq (Nat.land n 61440) 12288 then 5 else bif Nat.beq (Nat.land n 61440) 16384 then 6 else bif Nat.beq (Nat.land n 61455) 20480 then 7 else bif Nat.beq (Nat.land n 61440) 24576 then 8 else bif Nat.beq (Nat.land n 61440) 28672 then 9 else bif Nat.beq (Nat.land n 61455) 32768 then 10 else bif Nat.beq (Nat.land n 61455) 32769 then 11 else bif Nat.beq (Nat.land n 61455) 32770 then 12 else bif Nat.beq (Nat.land n 61455) 32771 then 13 else bif Nat.beq (Nat.land n 61455) 32772 then 14 else bif Nat.beq (Nat.land n 61455) 32773 then 15 else bif Nat.beq (Nat.land n 61455) 32774 then 16 else bif Nat.beq (Nat.land n 61455) 32775 then 17 else bif Nat.beq (Nat.land n 61455) 32782 then 18 else bif Nat.beq (Nat.land n 61455) 36864 then 19 else bif Nat.beq (Nat.land n 61440) 40960 then 20 else bif Nat.beq (Nat.land n 61440) 45056 then 21 else bif Nat.beq (Nat.land n 61440) 49152 then 22 else bif Nat.beq (Nat.land n 61455) 53248 then 41 else bif Nat.beq (Nat.land n 61440) 53248 then 23 else bif Nat.beq (Nat.land n 61695) 57502 then 24 else bif Nat.beq (Nat.land n 61695) 57505 then 25 else bif Nat.beq (Nat.land n 61695) 61447 then 26 else bif Nat.beq (Nat.land n 61695) 61450 then 27 else bif Nat.beq (Nat.land n 61695) 61461 then 28 else bif Nat.beq (Nat.land n 61695) 61464 then 29 else bif Nat.beq (Nat.land n 61695) 61470 then 30 else bif Nat.beq (Nat.land n 61695) 61481 then 31 else bif Nat.beq (Nat.land n 61695) 61491 then 32 else bif Nat.beq (Nat.land n 61695) 61525 then 33 else bif Nat.beq (Nat.land n 61695) 61541 then 34 else bif Nat.beq (Nat.land n 65520) 192 then 35 else bif Nat.beq (Nat.land n 65535) 251 then 36 else bif Nat.beq (Nat.land n 65535) 252 then 37 else bif Nat.beq (Nat.land n 65535) 253 then 38 else bif Nat.beq (Nat.land n 65535) 254 then 39 else bif Nat.beq (Nat.land n 65535) 255 then 40 else bif Nat.beq (Nat.land n 61695) 61488 then 42 else bif Nat.beq (Nat.land n 61695) 61557 then 43 else bif Nat.beq (Nat.land n 61695) 61573 then 44 else bif Nat.beq (Nat.land n 65520) 208 then 45 else bif Nat.beq (Nat.land n 61455) 20482 then 46 else bif Nat.beq (Nat.land n 61455) 20483 then 47 else bif Nat.beq (Nat.land n 65535) 61440 then 48 else bif Nat.beq (Nat.land n 61695) 61441 then 49 else bif Nat.beq (Nat.land n 65535) 61442 then 50 else bif Nat.beq (Nat.land n 61695) 61498 then 51 else 0
theorem zY5:∀(n:Nat) (l:List Rl),(rB n l).op=l.foldr (fun r m=>bif Nat.beq (Nat.land n r.mask) r.code then r.op else m) 0
 |n,[]=>rfl
 |n,r::rs=>by
  unfold rB fit;rw[List.foldr_cons];cases Nat.beq (Nat.land n r.mask) r.code
  ·exact zY5 n rs
  ·rfl
theorem zXB(n:Nat):(top n).op=tC n:=zY5 n rls
end Dec
end
end Go.Proofs.YthknmadinmigfaaGreatDoor
