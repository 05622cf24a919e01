/- DecFin. -/
import Derived.Test.YtcjldabaekbdlaaGreatDoorMk0a
set_option maxRecDepth 400000
set_option maxHeartbeats 64000000
set_option linter.unusedVariables false
set_option linter.unusedSimpArgs false
namespace Go.Proofs.YtcjldabaekbdlaaGreatDoor
section
namespace Dec
def uS(n:Nat):Nat:=bif Nat.beq (Nat.land n 65535) 224 then 1 else bif Nat.beq (Nat.land n 65535) 238 then 2 else bif Nat.beq (Nat.land n 61440) 4096 then 3 else bif Nat.beq (Nat.land n 61440) 8192 then 4 else bif Nat.beq (Nat.land n 61440) 12288 then 5 else bif Nat.beq (Nat.land n 61440) 16384 then 6 else bif Nat.beq (Nat.land n 61455) 20480 then 7 else bif Nat.beq (Nat.land n 61440) 24576 then 8 else bif Nat.beq (Nat.land n 61440) 28672 then 9 else bif Nat.beq (Nat.land n 61455) 32768 then 10 else bif Nat.beq (Nat.land n 61455) 32769 then 11 else bif Nat.beq (Nat.land n 61455) 32770 then 12 else bif Nat.beq (Nat.land n 61455) 32771 then 13 else bif Nat.beq (Nat.land n 61455) 32772 then 14 else bif Nat.beq (Nat.land n 61455) 32773 then 15 else bif Nat.beq (Nat.land n 61455) 32774 then 16 else bif Nat.beq (Nat.land n 61455) 32775 then 17 else bif Nat.beq (Nat.land n 61455) 32782 then 18 else bif Nat.beq (Nat.land n 61455) 36864 then 19 else bif Nat.beq (Nat.land n 61440) 40960 then 20 else bif Nat.beq (Nat.land n 61440) 45056 then 21 else bif Nat.beq (Nat.land n 61440) 49152 then 22 else bif Nat.beq (Nat.land n 61455) 53248 then 41 else bif Nat.beq (Nat.land n 61440) 53248 then 23 else bif Nat.beq (Nat.land n 61695) 57502 then 24 else bif Nat.beq (Nat.land n 61695) 57505 then 25 else bif Nat.beq (Nat.land n 61695) 61447 then 26 else bif Nat.beq (Nat.land n 61695) 61450 then 27 else bif Nat.beq (Nat.land n 61695) 61461 then 28 else bif Nat.beq (Nat.land n 61695) 61464 then 29 else bif Nat.beq (Nat.land n 61695) 61470 then 30 else bif Nat.beq (Nat.land n 61695) 61481 then 31 else bif Nat.beq (Nat.land n 61695) 61491 then 32 else bif Nat.beq (Nat.land n 61695) 61525 then 33 else bif Nat.beq (Nat.land n 61695) 61541 then 34 else bif Nat.beq (Nat.land n 65520) 192 then 35 else bif Nat.beq (Nat.land n 65535) 251 then 36 else bif Nat.beq (Nat.land n 65535) 252 then 37 else bif Nat.beq (Nat.land n 65535) 253 then 38 else bif Nat.beq (Nat.land n 65535) 254 then 39 else bif Nat.beq (Nat.land n 65535) 255 then 40 else bif Nat.beq (Nat.land n 61695) 61488 then 42 else bif Nat.beq (Nat.land n 61695) 61557 then 43 else bif Nat.beq (Nat.land n 61695) 61573 then 44 else bif Nat.beq (Nat.land n 65520) 208 then 45 else bif Nat.beq (Nat.land n 61455) 20482 then 46 else bif Nat.beq (Nat.land n 61455) 20483 then 47 else bif Nat.beq (Nat.land n 65535) 61440 then 48 else bif Nat.beq (Nat.land n 61695) 61441 then 49 else bif Nat.beq (Nat.land n 65535) 61442 then 50 else bif Nat.beq (Nat.land n 61695) 61498 then 51 else 0
theorem zG5:∀(n:Nat) (l:List Rl),(NH n l).op=l.foldr (fun r m=>bif Nat.beq (Nat.land n r.mask) r.code then r.op else m) 0
 |n,[]=>rfl
 |n,r::rs=>by
  unfold NH fit;rw[List.foldr_cons];cases Nat.beq (Nat.land n r.mask) r.code
  ·exact zG5 n rs
  ·rfl
theorem OA(n:Nat):(top n).op=uS n:=zG5 n rls
def OS(x y nnn:Nat):Nat:=bif Nat.beq nnn 224 then 1 else bif Nat.beq nnn 238 then 2 else bif Nat.beq nnn 251 then 36 else bif Nat.beq nnn 252 then 37 else bif Nat.beq nnn 253 then 38 else bif Nat.beq nnn 254 then 39 else bif Nat.beq nnn 255 then 40 else bif and (Nat.beq x 0) (Nat.beq y 12)then 35 else bif and (Nat.beq x 0) (Nat.beq y 13)then 45 else 0
def V9(n:Nat):Nat:=bif Nat.ble n 7 then Nat.add 10 n else bif Nat.beq n 14 then 18 else 0
def zQP(n:Nat):Nat:=bif Nat.beq n 0 then 7 else bif Nat.beq n 2 then 46 else bif Nat.beq n 3 then 47 else 0
def i9(x nn:Nat):Nat:=bif Nat.beq nn 0 then(bif Nat.beq x 0 then 48 else 0)else bif Nat.beq nn 1 then 49 else bif Nat.beq nn 2 then(bif Nat.beq x 0 then 50 else 0)else bif Nat.beq nn 7 then 26 else bif Nat.beq nn 10 then 27 else bif Nat.beq nn 21 then 28 else bif Nat.beq nn 24 then 29 else bif Nat.beq nn 30 then 30 else bif Nat.beq nn 41 then 31 else bif Nat.beq nn 48 then 42 else bif Nat.beq nn 51 then 32 else bif Nat.beq nn 58 then 51 else bif Nat.beq nn 85 then 33 else bif Nat.beq nn 101 then 34 else bif Nat.beq nn 117 then 43 else bif Nat.beq nn 133 then 44 else 0
theorem zXP(x y nnn:Nat):rI x y nnn=OS x y nnn:=by
 unfold rI OS;simp only[cond_eq_ite,Nat.beq_eq,qK]
theorem zJB(n:Nat):ZR n=V9 n:=by
 unfold ZR V9;simp only[cond_eq_ite,Nat.beq_eq,Nat.ble_eq];rfl
theorem zWU(n:Nat):XP n=zQP n:=by
 unfold XP zQP;simp only[cond_eq_ite,Nat.beq_eq]
theorem DY(x nn:Nat):vH x nn=i9 x nn:=by
 unfold vH i9;simp only[cond_eq_ite,Nat.beq_eq]
theorem op0:(vO 16 fun x=>vO 256 fun l=>Nat.beq (OS x (Nat.div l 16) (Nat.add (Nat.mul x 256) l)) (uS (Nat.add (Nat.mul x 256) (Nat.add 0 l))))=true:=by decide+kernel
theorem op1:(vO 16 fun x=>vO 256 fun l=>Nat.beq (3) (uS (Nat.add (Nat.mul x 256) (Nat.add 4096 l))))=true:=by decide+kernel
theorem op2:(vO 16 fun x=>vO 256 fun l=>Nat.beq (4) (uS (Nat.add (Nat.mul x 256) (Nat.add 8192 l))))=true:=by decide+kernel
theorem op3:(vO 16 fun x=>vO 256 fun l=>Nat.beq (5) (uS (Nat.add (Nat.mul x 256) (Nat.add 12288 l))))=true:=by decide+kernel
theorem op4:(vO 16 fun x=>vO 256 fun l=>Nat.beq (6) (uS (Nat.add (Nat.mul x 256) (Nat.add 16384 l))))=true:=by decide+kernel
theorem op5:(vO 16 fun x=>vO 256 fun l=>Nat.beq (zQP (Nat.mod l 16)) (uS (Nat.add (Nat.mul x 256) (Nat.add 20480 l))))=true:=by decide+kernel
theorem op6:(vO 16 fun x=>vO 256 fun l=>Nat.beq (8) (uS (Nat.add (Nat.mul x 256) (Nat.add 24576 l))))=true:=by decide+kernel
theorem op7:(vO 16 fun x=>vO 256 fun l=>Nat.beq (9) (uS (Nat.add (Nat.mul x 256) (Nat.add 28672 l))))=true:=by decide+kernel
theorem op8:(vO 16 fun x=>vO 256 fun l=>Nat.beq (V9 (Nat.mod l 16)) (uS (Nat.add (Nat.mul x 256) (Nat.add 32768 l))))=true:=by decide+kernel
theorem op9:(vO 16 fun x=>vO 256 fun l=>Nat.beq (bif Nat.beq (Nat.mod l 16) 0 then 19 else 0) (uS (Nat.add (Nat.mul x 256) (Nat.add 36864 l))))=true:=by decide+kernel
theorem op10:(vO 16 fun x=>vO 256 fun l=>Nat.beq (20) (uS (Nat.add (Nat.mul x 256) (Nat.add 40960 l))))=true:=by decide+kernel
theorem op11:(vO 16 fun x=>vO 256 fun l=>Nat.beq (21) (uS (Nat.add (Nat.mul x 256) (Nat.add 45056 l))))=true:=by decide+kernel
theorem op12:(vO 16 fun x=>vO 256 fun l=>Nat.beq (22) (uS (Nat.add (Nat.mul x 256) (Nat.add 49152 l))))=true:=by decide+kernel
theorem op13:(vO 16 fun x=>vO 256 fun l=>Nat.beq (bif Nat.beq (Nat.mod l 16) 0 then 41 else 23) (uS (Nat.add (Nat.mul x 256) (Nat.add 53248 l))))=true:=by decide+kernel
theorem op14:(vO 16 fun x=>vO 256 fun l=>Nat.beq (bif Nat.beq l 158 then 24 else bif Nat.beq l 161 then 25 else 0) (uS (Nat.add (Nat.mul x 256) (Nat.add 57344 l))))=true:=by decide+kernel
theorem op15:(vO 16 fun x=>vO 256 fun l=>Nat.beq (i9 x l) (uS (Nat.add (Nat.mul x 256) (Nat.add 61440 l))))=true:=by decide+kernel
theorem opR_eq(hd x y n nn nnn:Nat):opR hd x y n nn nnn=if hd=0 then OS x y nnn else if hd=1∨hd=2∨hd=3∨hd=4 then hd+2 else if hd=5 then zQP n else if hd=6∨hd=7 then hd+2 else if hd=8 then V9 n
 else if hd=9 then(bif Nat.beq n 0 then 19 else 0)else if hd=10∨hd=11∨hd=12 then hd+10 else if hd=13 then(bif Nat.beq n 0 then 41 else 23)else if hd=14 then(bif Nat.beq nn 158 then 24 else bif Nat.beq nn 161 then 25 else 0)else i9 x nn:=by
 unfold opR;rw[zXP,zWU,zJB,DY];simp only[cond_eq_ite,Nat.beq_eq]
theorem op_hd(hd x l:Nat)(h0:hd<16)(h1:x<16)(h2:l<256):opR hd x (l/16) (l%16) l (x*256+l)=(top (x*256+(hd*4096+l))).op:=by
 rw[opR_eq,OA];have hh:hd=0∨hd=1∨hd=2∨hd=3∨hd=4∨hd=5∨hd=6∨hd=7∨hd=8∨hd=9∨hd=10∨hd=11∨hd=12∨hd=13∨hd=14∨hd=15:=zBY;rcases hh with rfl|rfl|rfl|rfl|rfl|rfl|rfl|rfl|rfl|rfl|rfl|rfl|rfl|rfl|rfl|rfl
 ·exact qF (m7 256 _ (m7 16 _ op0 x h1) l h2)
 ·exact qF (m7 256 _ (m7 16 _ op1 x h1) l h2)
 ·exact qF (m7 256 _ (m7 16 _ op2 x h1) l h2)
 ·exact qF (m7 256 _ (m7 16 _ op3 x h1) l h2)
 ·exact qF (m7 256 _ (m7 16 _ op4 x h1) l h2)
 ·exact qF (m7 256 _ (m7 16 _ op5 x h1) l h2)
 ·exact qF (m7 256 _ (m7 16 _ op6 x h1) l h2)
 ·exact qF (m7 256 _ (m7 16 _ op7 x h1) l h2)
 ·exact qF (m7 256 _ (m7 16 _ op8 x h1) l h2)
 ·exact qF (m7 256 _ (m7 16 _ op9 x h1) l h2)
 ·exact qF (m7 256 _ (m7 16 _ op10 x h1) l h2)
 ·exact qF (m7 256 _ (m7 16 _ op11 x h1) l h2)
 ·exact qF (m7 256 _ (m7 16 _ op12 x h1) l h2)
 ·exact qF (m7 256 _ (m7 16 _ op13 x h1) l h2)
 ·exact qF (m7 256 _ (m7 16 _ op14 x h1) l h2)
 ·exact qF (m7 256 _ (m7 16 _ op15 x h1) l h2)
theorem VS(b0 b1:Nat)(h0:b0<256)(h1:b1<256):opB b0 b1=(top (b0*256+b1)).op:=by
 have h:=op_hd (b0/16) (b0%16) b1 zBY zBY h1;have e:b0%16*256+(b0/16*4096+b1)=b0*256+b1:=zBY;rw[e]at h;exact h
end Dec
end
end Go.Proofs.YtcjldabaekbdlaaGreatDoor
