/- DecFin2. -/
import Derived.Test.YthknmadinmigfaaGreatDoorMDecFin
set_option maxRecDepth 400000
set_option maxHeartbeats 64000000
set_option linter.unusedVariables false
set_option linter.unusedSimpArgs false
namespace Go.Proofs.YthknmadinmigfaaGreatDoor
section
namespace Dec
def F8(n:Int):List Int→Bool
 |[]=>false
 |x::xs=>if x=n then true else F8 n xs
def LX:List Int:=[5,6,7,8,9,10,11,12,13,14,15,16,17,18,19,21,22,23,24,25,26,27,28,29,30,31,32,33,34,41,42,43,44,46,47,51]
def LY:List Int:=[7,10,11,12,13,14,15,16,17,18,19,23,41,46,47]
def LN:List Int:=[23,35,45]
def LNN:List Int:=[5,6,8,9,22]
def LA:List Int:=[3,4,20,21]
def hX(p:Pk):Bool:=match p with| .pX| .pXY| .pXYN| .pXNN| .pXAddr=>true|_=>false
def hY(p:Pk):Bool:=match p with| .pXY| .pXYN=>true|_=>false
def hN(p:Pk):Bool:=match p with| .pN| .pXYN=>true|_=>false
def hNN(p:Pk):Bool:=match p with| .pXNN=>true|_=>false
def hA(p:Pk):Bool:=match p with| .pAddr| .pXAddr=>true|_=>false
def hP(p:Pk):Bool:=match p with| .pPlanes=>true|_=>false
def hL(p:Pk):Bool:=match p with| .pNext=>true|_=>false
def oV(r:Rl):Prop:=F8 r.op LX=hX r.pk∧F8 r.op LY=hY r.pk∧F8 r.op LN=hN r.pk∧F8 r.op LNN=hNN r.pk∧F8 r.op LA=hA r.pk∧((r.op:Int)==49)=hP r.pk∧((r.op:Int)==48)=hL r.pk∧(r.op=0∨(lvR r.op=r.level∧1≤r.level∧r.level≤3∧r.op≤51∧lv r.op=r.level))∧(r.op=43∨r.op=44→r.pk=.pX∧r.level=2)
instance(r:Rl):Decidable (oV r):=by unfold oV;infer_instance
theorem iG(n:Nat):oV (top n):=qA (zXG (fun r=>decide (oV r)) (by decide+kernel) (by decide+kernel) n)
theorem long0:(cC 16 fun x=>cC 256 fun l=>(Nat.beq (tC (Nat.add (Nat.mul x 256) (Nat.add 0 l))) 48)==(Nat.beq (Nat.add (Nat.mul x 256) (Nat.add 0 l)) 61440))=true:=by decide+kernel
theorem long1:(cC 16 fun x=>cC 256 fun l=>(Nat.beq (tC (Nat.add (Nat.mul x 256) (Nat.add 4096 l))) 48)==(Nat.beq (Nat.add (Nat.mul x 256) (Nat.add 4096 l)) 61440))=true:=by decide+kernel
theorem long2:(cC 16 fun x=>cC 256 fun l=>(Nat.beq (tC (Nat.add (Nat.mul x 256) (Nat.add 8192 l))) 48)==(Nat.beq (Nat.add (Nat.mul x 256) (Nat.add 8192 l)) 61440))=true:=by decide+kernel
theorem long3:(cC 16 fun x=>cC 256 fun l=>(Nat.beq (tC (Nat.add (Nat.mul x 256) (Nat.add 12288 l))) 48)==(Nat.beq (Nat.add (Nat.mul x 256) (Nat.add 12288 l)) 61440))=true:=by decide+kernel
theorem long4:(cC 16 fun x=>cC 256 fun l=>(Nat.beq (tC (Nat.add (Nat.mul x 256) (Nat.add 16384 l))) 48)==(Nat.beq (Nat.add (Nat.mul x 256) (Nat.add 16384 l)) 61440))=true:=by decide+kernel
theorem long5:(cC 16 fun x=>cC 256 fun l=>(Nat.beq (tC (Nat.add (Nat.mul x 256) (Nat.add 20480 l))) 48)==(Nat.beq (Nat.add (Nat.mul x 256) (Nat.add 20480 l)) 61440))=true:=by decide+kernel
theorem long6:(cC 16 fun x=>cC 256 fun l=>(Nat.beq (tC (Nat.add (Nat.mul x 256) (Nat.add 24576 l))) 48)==(Nat.beq (Nat.add (Nat.mul x 256) (Nat.add 24576 l)) 61440))=true:=by decide+kernel
theorem long7:(cC 16 fun x=>cC 256 fun l=>(Nat.beq (tC (Nat.add (Nat.mul x 256) (Nat.add 28672 l))) 48)==(Nat.beq (Nat.add (Nat.mul x 256) (Nat.add 28672 l)) 61440))=true:=by decide+kernel
theorem long8:(cC 16 fun x=>cC 256 fun l=>(Nat.beq (tC (Nat.add (Nat.mul x 256) (Nat.add 32768 l))) 48)==(Nat.beq (Nat.add (Nat.mul x 256) (Nat.add 32768 l)) 61440))=true:=by decide+kernel
theorem long9:(cC 16 fun x=>cC 256 fun l=>(Nat.beq (tC (Nat.add (Nat.mul x 256) (Nat.add 36864 l))) 48)==(Nat.beq (Nat.add (Nat.mul x 256) (Nat.add 36864 l)) 61440))=true:=by decide+kernel
theorem long10:(cC 16 fun x=>cC 256 fun l=>(Nat.beq (tC (Nat.add (Nat.mul x 256) (Nat.add 40960 l))) 48)==(Nat.beq (Nat.add (Nat.mul x 256) (Nat.add 40960 l)) 61440))=true:=by decide+kernel
theorem long11:(cC 16 fun x=>cC 256 fun l=>(Nat.beq (tC (Nat.add (Nat.mul x 256) (Nat.add 45056 l))) 48)==(Nat.beq (Nat.add (Nat.mul x 256) (Nat.add 45056 l)) 61440))=true:=by decide+kernel
theorem long12:(cC 16 fun x=>cC 256 fun l=>(Nat.beq (tC (Nat.add (Nat.mul x 256) (Nat.add 49152 l))) 48)==(Nat.beq (Nat.add (Nat.mul x 256) (Nat.add 49152 l)) 61440))=true:=by decide+kernel
theorem long13:(cC 16 fun x=>cC 256 fun l=>(Nat.beq (tC (Nat.add (Nat.mul x 256) (Nat.add 53248 l))) 48)==(Nat.beq (Nat.add (Nat.mul x 256) (Nat.add 53248 l)) 61440))=true:=by decide+kernel
theorem long14:(cC 16 fun x=>cC 256 fun l=>(Nat.beq (tC (Nat.add (Nat.mul x 256) (Nat.add 57344 l))) 48)==(Nat.beq (Nat.add (Nat.mul x 256) (Nat.add 57344 l)) 61440))=true:=by decide+kernel
theorem long15:(cC 16 fun x=>cC 256 fun l=>(Nat.beq (tC (Nat.add (Nat.mul x 256) (Nat.add 61440 l))) 48)==(Nat.beq (Nat.add (Nat.mul x 256) (Nat.add 61440 l)) 61440))=true:=by decide+kernel
theorem zK8(hd x l:Nat)(h0:hd<16)(h1:x<16)(h2:l<256):(Nat.beq (tC (x*256+(hd*4096+l))) 48)=(Nat.beq (x*256+(hd*4096+l)) 61440):=by
 have hh:hd=0∨hd=1∨hd=2∨hd=3∨hd=4∨hd=5∨hd=6∨hd=7∨hd=8∨hd=9∨hd=10∨hd=11∨hd=12∨hd=13∨hd=14∨hd=15:=zLS;rcases hh with rfl|rfl|rfl|rfl|rfl|rfl|rfl|rfl|rfl|rfl|rfl|rfl|rfl|rfl|rfl|rfl
 ·exact jS (mF 256 _ (mF 16 _ long0 x h1) l h2)
 ·exact jS (mF 256 _ (mF 16 _ long1 x h1) l h2)
 ·exact jS (mF 256 _ (mF 16 _ long2 x h1) l h2)
 ·exact jS (mF 256 _ (mF 16 _ long3 x h1) l h2)
 ·exact jS (mF 256 _ (mF 16 _ long4 x h1) l h2)
 ·exact jS (mF 256 _ (mF 16 _ long5 x h1) l h2)
 ·exact jS (mF 256 _ (mF 16 _ long6 x h1) l h2)
 ·exact jS (mF 256 _ (mF 16 _ long7 x h1) l h2)
 ·exact jS (mF 256 _ (mF 16 _ long8 x h1) l h2)
 ·exact jS (mF 256 _ (mF 16 _ long9 x h1) l h2)
 ·exact jS (mF 256 _ (mF 16 _ long10 x h1) l h2)
 ·exact jS (mF 256 _ (mF 16 _ long11 x h1) l h2)
 ·exact jS (mF 256 _ (mF 16 _ long12 x h1) l h2)
 ·exact jS (mF 256 _ (mF 16 _ long13 x h1) l h2)
 ·exact jS (mF 256 _ (mF 16 _ long14 x h1) l h2)
 ·exact jS (mF 256 _ (mF 16 _ long15 x h1) l h2)
theorem zQ1(b0 b1:Nat)(h0:b0<256)(h1:b1<256):(top (b0*256+b1)).op=48↔b0=240∧b1=0:=by
 have h:=zK8 (b0/16) (b0%16) b1 zLS zLS h1;have e:b0%16*256+(b0/16*4096+b1)=b0*256+b1:=zLS;rw[e,←zXB]at h;constructor
 ·intro k;rw[k]at h;have:=kS h.symm;omega
 ·rintro⟨rfl,rfl⟩;exact kS (h.trans rfl)
theorem ZT{b0 b1:Nat}(h0:b0<256)(h1:b1<256):(b0=240∧b1=0)→(top (b0*256+b1)).level=3∧(top (b0*256+b1)).op=48:=by
 rintro⟨rfl,rfl⟩;decide+kernel
theorem UU{b0 b1:Nat}{l:Int}(h0:b0<256)(h1:b1<256)(h:ok b0 b1 l=true):skl b0 b1 l=if(top (b0*256+b1)).op=48 then 4 else 2:=by
 unfold skl;by_cases hf:b0=240∧b1=0
 ·have hl:=ZT h0 h1 hf;rw[zN hl.2];unfold ok alw at h;rw[hl.2,hl.1]at h;simp at h;rw[zN ⟨by omega,hf⟩]
 ·rw[zL (fun k=>hf ((zQ1 b0 b1 h0 h1).1 k)),zL (fun k=>hf k.2)]
theorem skl_no{b0 b1:Nat}{l:Int}(h0:b0<256)(h1:b1<256)(h:ok b0 b1 l=false):skl b0 b1 l=2:=by
 unfold skl;by_cases hf:l=3∧b0=240∧b1=0
 ·exfalso
  have hl:=ZT h0 h1 hf.2;unfold ok alw at h;rw[hl.2,hl.1,hf.1]at h;cases h
 ·rw[zL hf]
end Dec
end
end Go.Proofs.YthknmadinmigfaaGreatDoor
