/- DecRef3. -/
import Derived.Test.YtcjldabaekbdlaaGreatDoorMk2b
set_option maxRecDepth 400000
set_option maxHeartbeats 64000000
set_option linter.unusedVariables false
set_option linter.unusedSimpArgs false
namespace Go.Proofs.YtcjldabaekbdlaaGreatDoor
section
open Go.RowKit Num Dec
theorem iP(b0 b1 b2 b3:Nat)(l:Int)(w:World)(h0:b0<256)(h1:b1<256)(h2:b2<256)(h3:b3<256)(hno:ok b0 b1 l=true→(top (b0*256+b1)).op=43∨(top (b0*256+b1)).op=44):
  Calls Tryz.prog 24 #[.int .u8 (b0:Int),.int .u8 (b1:Int),.int .u8 (b2:Int),.int .u8 (b3:Int),.int .i64 l] w fun e w'=>e=.returned (.agg (lI (dec b0 b1 b2 b3 l)))∧Below w.heap.size w w':=by
 have HNO:=zW hno;clear hno;have SP:=fun w=>iQ b0 b1 h0 h1 w;have OP:=fun w=>VK (b0/16) (b0%16) (b1/16) (b1%16) b1 (b0%16*256+b1) w zBY zBY;rw[show opR (b0/16) (b0%16) (b1/16) (b1%16) b1 (b0%16*256+b1)=(top (b0*256+b1)).op from VS b0 b1 h0 h1]at OP;unfold fcs at SP;unfold fv at OP;generalize e0:b0/16=hd at SP OP;generalize e1:b0%16=x at SP OP;generalize e2:b1/16=y at SP OP;generalize e3:b1%16=n at SP OP;generalize e4:x*256+b1=nnn at SP OP;generalize hR:top (b0*256+b1)=R at OP;have HR:=zW hR;have KD:=zW (show fK R by rw[←hR];exact eK _);have SPH:=zW SP;have OPH:=zW OP;have HB:=zW (zY h0 (zY h1 (zY h2 h3)));have E:=zW (zY e0 (zY e1 (zY e2 (zY e3 e4))));clear SP OP e0 e1 e2 e3 e4 h0 h1 h2 h3 hR;obtain⟨o,ho⟩:∃o,R.op=o:=⟨_,rfl⟩;rw[ho]at OPH;have HO:=zW ho;clear ho;go_enter Tryz.func24,Tryz.ntmps24;go_wp2_with fail;refine(SPH.out _).mono ?_;rintro e w1 ⟨rfl,b1'⟩;have B1:=zW (((zB w.heap.size w).alloc (zH _) (.cells wQ 47)).trans (b1'.mono zBT));have R1:=zW ((Blk.new w 47 wQ).step b1');have hw1:w.heap.size<w1.heap.size:=R1.out.lt;clear b1' SPH;go_wp2_with fail;refine(OPH.out _).mono ?_;rintro e w2 ⟨rfl,b2'⟩;have R2:=zW ((R1.out.alloc (.cells #[.int .i64 (hd:Int),.int .i64 (x:Int),.int .i64 (y:Int),.int .i64 (n:Int),.int .i64 (b1:Int),.int .i64 (nnn:Int)] 176)).step b2');have G2:=zW ((Blk.new w1 176 #[.int .i64 (hd:Int),.int .i64 (x:Int),.int .i64 (y:Int),.int .i64 (n:Int),.int .i64 (b1:Int),.int .i64 (nnn:Int)]).step b2');have B2:=zW ((B1.out.alloc (jX hw1) (.cells #[.int .i64 (hd:Int),.int .i64 (x:Int),.int .i64 (y:Int),.int .i64 (n:Int),.int .i64 (b1:Int),.int .i64 (nnn:Int)] 176)).trans (b2'.mono zBS));have hg2:w1.heap.size<w2.heap.size:=G2.out.lt;have hw2:w.heap.size<w2.heap.size:=R2.out.lt;have cx:=G2.out.cell 1;simp only[zX,zK,zV]at cx;clear b2' B1 R1 OPH;simp only[];by_cases hz:(o:Int)=0
 ·have n0:((o:Int)==0)=true:=by simpa using hz
  have NK:ok b0 b1 l=false:=by
   unfold ok;rw[HR.out,HO.out,show(o !=0)=false by simp;omega];rfl
  exact zT3
 ·have n0:((o:Int)==0)=false:=by simpa using hz
  have HZ:=zW hz;have OKE:=zW (show ok b0 b1 l=alw R l (x:Int) by unfold ok dx;rw[HR.out,HO.out,E.out.2.1,show(o !=0)=true by simp;have:=HZ.out;omega];rfl);have LV:=zW (show lvR (o:Int)=(R.level:Int)∧1≤R.level∧R.level≤3 by have:=KD.out.2.2.2.2.2.2.2.1;rw[HO.out]at this;have:=HZ.out;omega);clear hz;have LC:=zW (fun w=>iZ (o:Int) w);rw[LV.out.1]at LC;obtain⟨v,hv⟩:∃v,R.level=v:=⟨_,rfl⟩;rw[hv]at LC;have HV:=zW hv;clear hv;by_cases h1:l<(v:Int)
  ·have H1:=zW h1;have d1:decide (l<(v:Int))=true:=by simpa using h1
   clear h1;go_wp2_with fail;refine(LC.out _).mono ?_;rintro e w3 ⟨rfl,rfl⟩;have NK:ok b0 b1 l=false:=by
    rw[OKE.out];by_cases hf:(R.op:Int)=43∨(R.op:Int)=44
    ·rw[oN hf];have:=(KD.out.2.2.2.2.2.2.2.2 zBY).2;have:=H1.out;have:=HV.out;unfold wX;exact zC zBY
    ·rw[eD (fun h=>hf (.inl h)) (fun h=>hf (.inr h)),zC (by have:=H1.out;have:=HV.out;omega)];rfl
   exact zT3
  ·have H1:=zW h1;have d1:decide (l<(v:Int))=false:=by simpa using h1
   clear h1;by_cases h4:(3:Int)<l
   ·have H4:=zW h4;have d4:decide ((3:Int)<l)=true:=by simpa using h4
    clear h4;go_wp2_with fail;refine(LC.out _).mono ?_;rintro e w3 ⟨rfl,rfl⟩;have NK:ok b0 b1 l=false:=by
     rw[OKE.out];by_cases hf:(R.op:Int)=43∨(R.op:Int)=44
     ·rw[oN hf];have:=H4.out;unfold wX;exact zC zBY
     ·rw[eD (fun h=>hf (.inl h)) (fun h=>hf (.inr h)),zC (p:=l≤3) (by have:=H4.out;omega),Bool.and_false]
    exact zT3
   ·have H4:=zW h4;have d4:decide ((3:Int)<l)=false:=by simpa using h4
    clear h4;by_cases hf:(o:Int)=43
    ·have n43:((o:Int)==43)=true:=by simp;omega
     exact zF4
    ·by_cases hf2:(o:Int)=44
     ·clear hf;have hf:=hf2;clear hf2;have n44:((o:Int)==44)=true:=by simp;omega
      have n43:((o:Int)==43)=false:=by simp;omega
      exact zF4
     ·exfalso
      have AP:ok b0 b1 l=true:=by rw[OKE.out,eD (by rw[HO.out];exact hf) (by rw[HO.out];exact hf2),zO (by have:=H1.out;have:=HV.out;omega),zO (by have:=H4.out;omega)];rfl
      have:=HNO.out AP;rw[HR.out,HO.out]at this;omega
end
end Go.Proofs.YtcjldabaekbdlaaGreatDoor
