/- RecFwd. -/
import Derived.Test.YtilideoeaecoaaaMk3b
set_option maxRecDepth 400000
set_option maxHeartbeats 64000000
set_option linter.unusedVariables false
set_option linter.unusedSimpArgs false
namespace Go.Proofs.Ytilideoeaecoaaa
section
open Go.RowKit Num
def pr(r:jO)(n k:Nat):jO:=⟨fun i y=>if i<k then r.P i y else 0#128,r.hi,r.so,fun j=>if j<n then r.pat j else 0,r.pt,r.k,r.c,r.p,r.y⟩
def bzc(hi so:Bool)(pt k c p y:Int):Array Value:=(((Array.replicate 512 (Value.int .u64 0))++ #[.bool hi,.bool so])++(Array.replicate 16 (Value.int .u8 0)))++ #[.int .u8 pt,.int .i64 k,.int .i64 c,.int .i64 p,.int .i64 y]
theorem iK(r:jO):jA (pr r 0 0)=bzc r.hi r.so r.pt r.k r.c r.p r.y:=by
 obtain⟨P,hi,so,pat,pt,k,c,p,y⟩:=r;kernel_rfl
theorem aX(r:jO):Try.prog.built 48 [(1,.bool r.hi),(2,.bool r.so),(4,.int .u8 r.pt),(5,.agg (lY r.k r.c r.p r.y))]=some (jA (pr r 0 0)):=by
 rw[iK];kernel_rfl
theorem pr_pat(r:jO)(n k:Nat)(hn:n<16):(jA (pr r n k)).setIfInBounds (514+n) (.int .u8 (r.pat n))=jA (pr r (n+1) k):=lL _ _ fun j hj=>by
 by_cases e:j=514+n
 ·subst e;rw[zL rfl];unfold kI;rw[zY oB,zY oB,zY oB,zL oB,show 514+n-514=n by omega];show Value.int .u8 (if n<n+1 then r.pat n else 0)=_;rw[zL oB]
 ·rw[zY e];unfold kI;repeat' split
  all_goals try rfl
  show Value.int .u8 (if j-514<n+1 then r.pat (j-514)else 0)=Value.int .u8 (if j-514<n then r.pat (j-514)else 0);by_cases e2:j-514<n
  ·rw[zL e2,zL oB]
  ·rw[zY e2,zY oB]
theorem pE(r:jO)(n k:Nat)(hk:k<4):kW (jA (pr r n k)) (k*128) (j0 (r.P k))=jA (pr r n (k+1)):=vR o3 (fun j hj=>by
  rw[j1]at hj;rw[kE _ _ hj];unfold kI;rw[zL oB,show(k*128+j)/128=k by omega,show(k*128+j)%128=j by omega];have e:(pr r n (k+1)).P k=r.P k:=by
   funext y
   show(if k<k+1 then r.P k y else 0#128)=_;rw[zL oB]
  rw[e]) fun j hj ho=>by
  rw[j1]at ho;unfold kI;by_cases e:j<512
  ·rw[zL e,zL e];have e2:(pr r n k).P (j/128)=(pr r n (k+1)).P (j/128):=by
    funext y
    show(if j/128<k then _ else _)=if j/128<k+1 then _ else _;by_cases e3:j/128<k
    ·rw[zL e3,zL oB]
    ·rw[zY e3,zY oB]
   rw[e2]
  ·rw[zY e,zY e];rfl
theorem iV(r:jO):jA (pr r 16 4)=jA r:=cW fun j hj=>by
 unfold kI;by_cases e:j<512
 ·rw[zL e,zL e];have e2:(pr r 16 4).P (j/128)=r.P (j/128):=by
   funext y
   show(if j/128<4 then _ else _)=_;rw[zL oB]
  rw[e2]
 ·rw[zY e,zY e];repeat' split
  all_goals try rfl
  show Value.int .u8 (if j-514<16 then r.pat (j-514)else 0)=_;rw[zL oB]
theorem pM(A:Option Addr)(n cA:Nat)(B:Option Addr)(m cB:Nat)(r:jO):(rrC A n cA B m cB r).extract 5 (5+4)=lY r.k r.c r.p r.y:=rfl
theorem aN:lI Try.prog 45 128:=⟨⟨_,Try.underlying45,rfl⟩,eZ⟩
theorem sO{N:Nat}(hN:N=8192)(g:Nat)(f:Nat→Bool)(w:World)(H:Pxs g f w){y:Nat}(y1:y<64):
  Calls Try.prog 19 #[.slice (some ⟨g,0,none⟩) N N,.int .i64 (y:Int)] w fun e w'=>e=.returned (.tuple #[.int .u64 ((wW f y).toNat:Int),.int .u64 ((wV f y).toNat:Int)])∧w=w':=by
 subst hN;exact eQ g f w H rfl y1
theorem sY(N:Nat)(hN:N=8192)(r:jO)(A:Option Addr)(cA:Nat)(B:Option Addr)(cB:Nat)(gs:List Nat)(F:Nat→Nat→Bool)(hP:∀i,i<4→r.P i=fwd (F i))(w:World)(H:gK N A gs F B r.pat w):
  Calls Try.prog 10 #[.agg (rrC A 4 cA B 16 cB r)] w fun e w'=>e=.returned (.agg (jA r))∧Below w.heap.size w w':=by
 have NN:=zW hN;have PP:=zW hP;have H0:=zW H;have HH:=zW H;obtain⟨ad,eB,_,_⟩:=H.pat (by intro c;have:=nU r.pat;rw[c]at this;simp at this);subst eB;obtain⟨ab,ao,eA,_,_⟩:=H.row (by intro c;have:=H.len;rw[c]at this;simp at this);subst eA;clear hP hN H;go_enter Try.func10,Try.ntmps10;go_upto_region 0 with fail;refine zN ?_;refine kT rfl _ (.tmp 0) rfl _ rfl ?_;simp only[Act.put,zQ,zZ,zJ];have K1:=zW (Blk.new w 32 (rrC (some ⟨ab,ao,none⟩) 4 cA (some ad) 16 cB r));have ba:=jI w (.cells (rrC (some ⟨ab,ao,none⟩) 4 cA (some ad) 16 cB r) 32);have BB:=zW ba;have HH:=zW (HH.out.step ba);clear ba;generalize hg1:w.heap.size=g1 at K1⊢;have G1:=zW hg1;clear hg1;generalize World.alloc w _=w1 at K1 HH BB⊢;refine zI rfl fun K hK=>lW lH rfl (hK _ _ ?_);clear hK K;simp only[Act.put,zQ,zZ,zJ];have R2:=zW (Blk.new w1 48 (jA kK));have ba:=jI w1 (.cells (jA kK) 48);have A2:=zW (show w.heap.size≤w1.heap.size from BB.out.size);have K1:=zW (K1.out.step ba);have HH:=zW (HH.out.step ba);have BB:=zW (BB.out.trans (ba.mono BB.out.size));clear ba;generalize w1.heap.size=g2 at R2 A2⊢;generalize World.alloc w1 _=w2 at K1 HH R2 BB⊢;have q1:w2.cell? ⟨g1,1,none⟩=some (.bool r.hi):=K1.out.cell 1;have q2:w2.cell? ⟨g1,2,none⟩=some (.bool r.so):=K1.out.cell 2;have q4:w2.cell? ⟨g1,4,none⟩=some (.int .u8 r.pt):=K1.out.cell 4;go_upto_region 1 with fail;refine zN ?_;iterate 21 go_step
 refine kA (o:=5) vA K1.out (show 5+4≤9 by decide) rfl (.tmp 16) rfl rfl ?_;rw[pM];simp only[Act.put,zQ,zZ,zJ];refine mJ (ty:=48) (parts:=#[(1,.tmp 11),(2,.tmp 13),(4,.tmp 15),(5,.tmp 17)]) (cs:=jA (pr r 0 0)) rfl rfl (by simp[Act.eval,Act.put];exact aX r) ?_;simp only[Act.put,zQ,zZ,zJ];refine zI rfl fun K hK=>lW lH rfl (hK _ _ ?_);clear hK K q1 q2 q4;simp only[Act.put,zQ,zZ,zJ];have R3:=zW (Blk.new w2 48 (jA kK));have ba:=jI w2 (.cells (jA kK) 48);have A3:=zW (show w.heap.size≤w2.heap.size from BB.out.size);have G3:=zW (show g2<w2.heap.size∧g1<w2.heap.size from⟨R2.out.lt,K1.out.lt⟩);have K1:=zW (K1.out.step ba);have R2:=zW (R2.out.step ba);have HH:=zW (HH.out.step ba);have BB:=zW (BB.out.trans (ba.mono BB.out.size));clear ba;generalize w2.heap.size=g3 at R3 A3 G3⊢;generalize World.alloc w2 _=w3 at K1 HH R2 R3 BB⊢;refine kX (ds:=jA (pr r 0 0)) j8 R3.out (jU _) (jU _) (lR _) rfl (.tmp 3) (.tmp 18) rfl rfl rfl ?_;have R3:=zW (R3.out.store (jA (pr r 0 0)));have BB:=zW (mG BB.out A3.out (jA (pr r 0 0)));have K1:=zW (K1.out.otherRow (g:=g3) oS (jA (pr r 0 0)));have R2:=zW (R2.out.otherRow (g:=g3) oS (jA (pr r 0 0)));clear HH;generalize World.setRow w3 _ _=w4 at*;go_wp2_with fail;go_loopw [4] (fun i wr=>∃n:Nat,n≤16∧i=.int .i64 (n:Int)∧Blk g1 32 (rrC (some ⟨ab,ao,none⟩) 4 cA (some ad) 16 cB r) wr∧Blk g2 48 (jA kK) wr∧Blk g3 48 (jA (pr r n 0)) wr∧Below w.heap.size w wr) (fun i _=>16-(intOf i).toNat)
 case atStart=>exact⟨0,zD _,rfl,K1.out,R2.out,R3.out,BB.out⟩
 case round=>
  clear K1 R2 R3 BB
  obtain⟨n,hn,rfl,k1,k2,k3,bb⟩:=hrel
  have K1:=zW k1
  have R2:=zW k2
  have R3:=zW k3
  have BB:=zW bb
  clear k1 k2 k3 bb
  by_cases hlt:n<16
  ·have JX:=zW hlt
   have ni:(n:Int)<16:=oB
   have q3:wr.cell? ⟨g1,3,none⟩=some (.slice (some ad) 16 cB):=K1.out.cell 3
   have qp:wr.cell? (ad.add n)=some (.int .u8 (r.pat n)):=by
    obtain⟨ad',e,_,hc⟩:=(H0.out.step BB.out).pat (by intro c;have:=nU r.pat;rw[c]at this;simp at this);injection e with e
    subst e;rw[hc n (by rw[nU];exact hlt)];simp[cH]
   have f3:=R3.out.frozen (514+n)
   have c3:=(R3.out.cell (514+n)).trans (j6 _ oB)
   have PT:=zW (pr_pat r n 0 hlt)
   go_wp2_with fail
   go_roundw
   case rel=>
    refine⟨n+1,JX.out,by go_num,K1.out.other (g:=g3) oS _ _,R2.out.other (g:=g3) oS _ _,(R3.out.put (514+n) _).eq PT.out,BB.out.setCell (p:=⟨g3,514+n,none⟩) A3.out _⟩
   case measure=>have:=JX.out;simp[intOf];omega
  ·have ni:¬(n:Int)<16:=oB
   obtain rfl:n=16:=by omega
   go_wp2_with fail
   go_loopw [5] (fun i wx=>∃k:Nat,k≤4∧i=.int .i64 (k:Int)∧Blk g1 32 (rrC (some ⟨ab,ao,none⟩) 4 cA (some ad) 16 cB r) wx∧Blk g2 48 (jA kK) wx∧Blk g3 48 (jA (pr r 16 k)) wx∧Below w.heap.size w wx) (fun i _=>4-(intOf i).toNat)
   case atStart=>exact⟨0,zD _,rfl,K1.out,R2.out,R3.out,BB.out⟩
   case round=>
    clear K1 R2 R3 BB
    obtain⟨k,hk,rfl,k1,k2,k3,bb⟩:=hrel
    have K1:=zW k1
    have R2:=zW k2
    have R3:=zW k3
    have BB:=zW bb
    clear k1 k2 k3 bb
    by_cases hkt:k<4
    ·have JK:=zW hkt
     have ki:(k:Int)<4:=oB
     have hz:=d9
     go_wp2_with fail
     have P4:=zW (kO.new wr (fun _=>0#128) 45)
     have ba:=jI wr (.cells (j0 fun _=>0#128) 45)
     have A4:=zW (show w.heap.size≤wr.heap.size from BB.out.size)
     have G4:=zW (show g3<wr.heap.size∧g2<wr.heap.size∧g1<wr.heap.size from⟨R3.out.lt,R2.out.lt,K1.out.lt⟩)
     have K1:=zW (K1.out.step ba)
     have R2:=zW (R2.out.step ba)
     have R3:=zW (R3.out.step ba)
     have BB:=zW (BB.out.trans (ba.mono BB.out.size))
     clear ba hz
     generalize wr.heap.size=g4 at P4 A4 G4⊢
     generalize World.alloc wr _=wa at P4 K1 R2 R3 BB⊢
     go_loopw [7] (fun i wy=>∃y:Nat,y≤64∧i=.int .i64 (y:Int)∧kO g4 45 (fun z=>if z<y then r.P k z else 0#128) wy∧Blk g1 32 (rrC (some ⟨ab,ao,none⟩) 4 cA (some ad) 16 cB r) wy∧Blk g2 48 (jA kK) wy∧Blk g3 48 (jA (pr r 16 k)) wy∧Below w.heap.size w wy) (fun i _=>64-(intOf i).toNat)
     case atStart=>exact⟨0,zD _,rfl,P4.out.congr fun y hy=>by simp,K1.out,R2.out,R3.out,BB.out⟩
     case round=>
      clear P4 K1 R2 R3 BB
      obtain⟨y,hy,rfl,p4,k1,k2,k3,bb⟩:=hrel
      have P4:=zW p4
      have K1:=zW k1
      have R2:=zW k2
      have R3:=zW k3
      have BB:=zW bb
      clear p4 k1 k2 k3 bb
      by_cases hyt:y<64
      ·have JY:=zW hyt
       have yi:(y:Int)<64:=oB
       have HB:=zW (H0.out.step BB.out)
       obtain⟨g,hg⟩:∃g,gs.getD k 0=g:=⟨_,rfl⟩
       have q0:wr.cell? ⟨g1,0,none⟩=some (.slice (some ⟨ab,ao,none⟩) 4 cA):=K1.out.cell 0
       have qe:wr.cell? ⟨ab,ao+k,none⟩=some (.slice (some ⟨g,0,none⟩) N N):=by
        obtain⟨b',o',e,_,hc⟩:=HB.out.row (by intro c;have:=HB.out.len;rw[c]at this;simp at this);injection e with e
        injection e with e1 e2 _
        subst e1 e2;have hl:=HB.out.len;rw[hc k oB,←hg,show gs.getD k 0=gs[k]' oB from by simp[show k<gs.length by omega]];rfl
       have C:=zW (sO NN.out g (F k) wr (by rw[←hg];exact HB.out.px k hkt) hyt)
       have EE:=zW (show wW (F k) y++wV (F k) y=r.P k y from by rw[PP.out k hkt];rfl)
       generalize wW (F k) y=h at C EE
       generalize wV (F k) y=l at C EE
       have a1:=P4.out.left y hyt
       have a2:=P4.out.right y hyt
       have a3:=P4.out.frozen (y*2)
       have a4:=P4.out.frozen (y*2+1)
       clear hg HB
       go_wp2_with fail
       refine C.out.mono ?_
       rintro e w' ⟨rfl,rfl⟩
       clear C
       go_wp2_with fail
       go_roundw
       case rel=>
        have n1:g1≠g4:=by have:=G4.out;omega
        have n2:g2≠g4:=by have:=G4.out;omega
        have n3:g3≠g4:=by have:=G4.out;omega
        refine⟨y+1,JY.out,by go_num,(P4.out.row y hyt h l).congr fun z hz=>?_,(K1.out.other n1 _ _).other n1 _ _,(R2.out.other n2 _ _).other n2 _ _,(R3.out.other n3 _ _).other n3 _ _,(BB.out.setCell (p:=⟨g4,y*2,none⟩) A4.out _).setCell (p:=⟨g4,y*2+1,none⟩) A4.out _⟩
        rw[EE.out]
        by_cases e:z=y
        ·subst e;rw[mR,zL oB]
        ·rw[nE _ _ _ _ e]
         by_cases e2:z<y
         ·rw[zL e2,zL oB]
         ·rw[zY e2,zY oB]
       case measure=>have:=JY.out;simp[intOf];omega
      ·have yi:¬(y:Int)<64:=oB
       have P4:=zW (P4.out.congr (Q:=r.P k) fun z hz=>by rw[zL oB])
       go_upto_region 15 with fail
       refine zN ?_
       iterate 3 go_step
       refine j3 aN (show Blk g4 45 (j0 (r.P k)) wr from P4.out) (j1 _) rfl (.tmp 6) rfl rfl ?_
       simp only[Act.put,zQ,zZ,zJ]
       iterate 6 go_step
       refine mP (o:=k*128) (ds:=j0 (r.P k)) aN R3.out (j1 _) (by rw[jU];omega) (cM _) rfl (.tmp 58) (.tmp 56) rfl rfl rfl ?_
       have R3:=zW (R3.out.store (kW (jA (pr r 16 k)) (k*128) (j0 (r.P k))))
       have K1:=zW (K1.out.otherRow (g:=g3) oS (kW (jA (pr r 16 k)) (k*128) (j0 (r.P k))))
       have R2:=zW (R2.out.otherRow (g:=g3) oS (kW (jA (pr r 16 k)) (k*128) (j0 (r.P k))))
       have BB:=zW (mG BB.out A3.out (kW (jA (pr r 16 k)) (k*128) (j0 (r.P k))))
       rw[pE r 16 k hkt]at R3 K1 R2 BB⊢
       generalize World.setRow wr _ _=wq at R3 K1 R2 BB⊢
       go_wp2_with fail
       go_roundw
       case rel=>exact⟨k+1,JK.out,by go_num,K1.out,R2.out,R3.out,BB.out⟩
       case measure=>have:=JK.out;simp[intOf];omega
    ·have ki:¬(k:Int)<4:=oB
     obtain rfl:k=4:=by omega
     go_upto_region 16 with fail
     refine zN ?_
     rw[iV]at R3
     refine j3 j8 R3.out (jU _) rfl (.tmp 3) rfl rfl ?_
     simp only[Act.put,zQ,zZ,zJ]
     refine kX (ds:=jA r) j8 R2.out (jU _) (jU _) (lR _) rfl (.tmp 2) (.tmp 59) rfl rfl rfl ?_
     have RE:=R2.out.store (jA r)
     have BE:=mG BB.out A2.out (jA r)
     generalize World.setRow wr _ _=we at RE BE⊢
     go_wp2_with fail
     exact qU (qF rfl _ _ g2 _ _ _ _ rfl RE Try.underlying48 rfl (by rw[j8.i,jU])) rfl ⟨rfl,BE⟩
end
end Go.Proofs.Ytilideoeaecoaaa
