/- DecFind. -/
import Derived.Test.YtbpniahcjbagmaaGreatDoorMDecTab
set_option maxRecDepth 400000
set_option maxHeartbeats 64000000
set_option linter.unusedVariables false
set_option linter.unusedSimpArgs false
namespace Go.Proofs.YtbpniahcjbagmaaGreatDoor
section
open Go.RowKit Num Dec
theorem zN5(a b:Nat)(ha:a<2^62)(hb:b<2^62):bits .and .i64 (a:Int) (b:Int)=((a&&&b:Nat):Int):=(bits_nat .i64 62 zGL tT a b ha hb).1
def cX:Array Value:=#[.int .i64 0,.int .i64 0,.int .i64 0,.int .i64 0,.nilFunc]
def aD(r:Rl):Value:=bif r.op !=0 then .tuple #[.agg (rcs r),.bool true]else .tuple #[.agg cX,.bool false]
def zWT(n k:Nat):Prop:=top n=tP n (rls.drop k)
theorem rl_ok(k:Nat)(hk:k<rls.length):(rls[k]).mask<65536∧(rls[k]).op≠0:=by
 have:=zYF (fun r=>decide (r.mask<65536)&&(r.op !=0)) (by decide+kernel) k hk;simpa using this
theorem zK6(n:Nat)(hn:n<65536)(w:World):Calls Tryz.prog 84 #[.int .i64 (n:Int)] w fun e w'=>e=.returned (aD (top n))∧Below w.heap.size w w':=by
 go_enter Tryz.func84,Tryz.ntmps84;go_wp2_with fail;refine(UT _).mono ?_;rintro e w1 ⟨rfl,b1⟩;have B1:=zW (((zB w.heap.size w).alloc (zG _) (.cells cX 210)).trans (b1.mono zGN));have Z1:=zW ((Blk.new w 210 cX).step b1);clear b1;go_wp2_with fail;go_loopw [7] (fun i wr=>∃k:Nat,k≤rls.length∧i=.int .i64 (k:Int)∧zWT n k∧Below w.heap.size w wr∧Blk w.heap.size 210 cX wr) (fun i _=>rls.length-(intOf i).toNat)
 case atStart=>exact⟨0,qW _,rfl,rfl,B1.out,Z1.out⟩
 case round=>
  obtain⟨k,hk,rfl,ht,hb,hz⟩:=hrel
  have HB:=zW hb
  have HT:=zW ht
  have HZ:=zW hz
  have L:=zW hz.lt
  clear hb ht
  by_cases hlt:k<rls.length
  ·obtain⟨R,ha,hr,HE,HN⟩:∃R:Rl,(∀w:World,(Instr.index 217 zJU (.int .i64 (k:Int))).run Tryz.prog w=.ok (.agg (rcs R)) w)∧(R.mask<65536∧R.op≠0)∧Hid (fit n R=true→top n=R)∧Hid (fit n R=false→zWT n (k+1)):=
    ⟨rls[k],zYB k hlt,rl_ok k hlt,zW (fun h=>zW6 n k hlt h HT.out),zW (fun h=>zZ4 n k hlt h HT.out)⟩
   have hk51:(k:Int)<51:=by have:=MA;omega
   have HK:=zW hlt
   clear hk hlt
   obtain⟨m,c,o,l,p⟩:=R
   have e:=zN5 n m zGX (by have:=hr.1;simp only at this;omega)
   have HO:=zW (show o≠0 from hr.2)
   clear hr
   unfold rcs at ha
   simp only at ha
   obtain⟨x,hx⟩:∃x,n&&&m=x:=⟨_,rfl⟩
   rw[hx]at e
   have HX:=zW hx
   clear hx
   have c0:=hz.cell 0
   have c1:=hz.cell 1
   have c2:=hz.cell 2
   have c3:=hz.cell 3
   have c4:=hz.cell 4
   have f0:=hz.frozen 0
   have f1:=hz.frozen 1
   have f2:=hz.frozen 2
   have f3:=hz.frozen 3
   have f4:=hz.frozen 4
   simp only[cX,zX,zK,zV]at c0 c1 c2 c3 c4
   have hw:w.heap.size<wr.heap.size:=hz.lt
   clear hz
   by_cases hc:(x:Int)=(c:Int)
   ·have F:=zW (show aD (top n)=.tuple #[.agg (rcs ⟨m,c,o,l,p⟩),.bool true] by
     rw[HE.out (zNM (show n&&&m=c by rw[HX.out];omega))];unfold aD;rw[show(o !=0)=true by simpa using HO.out];rfl)
    have hc':((x:Int)==(c:Int))=true:=zG6
    have X:=zW ((((((HZ.out.put 0 (.int .i64 (m:Int))).put 1 (.int .i64 (c:Int))).put 2 (.int .i64 (o:Int))).put 3 (.int .i64 (l:Int))).put 4 (.func (.func (pf p)) #[] #[])).alloc (.cells #[.int .i64 (m:Int),.int .i64 (c:Int),.int .i64 (o:Int),.int .i64 (l:Int),.func (.func (pf p)) #[] #[]] 210))
    have D:=zW ((((((HB.out.setCell (p:=⟨w.heap.size,0,none⟩) (zG _) (.int .i64 (m:Int))).setCell (p:=⟨w.heap.size,1,none⟩) (zG _) (.int .i64 (c:Int))).setCell (p:=⟨w.heap.size,2,none⟩) (zG _) (.int .i64 (o:Int))).setCell (p:=⟨w.heap.size,3,none⟩) (zG _) (.int .i64 (l:Int))).setCell (p:=⟨w.heap.size,4,none⟩) (zG _) (.func (.func (pf p)) #[] #[])).alloc (by simpa using j7 L.out) (.cells #[.int .i64 (m:Int),.int .i64 (c:Int),.int .i64 (o:Int),.int .i64 (l:Int),.func (.func (pf p)) #[] #[]] 210))
    go_wp2
    generalize World.alloc _ _=V at X D⊢
    have x0:=X.out.cell 0
    have x1:=X.out.cell 1
    have x2:=X.out.cell 2
    have x3:=X.out.cell 3
    have x4:=X.out.cell 4
    simp[cX]at x0 x1 x2 x3 x4
    exact zP (v:=.tuple #[.agg (rcs ⟨m,c,o,l,p⟩),.bool true]) (by simp[results,Tryz.results84,go_sem,x0,x1,x2,x3,x4,rcs]) rfl ⟨by rw[F.out],D.out⟩
   ·have F:=zW (HN.out (fit_no (show¬n&&&m=c by rw[HX.out];omega)))
    have hc':((x:Int)==(c:Int))=false:=zG6
    have X:=zW (HZ.out.alloc (.cells #[.int .i64 (m:Int),.int .i64 (c:Int),.int .i64 (o:Int),.int .i64 (l:Int),.func (.func (pf p)) #[] #[]] 210))
    have D:=zW (HB.out.alloc (j7 L.out) (.cells #[.int .i64 (m:Int),.int .i64 (c:Int),.int .i64 (o:Int),.int .i64 (l:Int),.func (.func (pf p)) #[] #[]] 210))
    go_wp2
    exact⟨⟨k+1,HK.out,rfl,F.out,D.out,X.out⟩,by have:=HK.out;simp[intOf];omega⟩
  ·have F:=zW (show aD (top n)=.tuple #[.agg cX,.bool false] by rw[zW7 n k zGX HT.out];rfl)
   have hk51:¬(k:Int)<51:=by have:=MA;omega
   clear hk hlt
   have c0:=hz.cell 0
   have c1:=hz.cell 1
   have c2:=hz.cell 2
   have c3:=hz.cell 3
   have c4:=hz.cell 4
   have f0:=hz.frozen 0
   have f1:=hz.frozen 1
   have f2:=hz.frozen 2
   have f3:=hz.frozen 3
   have f4:=hz.frozen 4
   simp only[cX,zX,zK,zV]at c0 c1 c2 c3 c4
   clear hz
   have X:=zW (((((HZ.out.put 0 (.int .i64 0)).put 1 (.int .i64 0)).put 2 (.int .i64 0)).put 3 (.int .i64 0)).put 4 .nilFunc)
   have D:=zW (((((HB.out.setCell (p:=⟨w.heap.size,0,none⟩) (zG _) (.int .i64 0)).setCell (p:=⟨w.heap.size,1,none⟩) (zG _) (.int .i64 0)).setCell (p:=⟨w.heap.size,2,none⟩) (zG _) (.int .i64 0)).setCell (p:=⟨w.heap.size,3,none⟩) (zG _) (.int .i64 0)).setCell (p:=⟨w.heap.size,4,none⟩) (zG _) .nilFunc)
   go_wp2
   generalize World.setCell _ _ _=V at X D⊢
   have x0:=X.out.cell 0
   have x1:=X.out.cell 1
   have x2:=X.out.cell 2
   have x3:=X.out.cell 3
   have x4:=X.out.cell 4
   simp[cX]at x0 x1 x2 x3 x4
   exact zP (v:=.tuple #[.agg cX,.bool false]) (by simp[results,Tryz.results84,go_sem,x0,x1,x2,x3,x4,cX]) rfl ⟨by rw[F.out],D.out⟩
theorem sD(h l:Nat)(level:Int)(w:World):Calls Tryz.prog 87 #[.int .u8 (h:Int),.int .u8 (l:Int),.int .i64 level] w fun e w'=>e=.returned (.int .i64 (skl h l level))∧w=w':=by
 unfold skl;by_cases h3:level=3
 ·by_cases hh:(h:Int)=240
  ·by_cases hl:(l:Int)=0
   ·rw[zN ⟨h3,by omega,by omega⟩];exact zR5
   ·rw[zL zGX];exact zR5
  ·rw[zL zGX];exact zR5
 ·rw[zL zGX];exact zR5
end
end Go.Proofs.YtbpniahcjbagmaaGreatDoor
