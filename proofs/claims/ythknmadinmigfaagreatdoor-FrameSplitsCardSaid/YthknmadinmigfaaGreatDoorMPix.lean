/- Pix. -/
import Derived.Test.YthknmadinmigfaaGreatDoorRows
import Derived.Test.YthknmadinmigfaaGreatDoorMk0b
set_option maxRecDepth 400000
set_option maxHeartbeats 64000000
set_option linter.unusedVariables false
set_option linter.unusedSimpArgs false
namespace Go.Proofs.YthknmadinmigfaaGreatDoor
section
open Go.RowKit Num
theorem sO(h l h' l':BitVec 64)(w:World):Calls Tryz.prog 199 #[.agg #[.int .u64 (h.toNat:Int),.int .u64 (l.toNat:Int)],.agg #[.int .u64 (h'.toNat:Int),.int .u64 (l'.toNat:Int)]] w fun e w'=>
  e=.returned (.agg #[.int .u64 ((h&&&h').toNat:Int),.int .u64 ((l&&&l').toNat:Int)])∧Below w.heap.size w w':=by
 go_enter Tryz.func199,Tryz.ntmps199;go_wp2;go_returns;refine⟨?_,by go_grown⟩;rw[zLG,zLG]
theorem zYN(a b:BitVec 128)(w:World):Calls Tryz.prog 199 #[rv a,rv b] w fun e w'=>e=.returned (rv (a&&&b))∧Below w.heap.size w w':=by
 obtain⟨h,l,rfl⟩:=xW a;obtain⟨h',l',rfl⟩:=xW b;rw[lP,lP,KU,lP];exact sO h l h' l' w
theorem H7(a b:BitVec 128)(w:World):Calls Tryz.prog 198 #[rv a,rv b] w fun e w'=>e=.returned (rv (a^^^b))∧Below w.heap.size w w':=by
 obtain⟨h,l,rfl⟩:=xW a;obtain⟨h',l',rfl⟩:=xW b;rw[lP,lP,KA,lP];go_enter Tryz.func198,Tryz.ntmps198;go_wp2;go_returns;refine⟨?_,by go_grown⟩;rw[zY4,zY4]
theorem pT(h l:BitVec 64)(n:Int)(n0:0≤n)(n1:n≤9223372036854775807):∃(k k1 k2:Nat) (s1 s2 s3 s4 s5 s6:BitVec 64),s1++s6=mv (h++l) n∧IntKind.u64.wrap n=(k:Int)∧
  IntKind.u64.wrap (64-(k:Int))=(k1:Int)∧IntKind.u64.wrap ((k:Int)-64)=(k2:Int)∧(h.toNat:Int)/2^min k 64=(s1.toNat:Int)∧(l.toNat:Int)/2^min k 64=(s2.toNat:Int)∧
  IntKind.u64.wrap ((h.toNat:Int)*2^min k1 64)=(s3.toNat:Int)∧bits .or .u64 (s2.toNat:Int) (s3.toNat:Int)=(s4.toNat:Int)∧(h.toNat:Int)/2^min k2 64=(s5.toNat:Int)∧bits .or .u64 (s4.toNat:Int) (s5.toNat:Int)=(s6.toNat:Int):=by
 obtain⟨k,rfl⟩:=jY n0;have sh:∀(u:BitVec 64) (j:Nat),(u.toNat:Int)/2^min j 64=((u>>>j).toNat:Int):=fun u j=>zY7 u j;have sl:∀(u:BitVec 64) (j:Nat),IntKind.u64.wrap ((u.toNat:Int)*2^min j 64)=((u<<<j).toNat:Int):=fun u j=>by rw[IntKind.wrap_u64];exact U0 u j
 have e1:IntKind.u64.wrap (64-(k:Int))=((if k≤64 then 64-k else 18446744073709551616+64-k:Nat):Int):=by rw[IntKind.wrap_u64];split<;>omega
 have e2:IntKind.u64.wrap ((k:Int)-64)=((if 64≤k then k-64 else 18446744073709551616+k-64:Nat):Int):=by rw[IntKind.wrap_u64];split<;>omega
 refine⟨k,_,_,h>>>k,l>>>k,h<<<(if k≤64 then 64-k else 18446744073709551616+64-k),_,h>>>(if 64≤k then k-64 else 18446744073709551616+k-64),_,?_,?_,e1,e2,sh h k,sh l k,sl h _,zKF _ _,sh h _,zKF _ _⟩
 ·rw[ON h l k _ _ (by split<;>omega) (by split<;>omega),mv,zL zLS];rfl
 ·rw[IntKind.wrap_u64];omega
theorem iH(h l:BitVec 64)(n:Int)(n0:n<0)(n1: -9223372036854775808≤n):∃(k k1 k2:Nat) (s1 s2 s3 s4 s5 s6:BitVec 64),s5++s6=mv (h++l) n∧IntKind.u64.wrap (wrap64 (-n))=(k:Int)∧
  IntKind.u64.wrap (64-(k:Int))=(k1:Int)∧IntKind.u64.wrap ((k:Int)-64)=(k2:Int)∧IntKind.u64.wrap ((h.toNat:Int)*2^min k 64)=(s1.toNat:Int)∧(l.toNat:Int)/2^min k1 64=(s2.toNat:Int)∧
  bits .or .u64 (s1.toNat:Int) (s2.toNat:Int)=(s3.toNat:Int)∧IntKind.u64.wrap ((l.toNat:Int)*2^min k2 64)=(s4.toNat:Int)∧bits .or .u64 (s3.toNat:Int) (s4.toNat:Int)=(s5.toNat:Int)∧IntKind.u64.wrap ((l.toNat:Int)*2^min k 64)=(s6.toNat:Int):=by
 obtain⟨k,hk⟩:∃k:Nat,-n=k:=⟨(-n).toNat,by omega⟩;have sh:∀(u:BitVec 64) (j:Nat),(u.toNat:Int)/2^min j 64=((u>>>j).toNat:Int):=fun u j=>zY7 u j;have sl:∀(u:BitVec 64) (j:Nat),IntKind.u64.wrap ((u.toNat:Int)*2^min j 64)=((u<<<j).toNat:Int):=fun u j=>by rw[IntKind.wrap_u64];exact U0 u j
 have e1:IntKind.u64.wrap (64-(k:Int))=((if k≤64 then 64-k else 18446744073709551616+64-k:Nat):Int):=by rw[IntKind.wrap_u64];split<;>omega
 have e2:IntKind.u64.wrap ((k:Int)-64)=((if 64≤k then k-64 else 18446744073709551616+k-64:Nat):Int):=by rw[IntKind.wrap_u64];split<;>omega
 refine⟨k,_,_,h<<<k,l>>>(if k≤64 then 64-k else 18446744073709551616+64-k),_,l<<<(if 64≤k then k-64 else 18446744073709551616+k-64),_,l<<<k,?_,?_,e1,e2,sl h k,sh l _,zKF _ _,sl l _,zKF _ _,sl l k⟩
 ·rw[zK9 h l k _ _ (by split<;>omega) (by split<;>omega),mv,zN n0,show(-n).toNat=k by omega]
 ·unfold wrap64;rw[IntKind.wrap_u64];omega
theorem FY(a:BitVec 128)(n:Int)(w:World)(n0: -9223372036854775808≤n)(hn:n<0):
  Calls Tryz.prog 207 #[rv a,.int .i64 n,.slice none 0 0] w fun e w'=>e=.returned (rv (mv a n))∧Below w.heap.size w w':=by
 obtain⟨h,l,rfl⟩:=xW a;obtain⟨k,k1,k2,s1,s2,s3,s4,s5,s6,e,hk,h1,h2,h3,h4,h5,h6,h7,h8⟩:=iH h l n hn n0;rw[←e,lP,lP];clear e;go_enter Tryz.func207,Tryz.ntmps207;go_wp2;go_rounds 1
 exact zM9
theorem FK(a:BitVec 128)(n:Int)(w:World)(n0:0≤n)(hn:n≤9223372036854775807):
  Calls Tryz.prog 207 #[rv a,.int .i64 n,.slice none 0 0] w fun e w'=>e=.returned (rv (mv a n))∧Below w.heap.size w w':=by
 obtain⟨h,l,rfl⟩:=xW a;obtain⟨k,k1,k2,s1,s2,s3,s4,s5,s6,e,hk,h1,h2,h3,h4,h5,h6,h7,h8⟩:=pT h l n n0 hn;rw[←e,lP,lP];clear e;go_enter Tryz.func207,Tryz.ntmps207;go_wp2;go_rounds 1
 exact zM9
theorem FM(a:BitVec 128)(n:Int)(w:World)(n0: -9223372036854775808≤n)(n1:n≤9223372036854775807):
  Calls Tryz.prog 207 #[rv a,.int .i64 n,.slice none 0 0] w fun e w'=>e=.returned (rv (mv a n))∧Below w.heap.size w w':=by
 by_cases h:n<0
 ·exact FY a n w n0 h
 ·exact FK a n w zLS n1
structure Box(b:Nat)(h l:BitVec 64)(w:World):Prop where
 lt:b<w.heap.size
 c0:w.cell? ⟨b,0,none⟩=some (.int .u64 (h.toNat:Int))
 c1:w.cell? ⟨b,1,none⟩=some (.int .u64 (l.toNat:Int))
 f0:w.frozen? ⟨b,0,none⟩=false
 f1:w.frozen? ⟨b,1,none⟩=false
section
variable {b:Nat} {h l h' l':BitVec 64} {w w':World}
theorem Box.below(H:Box b h l w){n:Nat}(hb:Below n w w')(hn:b<n):Box b h l w':=
 ⟨zF H.lt hb.size,(hb.cell (p:=⟨b,0,none⟩) hn).trans H.c0,(hb.cell (p:=⟨b,1,none⟩) hn).trans H.c1,(hb.frozen (p:=⟨b,0,none⟩) hn).trans H.f0,(hb.frozen (p:=⟨b,1,none⟩) hn).trans H.f1⟩
theorem Box.step(H:Box b h l w)(hb:Below w.heap.size w w'):Box b h l w':=H.below hb H.lt
theorem Box.new(w:World)(h l:BitVec 64)(t:TypeId):Box w.heap.size h l (w.alloc (.cells #[.int .u64 (h.toNat:Int),.int .u64 (l.toNat:Int)] t)):=
 ⟨by simp,by rw[World.cell?_alloc_at _ _ _ _ rfl];rfl,by rw[World.cell?_alloc_at _ _ _ _ rfl];rfl,World.frozen?_alloc_at _ _ _ _ rfl,World.frozen?_alloc_at _ _ _ _ rfl⟩
theorem Box.alloc(H:Box b h l w)(o:Obj):Box b h l (w.alloc o):=H.step ((zB _ _).alloc (zH _) _)
theorem Box.drew(H:Box b h l w):Box b h l w.drew:=H.step (zB _ _).drew
theorem Box.set(H:Box b h l w)(h' l':BitVec 64):Box b h' l' ((w.setCell ⟨b,0,none⟩ (.int .u64 (h'.toNat:Int))).setCell ⟨b,1,none⟩ (.int .u64 (l'.toNat:Int))):=by
 have e0:=World.cell?_setCell_same w (a:=⟨b,0,none⟩) (.int .u64 (h'.toNat:Int)) H.c0;have e1:(w.setCell ⟨b,0,none⟩ (.int .u64 (h'.toNat:Int))).cell? ⟨b,1,none⟩=_:=(qG w _ _ _ zLO).trans H.c1;refine⟨by simpa using H.lt,?_,World.cell?_setCell_same _ (a:=⟨b,1,none⟩) _ e1,?_,?_⟩
 ·rw[qG _ _ _ _ zLO];exact e0
 ·rw[World.frozen?_setCell,World.frozen?_setCell];exact H.f0
 ·rw[World.frozen?_setCell,World.frozen?_setCell];exact H.f1
theorem Box.other(H:Box b h l w){g:Nat}(hg:g≠b)(o:Nat)(v:Value):Box b h l (w.setCell ⟨g,o,none⟩ v):=
 ⟨by simpa using H.lt,by rw[qG _ _ _ _ (by simp[hg])];exact H.c0,by rw[qG _ _ _ _ (by simp[hg])];exact H.c1,by rw[World.frozen?_setCell];exact H.f0,by rw[World.frozen?_setCell];exact H.f1⟩
end
theorem nE(w:World)(o:Obj):Below w.heap.size w (w.alloc o):=(zB _ _).alloc (zH _) _
theorem FZ(a m:BitVec 128)(n:Int)(b:Nat)(w:World)(n0: -9223372036854775808≤n)(hn:n<0)(hb:b<w.heap.size)(c0:w.cell? ⟨b,0,none⟩=some (.int .u64 ((hi m).toNat:Int)))(c1:w.cell? ⟨b,1,none⟩=some (.int .u64 ((lo m).toNat:Int))):
  Calls Tryz.prog 207 #[rv a,.int .i64 n,.slice (some ⟨b,0,none⟩) 1 1] w fun e w'=>e=.returned (rv (mv a n&&&m))∧Below w.heap.size w w':=by
 obtain⟨h,l,rfl⟩:=xW a;obtain⟨h',l',rfl⟩:=xW m;rw[uQ]at c0;rw[y9]at c1;obtain⟨k,k1,k2,s1,s2,s3,s4,s5,s6,e,hk,h1,h2,h3,h4,h5,h6,h7,h8⟩:=iH h l n hn n0;rw[←e,lP,KU,lP];clear e;have O:=zW (sO s5 s6 h' l');generalize s5&&&h'=v1 at*;generalize s6&&&l'=v2 at*;go_enter Tryz.func207,Tryz.ntmps207;go_wp2;refine wp_loop_rounds 2 ?_;rw[rounds_succ];go_wp2_with fail;refine(O.out _).mono ?_;rintro e w1 ⟨rfl,b1⟩;have B:=zW (((((zB _ w).alloc (zH _) _).alloc zLO _).alloc zL2 _).trans (b1.mono zL2));have X:=(((Box.new w s5 s6 52).alloc (.cells #[.int .u64 0,.int .u64 0] 52)).alloc (.cells #[.int .u64 (h'.toNat:Int),.int .u64 (l'.toNat:Int)] 52)).step b1;have Y:=((Box.new (w.alloc (.cells #[.int .u64 (s5.toNat:Int),.int .u64 (s6.toNat:Int)] 52)) 0 0 52).alloc (.cells #[.int .u64 (h'.toNat:Int),.int .u64 (l'.toNat:Int)] 52)).step b1;exact zM0
theorem FQ(a m:BitVec 128)(n:Int)(b:Nat)(w:World)(n0:0≤n)(hn:n≤9223372036854775807)(hb:b<w.heap.size)(c0:w.cell? ⟨b,0,none⟩=some (.int .u64 ((hi m).toNat:Int)))(c1:w.cell? ⟨b,1,none⟩=some (.int .u64 ((lo m).toNat:Int))):
  Calls Tryz.prog 207 #[rv a,.int .i64 n,.slice (some ⟨b,0,none⟩) 1 1] w fun e w'=>e=.returned (rv (mv a n&&&m))∧Below w.heap.size w w':=by
 obtain⟨h,l,rfl⟩:=xW a;obtain⟨h',l',rfl⟩:=xW m;rw[uQ]at c0;rw[y9]at c1;obtain⟨k,k1,k2,s1,s2,s3,s4,s5,s6,e,hk,h1,h2,h3,h4,h5,h6,h7,h8⟩:=pT h l n n0 hn;rw[←e,lP,KU,lP];clear e;have O:=zW (sO s1 s6 h' l');generalize s1&&&h'=v1 at*;generalize s6&&&l'=v2 at*;go_enter Tryz.func207,Tryz.ntmps207;go_wp2;refine wp_loop_rounds 2 ?_;rw[rounds_succ];go_wp2_with fail;refine(O.out _).mono ?_;rintro e w1 ⟨rfl,b1⟩;have B:=zW (((((zB _ w).alloc (zH _) _).alloc zLO _).alloc zL2 _).trans (b1.mono zL2));have X:=(((Box.new w s1 s6 52).alloc (.cells #[.int .u64 0,.int .u64 0] 52)).alloc (.cells #[.int .u64 (h'.toNat:Int),.int .u64 (l'.toNat:Int)] 52)).step b1;have Y:=((Box.new (w.alloc (.cells #[.int .u64 (s1.toNat:Int),.int .u64 (s6.toNat:Int)] 52)) 0 0 52).alloc (.cells #[.int .u64 (h'.toNat:Int),.int .u64 (l'.toNat:Int)] 52)).step b1;exact zM0
theorem FJ(a m:BitVec 128)(n:Int)(b:Nat)(w:World)(n0: -9223372036854775808≤n)(n1:n≤9223372036854775807)(hb:b<w.heap.size)(c0:w.cell? ⟨b,0,none⟩=some (.int .u64 ((hi m).toNat:Int)))(c1:w.cell? ⟨b,1,none⟩=some (.int .u64 ((lo m).toNat:Int))):
  Calls Tryz.prog 207 #[rv a,.int .i64 n,.slice (some ⟨b,0,none⟩) 1 1] w fun e w'=>e=.returned (rv (mv a n&&&m))∧Below w.heap.size w w':=by
 by_cases h:n<0
 ·exact FZ a m n b w n0 h hb c0 c1
 ·exact FQ a m n b w zLS n1 hb c0 c1
end
end Go.Proofs.YthknmadinmigfaaGreatDoor
