/- Texts merged and made short: Rec, OpenCl, PlnF, PlnG, PlnH, PlnI, PlnJ, PlnK, CellK, CellC. -/
import Derived.Test.YtmgfkpnghlmheaaGreatBun1
import Derived.Test.YtmgfkpnghlmheaaGreatBun11
import Derived.Test.YtmgfkpnghlmheaaGreatBun13
import Derived.Test.YtmgfkpnghlmheaaGreatBun2
import Derived.Test.YtmgfkpnghlmheaaGreatBun4
import Derived.Test.YtmgfkpnghlmheaaGreatBun5
import Derived.Test.YtmgfkpnghlmheaaGreatBun8
import Derived.Test.YtmgfkpnghlmheaaGreatBun9
set_option maxHeartbeats 4000000
namespace Go.Hm
open Go Go.RowKit Go.WideShapes Go.ChangeShapes Go.Deep
section
variable{H:Type}{enc:TypeId × Value→H}{P:Program}{W:World}{t e:TypeId}{cs:List Value}{n:Nat}
def zdd(P:Program)(t:TypeId):Array Field:=match P.underlying t with|some (.struct fs)=>fs|_=> #[]
theorem Held.part(h:Held enc P W t cs)(hs:P.underlying t=some (.struct (zdd P t)))(i off n:Nat){ft:TypeId}(hf:((zdd P t)[i]?.map fun f=>(f.type,f.offset))=some (ft,off))(hn:P.cellsOf ft=n):Held enc P W ft ((cs.drop off).take n):=by
 obtain⟨_,hall⟩:=h.field hs
 cases hfi:(zdd P t)[i]? with
 |none=>rw[hfi] at hf;cases hf
 |some f=>
  rw[hfi] at hf;simp only[Option.map_some,Option.some.injEq,Prod.mk.injEq] at hf;obtain⟨h1,h2⟩:=hf;have:=hall i f hfi;rw[h1,h2,hn] at this;exact this
theorem Held.partLen(h:Held enc P W t cs)(hs:P.underlying t=some (.struct (zdd P t)))(hn:P.cellsOf t=n):cs.length=n:=(h.field hs).1.trans hn
theorem z4j(l:List Int):recs (fun n:Int=>[.int .i64 n]) l=zep .i64 l:=by
 induction l with
 |nil=>rfl
 |cons x l ih=>rw[zgz,ih];rfl
theorem Held.ints_{te:TypeId}(ht:P.underlying t=some (.slice te))(hC:P.cellsOf te=1)(hby:P.bytesOf te=8)(hi:P.underlying te=some (.int .i64))(h:Held enc P W t cs):
 ∃A c,∃l:List Int,cs=[.slice A l.length c]∧l.length≤c∧c*8≤140737488351232∧Reads W W.heap.size 1 A l.length (zep .i64 l)∧∀x∈l,-9223372036854775808≤x∧x≤9223372036854775807:=by
 obtain⟨A,c,l,h1,h2,_,h4,h5,h6⟩:=h.recs (f:=fun n:Int=>[.int .i64 n]) (sz:=1) (by_:=8) (Q:=fun x=> -9223372036854775808≤x∧x≤9223372036854775807) 0 ht hC hby (fun _=>rfl) (by omega) (fun cs hh=>by
  obtain⟨n,e1,e2,e3⟩:=hh.i64 hi
  exact⟨n,e1,e2,e3⟩)
 exact⟨A,c,l,h1,h2,by unfold reachBytes at h4;omega,by rw[←z4j];exact h5,h6⟩
theorem qe1{α:Type}{l:List α}(h:l.length=3):∃a b c,l=[a,b,c]:=by
 match l,h with
 | [a,b,c],_=>exact⟨a,b,c,rfl⟩
end
end Go.Hm
set_option maxRecDepth 100000
namespace Go.Hm
open Go Go.RowKit
abbrev zdo:=Option Addr × Nat × List zab
def zf4(d:zdo):List Value:=[.slice d.1 d.2.2.length d.2.1]
theorem qii{α:Type}{l:List α}(h:l.length=5):∃a b c d e,l=[a,b,c,d,e]:=by
 match l,h with
 | [a,b,c,d,e],_=>exact⟨a,b,c,d,e,rfl⟩
def CellFine(c:zab):Prop:=(c.2.2.1.length≤140737488351232∧∀z∈c.2.2.1,z<256)∧(-9223372036854775808≤c.2.1∧c.2.1≤9223372036854775807)∧(-9223372036854775808≤c.2.2.2.1∧c.2.2.2.1≤9223372036854775807)∧(-9223372036854775808≤c.2.2.2.2∧c.2.2.2.2≤9223372036854775807)
end Go.Hm
namespace Go.Proofs.YtmgfkpnghlmheaaGreat
open Go.RowKit Go.Hm Go.WideShapes Go.ChangeShapes
section
variable{H:Type}{enc:TypeId × Value→H}{W:World}{base:Nat}{v:Value}{d:DataW H}{ps:List MemPlace}
theorem z4p{cs:List Value}(h:Held enc Tryz.prog W 61 cs):∃c:zab,cs=zak c∧CellFine c:=by
 have ht:Tryz.prog.underlying 61=some (.struct (zdd Tryz.prog 61)):=by kernel_rfl
 have ht2:Tryz.prog.underlying 59=some (.struct (zdd Tryz.prog 59)):=by kernel_rfl
 obtain⟨x0,x1,x2,x3,x4,rfl⟩:=qii (h.partLen ht (n:=5) (by kernel_rfl));have p0:=h.part ht 0 0 1 (ft:=4) (by kernel_rfl) (by kernel_rfl);have p1:=h.part ht 1 1 1 (ft:=3) (by kernel_rfl) (by kernel_rfl);have p2:=h.part ht 2 2 1 (ft:=9) (by kernel_rfl) (by kernel_rfl);have p3:=h.part ht 3 3 2 (ft:=59) (by kernel_rfl) (by kernel_rfl);have q0:=p3.part ht2 0 0 1 (ft:=3) (by kernel_rfl) (by kernel_rfl);have q1:=p3.part ht2 1 1 1 (ft:=3) (by kernel_rfl) (by kernel_rfl);obtain⟨b,e0⟩:=p0.bool (by kernel_rfl);obtain⟨n,e1,n1,n2⟩:=p1.i64 (by kernel_rfl);obtain⟨s,e2,s1,s2⟩:=p2.string (by kernel_rfl);obtain⟨x,e3,g1,g2⟩:=q0.i64 (by kernel_rfl);obtain⟨y,e4,g3,g4⟩:=q1.i64 (by kernel_rfl);simp only[List.drop_succ_cons,List.drop_zero,List.take_succ_cons,List.take_zero,List.cons.injEq,and_true] at e0 e1 e2 e3 e4;subst e0 e1 e2 e3 e4;exact⟨(b,n,s,x,y),rfl,⟨s2,s1⟩,⟨n1,n2⟩,⟨g1,g2⟩,g3,g4⟩
theorem z1b{cs:List Value}(h:Held enc Tryz.prog W 71 cs):∃x:zdo,cs=zf4 x∧(Reads W W.heap.size 5 x.1 x.2.2.length (recs zak x.2.2)∧(∀y∈x.2.2,CellFine y)∧x.2.2.length≤x.2.1∧x.2.1≤9223372036854775807∧(x.1=none→x.2.1=0)):=by
 have ht:Tryz.prog.underlying 71=some (.slice 61):=by kernel_rfl
 obtain⟨A,c,l,h1,h2,_,h4,h5,h6⟩:=h.recs (f:=zak) (sz:=5) (by_:=48) (Q:=CellFine) (false,0,[],0,0) ht (by kernel_rfl) (by kernel_rfl) (fun _=>rfl) (by omega) (fun cs hh=>z4p hh);subst h1;refine⟨(A,c,l),rfl,h5,h6,h2,(show c≤9223372036854775807 by unfold reachBytes at h4;omega),?_⟩;rcases h.slice ht with e|⟨a,len,cap,e,_⟩
 ·simp only[List.cons.injEq,Value.slice.injEq,and_true] at e
  exact fun _=>e.2.2
 ·simp only[List.cons.injEq,Value.slice.injEq,and_true] at e
  intro hh;rw[e.1] at hh;cases hh
end
end Go.Proofs.YtmgfkpnghlmheaaGreat
namespace Go.Hm
open Go Go.RowKit
def zy1:St→Nat × St
 |some l=>if 8≤l.length then(num (l.take 8),some (l.drop 8)) else(0,none)
 |none=>(0,none)
def qan(n:Nat):Int:=if n<9223372036854775808 then(n:Int) else(n:Int)-18446744073709551616
def rdC(t:Int)(S:St):zab × St:=
 if t=0 then((false,qan (zy1 S).1,[],0,0),(zy1 S).2)
 else if t=3 then((false,0,[],zag (zh3 S).1,zag (zh3 (zh3 S).2).1),(zh3 (zh3 S).2).2)
 else((false,0,(zbv ((lenS 65536 S).1:Int) (lenS 65536 S).2).1,0,0),(zbv ((lenS 65536 S).1:Int) (lenS 65536 S).2).2)
def rdL(t:Int):Nat→St→List zab × St
 |0,S=>([],S)
 |_+1,none=>([],none)
 |k+1,some l=>((rdC t (some l)).1::(rdL t k (rdC t (some l)).2).1,(rdL t k (rdC t (some l)).2).2)
theorem z4s{n:Int}(h: -9223372036854775808≤n∧n≤9223372036854775807):qan (u64N n)=n:=by
 unfold qan u64N;split<;> omega
theorem z4t{n:Nat}(h:n<18446744073709551616):u64N (qan n)=n:=by
 unfold qan u64N;split<;> omega
theorem qg4{t:Int}{c:zab}(hr:zac c t false=true)(ht:t≠1)(hi: -9223372036854775808≤c.2.1∧c.2.1≤9223372036854775807)(r:List Nat):rdC t (some (plE t c++r))=(c,some r):=by
 have h0:=zgc hr;obtain⟨y0,y1,y2,y3,y4⟩:=c;dsimp only at h0 hi;subst h0;rcases zm5 hr with rfl|rfl|rfl|rfl
 ·have e:y2=[]∧y3=0∧y4=0:=by simpa[zac] using hr
  obtain⟨rfl,rfl,rfl⟩:=e;have hl:=zbh (u64N y1) 8
  have e1:plE 0 (false,y1,[],0,0)=low (u64N y1) 8:=by unfold plE;rw[if_pos rfl]
  have e2:zy1 (some (low (u64N y1) 8++r))=(u64N y1,some r):=by
   unfold zy1;dsimp only;rw[if_pos (by rw[List.length_append];omega),List.take_left' hl,List.drop_left' hl,zj7 (by have:=zww y1;omega)]
  unfold rdC;rw[if_pos rfl,e1,e2];dsimp only;rw[z4s hi]
 ·exact absurd rfl ht
 ·have e:(y1=0∧y3=0∧y4=0)∧y2.length≤65536:=by simpa[zac] using hr
  obtain⟨⟨rfl,rfl,rfl⟩,hl⟩:=e
  have e1:plE 2 (false,0,y2,0,0)=vp y2.length++y2:=by unfold plE;rw[if_neg (by decide),if_pos rfl]
  unfold rdC;rw[if_neg (by decide),if_neg (by decide),e1,List.append_assoc,zb2 _ _ (by omega) (by omega)];dsimp only;rw[zdf]
 ·have h3:=zl9 hr
  have e:y1=0∧y2=[]:=by
   have:=zwy hr;have h:=hr;unfold zac at h;simp at h;exact⟨h.1.1,this⟩
  obtain⟨rfl,rfl⟩:=e;dsimp only at h3
  have e1:plE 3 (false,0,[],y3,y4)=vp (zig y3)++vp (zig y4):=by unfold plE;rw[if_neg (by decide),if_neg (by decide),if_pos rfl]
  unfold rdC;rw[if_neg (by decide),if_pos rfl,e1,List.append_assoc,ziz _ _ (by unfold zig;split<;> omega)];dsimp only;rw[ziz _ _ (by unfold zig;split<;> omega)];dsimp only;rw[znu,znu]
theorem z4u{t:Int}(ht:t≠1):∀(l:List zab) (r:List Nat),(∀c∈l,zac c t false=true)→(∀c∈l,-9223372036854775808≤c.2.1∧c.2.1≤9223372036854775807)→rdL t l.length (some (l.flatMap (plE t)++r))=(l,some r)
 | [],r,_,_=>rfl
 |c::l,r,h,k=>by
  have ih:=z4u ht l r (fun d hd=>h d (by simp[hd])) (fun d hd=>k d (by simp[hd]));rw[List.flatMap_cons,List.append_assoc,List.length_cons,rdL,qg4 (h c (by simp)) ht (k c (by simp))];dsimp only;rw[ih]
theorem qe8{t:Int}{S:St}{c:zab}{r:List Nat}(hS:S.ok)(ht:t=0∨t=2∨t=3)(h:rdC t S=(c,some r)):S=some (plE t c++r):=by
 rcases ht with rfl|rfl|rfl
 ·unfold rdC at h
  rw[if_pos rfl] at h;injection h with h1 h2
  cases S with
  |none=>simp[zy1] at h2
  |some l=>
   unfold zy1 at h1 h2;dsimp only at h1 h2;by_cases h8:8≤l.length
   ·rw[if_pos h8] at h1 h2
    injection h2 with h2;have hb:=hS l rfl
    have ht8:(l.take 8).length=8:=by rw[List.length_take];omega
    have hb8:∀x∈l.take 8,x<256:=fun x hx=>hb x (List.mem_of_mem_take hx)
    have hn:=zqb (l.take 8) hb8;rw[ht8] at hn;have hl:=zr1 (l.take 8) hb8;rw[ht8] at hl;rw[←h1,←h2];unfold plE;rw[if_pos rfl];dsimp only;rw[z4t (by omega),hl,List.take_append_drop]
   ·rw[if_neg h8] at h2
    cases h2
 ·unfold rdC at h
  rw[if_neg (by decide),if_neg (by decide)] at h;injection h with h1 h2;rcases zbo 65536 S hS with e|⟨N,q,rfl,hN,-,e⟩
  ·rw[e] at h2
   simp[zbv] at h2
  ·rw[e] at h1 h2
   dsimp only at h1 h2;rcases zb9 (N:Int) (some q) with e2|⟨l,e3,-,hl,e2⟩
   ·rw[e2] at h2
    cases h2
   ·injection e3 with e3
    subst e3;rw[e2] at h1 h2;injection h2 with h2;rw[←h1,←h2];unfold plE;rw[if_neg (by decide),if_pos rfl];dsimp only;rw[Int.toNat_natCast,List.length_take,Nat.min_eq_left (by omega),List.append_assoc,List.take_append_drop]
 ·unfold rdC at h
  rw[if_neg (by decide),if_pos rfl] at h;injection h with h1 h2;rcases zgv S hS with e|⟨N,q,rfl,hN,e⟩
  ·rw[e] at h2
   simp[zh3] at h2
  ·rw[e] at h1 h2
   dsimp only at h1 h2
   have hq:St.ok (some q):=by have:=zr3 hS;rwa[e] at this
   rcases zgv (some q) hq with e2|⟨N2,q2,e3,hN2,e2⟩
   ·rw[e2] at h2
    cases h2
   ·injection e3 with e3
    subst e3;rw[e2] at h1 h2;injection h2 with h2;rw[←h1,←h2];unfold plE;rw[if_neg (by decide),if_neg (by decide),if_pos rfl];dsimp only;rw[zwo,zwo,List.append_assoc]
theorem qg5{t:Int}{S:St}(hS:S.ok):(rdC t S).2.ok:=by
 unfold rdC;split
 ·cases S with
  |none=>exact St.ok_none
  |some l=>
   unfold zy1;dsimp only;split
   ·exact St.ok_some fun x hx=>hS l rfl x (List.mem_of_mem_drop hx)
   ·exact St.ok_none
 ·split
  ·exact zr3 (zr3 hS)
  ·exact(zcr (za5 hS)).1
theorem zy2{t:Int}(ht:t=0∨t=2∨t=3):∀(n:Nat) (S:St) (l:List zab) (r:List Nat),S.ok→rdL t n S=(l,some r)→S=some (l.flatMap (plE t)++r)∧l.length=n
 |0,S,l,r,_,h=>by
  unfold rdL at h;injection h with h1 h2;subst h1;exact⟨by simpa using h2,rfl⟩
 |n+1,none,l,r,_,h=>by
  unfold rdL at h;injection h with _ h2;cases h2
 |n+1,some s,l,r,hS,h=>by
  unfold rdL at h;injection h with h1 h2;have ho:=qg5 (t:=t) hS
  match hq:rdC t (some s) with
  |(c,none)=>
   rw[hq] at h2
   cases n with
   |zero=>unfold rdL at h2;cases h2
   |succ n=>unfold rdL at h2;cases h2
  |(c,some q)=>
   rw[hq] at h1 h2 ho;obtain⟨e1,e2⟩:=zy2 ht n (some q) (rdL t n (some q)).1 r ho (by rw[←h2]);have e3:=qe8 hS ht hq;subst h1;refine⟨?_,by rw[List.length_cons,e2]⟩;injection e1 with e1;rw[e3,List.flatMap_cons,List.append_assoc,←e1]
end Go.Hm
namespace Go.Proofs.YtmgfkpnghlmheaaGreat
open Go.RowKit Go.Hm
theorem qao{w:World}{g:Nat}{S:St}(h:CurS w g S):Calls Tryz.prog 221 #[.pointer (some ⟨g,0,none⟩)] w (z4y (.returned (.int .u64 ((zy1 S).1:Int))) g (zy1 S).2 w):=by
 cases S with
 |none=>exact z3x h (.inl rfl)
 |some l=>
  unfold zy1;dsimp only;split
  ·exact z9t h ‹_›
  ·exact z3x h (.inr (by simp;omega))
theorem z4z{n:Nat}(h:n<18446744073709551616):IntKind.i64.wrap (n:Int)=qan n:=by
 unfold qan;by_cases hn:n<9223372036854775808
 ·rw[if_pos hn]
  exact IntWalk.i64_in _ (by omega)
 ·rw[if_neg hn]
  rw[IntKind.wrap_i64];omega
theorem z40{S:St}(hS:S.ok):(zy1 S).1<18446744073709551616:=by
 cases S with
 |none=>simp[zy1]
 |some l=>
  unfold zy1;dsimp only;split
  ·have:=zqb (l.take 8) (fun x hx=>hS l rfl x (List.mem_of_mem_take hx))
   have h2:(l.take 8).length=8:=by rw[List.length_take];omega
   rw[h2] at this;omega
  ·simp
def qg7(c:zab)(g:Nat)(S:St)(w:World)(e:Ending)(w':World):Prop:=e= .returned (zcz c)∧CurS w' g S∧w.grownBy w' (some g)
set_option maxRecDepth 100000 in
theorem qap{w:World}{g:Nat}{S:St}{t:Int}(h:CurS w g S)(ht:t=0∨t=2∨t=3):
 Calls Tryz.prog 204 #[.pointer (some ⟨g,0,none⟩),.int .i64 t] w (qg7 (rdC t S).1 g (rdC t S).2 w):=by
 have hlt:=h.lt;have ha:New w (w.alloc (.cells (zak zay).toArray 61)):=(Below.refl _ _).alloc (Nat.le_refl _) _;have h0:=h.below ha;have BZ:Blk (w.alloc (.cells (zak zay).toArray 61)) w.heap.size 61 (zak zay).toArray:=Blk.new _ _ _;have G0:w.grownBy (w.alloc (.cells (zak zay).toArray 61)) (some g):=Far.of_new ha;obtain⟨X,hX⟩:∃X,X=rdC t S:=⟨_,rfl⟩;rw[←hX];unfold rdC at hX;rcases ht with rfl|rfl|rfl
 ·rw[if_pos rfl] at hX
  have C1:=Hz (qao h0);have hw:=z4z (z40 h.ok);generalize zy1 S=Q at*;obtain⟨a,S1⟩:=Q;dsimp only at*;generalize qan a=z at*;have HX:=Hz hX;clear hX h h0 ha
  go_enter Tryz.func204,Tryz.ntmps204
  go_wp2_with fail
  refine C1.out.mono ?_;rintro e w1 ⟨rfl,s1,g1⟩;have hz1:=g1.size;simp only[World.size_alloc] at hz1;have BZ1:=BZ.grown g1 (by intro e;injection e with e;omega);have G1:=G0.trans g1
  go_wp2_with (refine zah rfl 61 (.tmp 4) (.tmp 13) rfl w.heap.size _ rfl rfl BZ1 (by kernel_rfl) (by simp[zak]) (by simp[Value.oneCell']) ?_
               intro W5 BR G5
               obtain⟨s0,s1',s2,s3,s4⟩:=zcm BR)
  have hX:=HX.out;subst hX;exact bodyPost_ret (v:=zcz (false,z,[],0,0)) (by simp[results,Tryz.results204,go_sem,s0,s1',s2,s3,s4,zcz,zak,show zae []=⟨#[]⟩ from rfl]) rfl ⟨rfl,s1.keep G5 BZ1 (by omega) (by decide),za8 G1 G5 (Nat.le_refl _)⟩
 ·rw[if_neg (by decide),if_neg (by decide)] at hX
  have C1:=Hz (zb8 (m:=65536) h0 (by omega) (by omega));have hle:=zb0 (m:=65536) S (by omega) h.ok;generalize lenS 65536 S=Q at*;obtain⟨a,S1⟩:=Q;dsimp only at*;obtain⟨Q2,hQ2⟩:∃Q,Q=zbv (a:Int) S1:=⟨_,rfl⟩;rw[←hQ2] at hX;have HQ2:=Hz hQ2;have HX:=Hz hX;clear hX h h0 ha hQ2
  go_enter Tryz.func204,Tryz.ntmps204
  go_wp2_with fail
  refine C1.out.mono ?_;rintro e w1 ⟨rfl,s1,g1⟩;have hz1:=g1.size;simp only[World.size_alloc] at hz1;have BZ1:=BZ.grown g1 (by intro e;injection e with e;omega);have G1:=G0.trans g1;have C2:=zc6 (n:=(a:Int)) s1 (by omega) (by omega);rw[←HQ2.out] at C2;have C2:=Hz C2;clear C1 BZ G0 g1 s1
  go_wp2_with fail
  refine C2.out.mono ?_;rintro e w2 ⟨A2,n2,c2,rfl,e2,k2,s2,g2⟩;have hz2:=g2.size;have BZ2:=BZ1.grown g2 (by intro e;injection e with e;omega);have G2:=G1.trans g2;have q2:=zf5 (c:=c2) k2.reads;obtain⟨x2,S2⟩:=Q2;dsimp only at e2 k2 s2 q2;subst e2;clear C2 BZ1 G1 g2 HQ2
  go_wp2_with (refine zah rfl 61 (.tmp 4) (.tmp 31) rfl w.heap.size _ rfl rfl BZ2 (by kernel_rfl) (by simp[zak]) (by simp[Value.oneCell']) ?_
               intro W5 BR G5
               obtain⟨s0,s1',s2',s3,s4⟩:=zcm BR)
  have hX:=HX.out;subst hX;exact bodyPost_ret (v:=zcz (false,0,x2,0,0)) (by simp[results,Tryz.results204,go_sem,s0,s1',s2',s3,s4,zcz,zak]) rfl ⟨rfl,s2.keep G5 BZ2 (by omega) (by decide),za8 G2 G5 (Nat.le_refl _)⟩
 ·rw[if_neg (by decide),if_pos rfl] at hX
  have C1:=Hz (zkj h0);have hlt1:=zjp h.ok;have hok1:=zr3 h.ok;generalize zh3 S=Q at*;obtain⟨a,S1⟩:=Q;dsimp only at*;have hlt2:=zjp hok1;obtain⟨Q2,hQ2⟩:∃Q,Q=zh3 S1:=⟨_,rfl⟩;rw[←hQ2] at hX hlt2;have HQ2:=Hz hQ2;have Z1:=Hz (fun(W:World)=>znw a W hlt1);have Z2:=Hz (fun(W:World)=>znw Q2.1 W hlt2);have HX:=Hz hX;clear hX h h0 ha hQ2
  go_enter Tryz.func204,Tryz.ntmps204
  go_wp2_with fail
  refine C1.out.mono ?_;rintro e w1 ⟨rfl,s1,g1⟩;have hz1:=g1.size;simp only[World.size_alloc] at hz1;have BZ1:=BZ.grown g1 (by intro e;injection e with e;omega);have G1:=G0.trans g1;have C2:=zkj s1;rw[←HQ2.out] at C2;have C2:=Hz C2;clear C1 BZ G0 g1 s1
  go_wp2_with fail
  refine(Z1.out _).mono ?_;rintro e w2 ⟨rfl,rfl⟩
  go_wp2_with fail
  refine C2.out.mono ?_;rintro e w2 ⟨rfl,s2,g2⟩;have hz2:=g2.size;have BZ2:=BZ1.grown g2 (by intro e;injection e with e;omega);have G2:=G1.trans g2;clear C2 BZ1 G1 g2 HQ2
  go_wp2_with fail
  refine(Z2.out _).mono ?_;rintro e w3 ⟨rfl,rfl⟩
  go_wp2_with (refine zah rfl 61 (.tmp 4) (.tmp 25) rfl w.heap.size _ rfl rfl BZ2 (by kernel_rfl) (by simp[zak]) (by simp[Value.oneCell']) ?_
               intro W5 BR G5
               obtain⟨s0,s1',s2',s3,s4⟩:=zcm BR)
  have hX:=HX.out;subst hX;exact bodyPost_ret (v:=zcz (false,0,[],zag a,zag Q2.1)) (by simp[results,Tryz.results204,go_sem,s0,s1',s2',s3,s4,zcz,zak,show zae []=⟨#[]⟩ from rfl]) rfl ⟨rfl,s2.keep G5 BZ2 (by omega) (by decide),za8 G2 G5 (Nat.le_refl _)⟩
end Go.Proofs.YtmgfkpnghlmheaaGreat
namespace Go.Hm
open Go Go.RowKit
structure IsPl(Q:zab→Prop)(t:Int)(b:List Nat)(n:Int)(o:Option (List zab)):Prop where
 sound:∀l,o=some l→(l.length:Int)=n∧plO t l=some b∧∀c∈l,Q c
 compl:∀l,(∀c∈l,Q c)→(l.length:Int)=n→plO t l=some b→o=some l
theorem qfe{w:World}{base sz n:Nat}{e:TypeId}{v:Value}{xs:List Value}{g:Nat}(h:w.ownsRow base e sz v n xs)(hv:v.ownBlock=some g):∃cs,Blk w g e cs:=by
 rcases h.2 with⟨rfl,_⟩|⟨g',cap,cur,rfl,_,hh,_⟩
 ·simp[Value.ownBlock] at hv
 ·have:g'=g:=by simpa[Value.ownBlock] using hv
  subst this;exact⟨_,hh⟩
theorem plO_iff{t:Int}{l:List zab}{b:List Nat}:plO t l=some b↔zhs t l=true∧plB t l=b:=by
 unfold plO;by_cases h:zhs t l=true
 ·rw[if_pos h]
  simp[h]
 ·rw[if_neg h]
  simp[h]
theorem zy5{t:Int}(ht:t=0∨t=2∨t=3)(l:List zab):plB t l=l.flatMap (plE t):=by
 unfold plB;rw[if_neg (by omega)]
end Go.Hm
namespace Go.Proofs.YtmgfkpnghlmheaaGreat
open Go.RowKit Go.Hm
theorem CurS.pushRow{w w':World}{g base sz n:Nat}{S:St}{e:TypeId}{v:Value}{xs:List Value}(h:CurS w g S)(o:w.ownsRow base e sz v n xs)(hg:w.grownBy w' v.ownBlock)(he1:e≠154)(he2:5≠e):CurS w' g S:=by
 cases hv:v.ownBlock with
 |none=>
  rw[hv] at hg;exact h.below ((Turns.of_none (T:=[]) hg).new (by simp))
 |some g'=>
  obtain⟨cs,hB⟩:=qfe o hv;rw[hv] at hg;obtain⟨cs2,hC⟩:=h.blk;exact h.keep hg hB (fun e'=>by subst e';exact Blk.ne_ hB hC he1 rfl) he2
theorem qff:ElT Tryz.prog 71 61 (.agg #[.bool false,.int .i64 0,.string ⟨#[]⟩,.int .i64 0,.int .i64 0]) 5 48:=⟨by kernel_rfl,by kernel_rfl,rfl,by omega⟩
def OptC(o:Option (List zab))(w:World)(e:Ending)(w':World):Prop:=
 match o with
 |none=>e= .returned (.tuple #[.slice none 0 0,.bool false])∧New w w'
 |some l=>∃A n c,e= .returned (.tuple #[.slice A n c,.bool true])∧w'.ownsRow w.heap.size 61 5 (.slice A n c) n (recs zak l)∧New w w'
def qiy(t:Int)(b:List Nat)(n:Int)(w:World)(e:Ending)(w':World):Prop:=∃o,IsPl zai t b n o∧OptC o w e w'
theorem z41{t:Int}{s:List Nat}(hs:St.ok (some s)):zai (rdC t (some s)).1:=by
 unfold rdC zai;split
 ·have h:=z40 hs
  dsimp only;refine⟨⟨by simp,by simp⟩,?_⟩;unfold qan;split<;> omega
 ·split
  ·dsimp only
   exact⟨⟨by simp,by simp⟩,by omega⟩
  ·dsimp only
   have h1:=zb0 (m:=65536) (some s) (by omega) hs;have h2:=zej (n:=((lenS 65536 (some s)).1:Int)) (S:=(lenS 65536 (some s)).2) (by omega);exact⟨⟨by omega,(zcr (za5 hs)).2⟩,by omega⟩
theorem qaq(t:Int)(j:Nat):rdL t j none=([],none):=by cases j<;> rfl
theorem zy6{t:Int}{b:List Nat}{n:Nat}{out:List zab}{S:St}(ht:t=0∨t=2∨t=3)(hn:n≤65536)(h8:St.ok (some b))(hfin:rdL t n (some b)=(out,S))(hda:∀c∈out,zai c):
 IsPl zai t b (n:Int) (if S=some []∧(out.all fun c=>zac c t false)=true then some out else none):=by
 constructor
 ·intro l hl
  split at hl
  ·rename_i hc
   injection hl with hl;subst hl;obtain⟨rfl,hR⟩:=hc;obtain⟨e,hlen⟩:=zy2 ht n (some b) out [] h8 hfin;injection e with e;rw[List.append_nil] at e;refine⟨by omega,plO_iff.2 ⟨plOk_iff.2 ⟨by omega,List.all_eq_true.1 hR⟩,?_⟩,hda⟩;rw[zy5 ht,e]
  ·cases hl
 ·intro l hd hlen hp
  obtain⟨hok,hb⟩:=plO_iff.1 hp;rw[zy5 ht] at hb;have hr:=(plOk_iff.1 hok).2;have:=z4u (t:=t) (by omega) l [] hr (fun c hc=>(hd c hc).2);rw[List.append_nil,hb,show l.length=n by omega,hfin] at this;injection this with e1 e2;subst e1 e2;rw[if_pos ⟨rfl,List.all_eq_true.2 hr⟩]
set_option maxRecDepth 100000 in
theorem zw1{w:World}{A:Option Addr}{c m:Nat}{b:List Nat}{t:Int}{n:Nat}(h:Reads w w.heap.size 1 A m (za3 .u8 b))(h8:∀x∈b,x<256)(hm:m≤140737488351232)(ht:t=0∨t=2∨t=3)(hn:n≤65536):
 Calls Tryz.prog 181 #[.int .i64 t,.slice A m c,.int .i64 (n:Int)] w (qiy t b (n:Int) w):=by
 obtain rfl:m=b.length:=h.len;have KN:=zkg (w:=w) (t:=t) (n:=(n:Int));rw[decide_eq_true (show 0≤t∧t≤3∧0≤(n:Int)∧(n:Int)≤65536 by omega)] at KN;have KN:=Hz KN;have OV:=Hz (zfb (c:=c) h (by omega) h8);have t1:(t==1)=false:=beq_eq_false_iff_ne.2 (by omega);have H8:=Hz h8;have HT:=Hz ht;clear h h8
 go_enter Tryz.func181,Tryz.ntmps181
 go_wp2_with fail
 refine KN.out.mono ?_;rintro e w1 ⟨rfl,rfl⟩
 go_wp2_with fail
 refine OV.out.mono ?_;rintro e w1 ⟨g,rfl,hg,hc,b1⟩;have s1:=CurS.of hc;clear hc KN OV t1
 go_wp2_with fail
 go_loopw [9,10] (fun v i wr=>∃(k:Nat) (out:List zab) (S:St) (AA:Option Addr) (cc:Nat),k≤n∧out.length=k∧i= .int .i64 (k:Int)∧v= .slice AA k cc∧wr.ownsRow w.heap.size 61 5 (.slice AA k cc) k (recs zak out)∧CurS wr g S∧Below w.heap.size w wr∧Hid (rdL t n (some b)=(out++(rdL t (n-k) S).1,(rdL t (n-k) S).2))∧Hid (∀c∈out,zai c)) (fun _ i _=>n-(intOf i).toNat)
 case atStart=>exact⟨0,[],some b,none,0,Nat.zero_le _,rfl,rfl,rfl,by simpa[recs] using zcp,s1,b1,Hz (by simp),Hz (by simp)⟩
 case round=>
  obtain⟨k,out,S,AA,cc,hk,hol,rfl,rfl,o,hs,hbl,hrd,hda⟩:=hrel;have hz:=hbl.size;have hb8:St.ok (some b):=St.ok_some H8.out;by_cases hgo:k<n∧S≠none
  ·obtain⟨hlt,hSn⟩:=hgo
   obtain⟨s,rfl⟩:=Option.ne_none_iff_exists'.1 hSn;have hok:=hs.ok;have BD:=Hz (zy4 hs);rw[Option.isNone_some] at BD;have RD:=Hz (qap hs HT.out);have hdat:=z41 (t:=t) hok;have hst:=hrd.out;rw[show n-k=(n-(k+1))+1 by omega,rdL] at hst;dsimp only at hst;obtain⟨cs,hT⟩:=hs.blk;have o':=o;generalize rdC t (some s)=R at*;obtain⟨⟨y0,y1,y2,y3,y4⟩,S2⟩:=R;dsimp only at*;have HST:=Hz hst;have HDT:=Hz hdat;have HOL:=Hz hol
   have hlt':(k:Int)<(n:Int):=by omega
   clear hst hdat hrd hSn hs hok hol
   go_wp2_with fail
   refine BD.out.mono ?_;rintro e w2 ⟨rfl,rfl⟩
   go_wp2_with fail
   refine RD.out.mono ?_;rintro e w3 ⟨rfl,s3,g3⟩;rw[show zcz (y0,y1,y2,y3,y4)= .agg #[.bool y0,.int .i64 y1,.string (zae y2),.int .i64 y3,.int .i64 y4] from rfl];have o3:=World.ownsRow.kept o' g3 (.inr (zal o' hT (by decide)));have b3:Below w.heap.size w w3:=hbl.grown g3 hz (fun k e=>by injection e with e;omega);have hz3:=b3.size;have S3:=Hz s3;clear BD RD o o' g3 hbl s3 hT
   go_wp2_with (refine zda qff rfl (.tmp 34) (.tmp 38) rfl (W:=w) (B:=w.heap.size) (base:=w.heap.size) (n:=k) o3 rfl rfl b3 (Nat.le_refl _) hz3 rfl (by simp[Value.oneCell']) (by omega) (by simp only[maxLen];omega) ?_
                intro A5 c5 w5 _ _ o5 g5 b5 _ _)
   have s5:=S3.out.pushRow o3 g5 (by decide) (by decide)
   go_roundw
   case rel=>exact⟨k+1,out++[(y0,y1,y2,y3,y4)],S2,A5,c5,by omega,by rw[List.length_append,HOL.out];rfl,by go_num,rfl,by rw[zav];simpa[recs,zak] using o5,s5,b5,Hz (by rw[HST.out,List.append_assoc];rfl),Hz (fun c hc=>by
    rcases List.mem_append.1 hc with hc|hc
    ·exact hda.out c hc
    ·rw[List.mem_singleton.1 hc];exact HDT.out)⟩
   case measure=>simp[intOf];omega
  ·have hfin:rdL t n (some b)=(out,S):=by
    rw[hrd.out];by_cases hkn:k<n
    ·have:S=none:=Classical.byContradiction fun e=>hgo ⟨hkn,e⟩
     subst this;rw[qaq,List.append_nil]
    ·rw[show n-k=0 by omega]
     simp[rdL]
   have hI:=zy6 HT.out hn hb8 hfin hda.out;have EN:=Hz (zgd hs);have AR:=Hz (zma (t:=t) (c:=cc) (Reads.of_own o) (fun y hy=>(hda.out y hy).1.1) (by omega));have BD:=Hz (zy4 hs);have HI:=Hz hI;clear hI hfin hrd hs;by_cases hS:S=some []
   ·subst hS
    have hkn: ¬k<n:=fun e=>hgo ⟨e,by simp⟩
    obtain rfl:k=n:=by omega
    rw[show zpw (some [])=true from rfl] at EN;clear BD hgo
    go_wp2_with fail
    refine EN.out.mono ?_;rintro e w2 ⟨rfl,rfl⟩
    go_wp2_with fail
    refine AR.out.mono ?_;rintro e w3 ⟨rfl,b3⟩;have hI:=HI.out;have o3:=zau o b3;have hl:=New.trans hbl b3
    cases hall:(out.all fun c=>zac c t false) with
    |true=>
     rw[if_pos ⟨by trivial,hall⟩] at hI;have HI:=Hz hI;clear hI EN AR
     go_wp2_with fail
     go_ret2
     exact⟨some out,HI.out,_,_,_,rfl,o3,hl⟩
    |false=>
     rw[if_neg (by rw[hall];simp)] at hI;have HI:=Hz hI;clear hI EN AR
     go_wp2_with fail
     go_ret2
     exact⟨none,HI.out,rfl,hl⟩
   ·have hI:=HI.out
    rw[if_neg (fun e=>hS e.1)] at hI;have HI:=Hz hI;rw[show zpw S=false from decide_eq_false hS] at EN;clear hI AR hS;by_cases hkn:k<n
    ·have:S=none:=Classical.byContradiction fun e=>hgo ⟨hkn,e⟩
     subst this;rw[show(Option.isNone (none:St))=true from rfl] at BD
     have hkn':(k:Int)<(n:Int):=by omega
     clear hgo
     go_wp2_with fail
     refine BD.out.mono ?_;rintro e w2 ⟨rfl,rfl⟩
     go_wp2_with fail
     refine EN.out.mono ?_;rintro e w2 ⟨rfl,rfl⟩
     go_wp2_with fail
     go_ret2
     exact⟨none,HI.out,rfl,hbl⟩
    ·obtain rfl:k=n:=by omega
     clear hgo BD
     go_wp2_with fail
     refine EN.out.mono ?_;rintro e w2 ⟨rfl,rfl⟩
     go_wp2_with fail
     go_ret2
     exact⟨none,HI.out,rfl,hbl⟩
end Go.Proofs.YtmgfkpnghlmheaaGreat
namespace Go.Hm
open Go Go.RowKit
def zuq(x:Nat):zab:=(false,(x:Int),[],0,0)
theorem z51{l:List Nat}(h:∀x∈l,x<2):zdy (l.map zuq)=l:=by
 unfold zdy;rw[List.map_map]
 conv=>rhs;rw[←List.map_id l]
 refine List.map_congr_left fun x hx=>?_
 have:=h x hx;show u64N (x:Int)=x;unfold u64N;omega
theorem z52{l:List zab}(h:∀c∈l,zac c 1 false=true):(zdy l).map zuq=l:=by
 unfold zdy;rw[List.map_map]
 conv=>rhs;rw[←List.map_id l]
 refine List.map_congr_left fun c hc=>?_
 have hr:=h c hc;have h0:=zgc hr;have h1:=qdo hr;obtain⟨y0,y1,y2,y3,y4⟩:=c;dsimp only at h0 h1;subst h0
 have e:(y2=[]∧y3=0∧y4=0)∧(y1=0∨y1=1):=by simpa[zac] using hr
 obtain⟨⟨rfl,rfl,rfl⟩,-⟩:=e;show zuq (u64N y1)=(false,y1,[],0,0);unfold zuq u64N;rcases h1 with rfl|rfl<;> rfl
theorem z1y{x:Nat}(h:x<2):zac (zuq x) 1 false=true:=by
 have:x=0∨x=1:=by omega
 rcases this with rfl|rfl<;> simp[zac,zuq]
end Go.Hm
namespace Go.Proofs.YtmgfkpnghlmheaaGreat
open Go.RowKit Go.Hm
theorem zur{b:List Nat}{n:Int}(h8:∀x∈b,x<256):IsPl zai 1 b n ((zbg b 1 n).map fun l=>l.map zuq):=by
 constructor
 ·intro l hl
  cases hu:zbg b 1 n with
  |none=>rw[hu] at hl;cases hl
  |some k=>
   rw[hu] at hl;injection hl with hl;subst hl;obtain⟨hp,hlen,hw,hk,hf⟩:=zhn h8 hu
   have h2:∀x∈k,x<2:=by
    have:=(zgo k 1 (by omega) hk).1 (by omega);simpa using this
   have hR:∀c∈k.map zuq,zac c 1 false=true:=fun c hc=>by
    obtain⟨x,hx,rfl⟩:=List.mem_map.1 hc;exact z1y (h2 x hx)
   have hpb:=qah hR (by rw[List.length_map];exact hf);rw[z51 h2,hp] at hpb;injection hpb with hpb;refine⟨by rw[List.length_map];exact hlen,plO_iff.2 ⟨plOk_iff.2 ⟨⟨by omega,by omega,by rw[List.length_map];exact hf⟩,hR⟩,hpb.symm⟩,fun c hc=>?_⟩;obtain⟨x,hx,rfl⟩:=List.mem_map.1 hc;have:=h2 x hx;unfold zai zuq;exact⟨⟨by simp,by simp⟩,by dsimp only;omega⟩
 ·intro l _ hlen hp
  obtain⟨hok,hb⟩:=plO_iff.1 hp;obtain⟨⟨_,_,hf⟩,hR⟩:=plOk_iff.1 hok
  have hbl:(zdy l).length=l.length:=by unfold zdy;rw[List.length_map]
  have hu:=zhm (zdy l) 1 (by omega) (by omega) (zn2 hR) (fun x hx=>by unfold zdy at hx;obtain⟨y,_,rfl⟩:=List.mem_map.1 hx;have:=zww y.2.1;omega)
  have e:low (pk 1 (zdy l)) ((1*(zdy l).length+7)/8)=b:=by
   rw[←hb];unfold plB;rw[if_pos rfl,hbl]
  rw[e,hbl,hlen] at hu;have hu:zbg b 1 n=some (zdy l):=hu;rw[hu];show some ((zdy l).map zuq)=some l;rw[z52 hR]
end Go.Proofs.YtmgfkpnghlmheaaGreat
namespace Go.Hm
open Go Go.RowKit
theorem z1z(a b c d f:Value)(n:Nat):(madeCells #[a,b,c,d,f] (n*5)).toList=(List.replicate n [a,b,c,d,f]).flatten:=by
 induction n with
 |zero=>simp[madeCells]
 |succ n ih=>
  rw[List.replicate_succ',List.flatten_append,←ih]
  have e:∀m,m%5=0→(madeCells #[a,b,c,d,f] (m+5)).toList=(madeCells #[a,b,c,d,f] m).toList++[a,b,c,d,f]:=by
   intro m hm;simp only[madeCells,Array.toList_map,Array.toList_range,List.range_succ,List.map_append,List.map_cons,List.map_nil,List.append_assoc,List.cons_append,List.nil_append,List.size_toArray,List.length_cons,List.length_nil];rw[hm,show(m+1)%5=1 by omega,show(m+2)%5=2 by omega,show(m+3)%5=3 by omega,show(m+4)%5=4 by omega];rfl
  rw[Nat.succ_mul,e (n*5) (by omega)];simp
section
variable{P:Program}{ops:Array Oper}{rest:List Oper}{o:Oper}{a:Act}{Q:Exit→Act→World→Prop}
theorem zet{w:World}{t e:TypeId}{x y z u v:Value}{bytes:Nat}(E:ElT P t e (.agg #[x,y,z,u,v]) 5 bytes)(hgd:o.guard=none)(lo co:Operand)(ho:o.op=Op.makeSlice t lo co)
 {W:World}{B:Nat}{kl kc:IntKind}{L C:Int}(n:Nat)(hl:a.eval lo= .int kl L)(hc:a.eval co= .int kc C)(hL:L=(n:Int))(hC:C=(n:Int))(hb:Below B W w)(hbase:B≤w.heap.size)
 (hn:n*bytes≤140737488355328)(hm:n≤maxLen)
 (h:∀w',w'.ownsRow w.heap.size e 5 (.slice (some ⟨w.heap.size,0,none⟩) n n) n (List.replicate n [x,y,z,u,v]).flatten→w.grownBy w' none→Below B W w'→w'.heap.size=w.heap.size+1→wpList P ops Q rest (a.put o.dst (.slice (some ⟨w.heap.size,0,none⟩) n n)) w'):
 wpList P ops Q (o::rest) a w:=by
 obtain⟨i,hi,hz0,hs1,hb1⟩:=info_parts E.hi;subst hL hC
 have hmC:(n:Int)≤9223372036854775807:=by have h:=hm;simp only[maxLen] at h;omega
 have hbC:(i.bytes:Int)*(n:Int)≤281474976710656:=by
  have h:((i.bytes*n:Nat):Int)≤281474976710656:=by rw[hb1,Nat.mul_comm];omega
  rwa[Int.natCast_mul] at h
 have hrun:=run_make (P:=P) w t e i (.agg #[x,y,z,u,v]) E.ht hi hz0 kl kc (n:Int) (n:Int) (by omega) (by omega) hbC hmC;rw[Int.toNat_natCast,hs1] at hrun
 refine wpList_plain hgd fun K hK=>?_
 unfold Oper.wp;simp[execOp,ho,hl,hc,hrun,Result.andThen];refine hK _ _ (h _ ?_ (World.grownBy_alloc _ _ _) (hb.alloc hbase _) (by simp));refine⟨by simp,.inr ⟨_,n,_,rfl,Nat.le_refl _,heap_alloc_new w _,Nat.le_refl _,hm,by simp[size_madeCells],?_⟩⟩;rw[List.take_of_length_le (by simp[size_madeCells])];exact z1z x y z u v n
end
theorem qbg{A B:List zab}{z:Nat}:(recs zak (A++zay::B)).set (A.length*5+1) (.int .i64 (z:Int))=recs zak (A++zuq z::B):=by
 have l:(recs zak A).length=A.length*5:=zar (sz:=5) (fun _=>rfl) A;rw[zav,zav,List.set_append_right _ _ (by omega),l,show A.length*5+1-A.length*5=1 by omega]
 congr 1
theorem zg3(n:Nat):(List.replicate n [Value.bool false,.int .i64 0,.string ⟨#[]⟩,.int .i64 0,.int .i64 0]).flatten=recs zak (List.replicate n zay):=by
 induction n with
 |zero=>rfl
 |succ n ih=>
  rw[List.replicate_succ,List.flatten_cons,ih,List.replicate_succ];rfl
end Go.Hm
namespace Go.Proofs.YtmgfkpnghlmheaaGreat
open Go.RowKit Go.Hm
set_option maxRecDepth 100000 in
theorem zof{w:World}{A:Option Addr}{c m:Nat}{b:List Nat}{n:Nat}(h:Reads w w.heap.size 1 A m (za3 .u8 b))(h8:∀x∈b,x<256)(hm:m≤140737488351232)(hn:n≤65536):
 Calls Tryz.prog 203 #[.slice A m c,.int .i64 (n:Int)] w (OptC ((zbg b 1 (n:Int)).map fun l=>l.map zuq) w):=by
 obtain rfl:m=b.length:=h.len;have U:=Hz (zgt (c:=c) 1 (n:Int) h h8 (by omega) (by omega) (by omega) (by omega) (by omega))
 have hpu:=fun l=>zhn (l:=l) (x:=1) (n:=(n:Int)) h8
 clear h h8;generalize zbg b 1 (n:Int)=O at*
 cases O with
 |none=>
  go_enter Tryz.func203,Tryz.ntmps203
  go_wp2_with fail
  refine U.out.mono ?_;rintro e w1 ⟨rfl,b1⟩
  go_wp2_with fail
  go_ret2
  exact⟨rfl,b1⟩
 |some l=>
  obtain⟨-,hlen,hw,hk,hf⟩:=hpu l rfl
  have h2:∀x∈l,x<2:=by
   have:=(zgo l 1 (by omega) hk).1 (by omega);simpa using this
  obtain rfl:n=l.length:=by omega
  have H2:=Hz h2;clear hpu hlen hw hk h2
  go_enter Tryz.func203,Tryz.ntmps203
  go_wp2_with fail
  refine U.out.mono ?_;rintro e w1 ⟨A1,n1,c1,rfl,k1,b1⟩
  obtain rfl:n1=l.length:=by have:=k1.len;rwa[zaa] at this
  have hz1:=b1.size;have R1:=Hz k1.reads;clear U k1
  go_wp2_with (refine zet qff rfl (.tmp 19) (.tmp 19) rfl (W:=w) (B:=w.heap.size) l.length rfl rfl rfl rfl b1 hz1 (by omega) (by simp only[maxLen];omega) ?_
               intro w2 o2 g2 b2 hs2)
  rw[zg3] at o2;have b12:New w1 w2:=(Turns.of_none (T:=[]) g2).new (by simp)
  go_loopw [23] (fun i wr=>∃k:Nat,k≤l.length∧i= .int .i64 (k:Int)∧wr.ownsRow w1.heap.size 61 5 (.slice (some ⟨w1.heap.size,0,none⟩) l.length l.length) l.length (recs zak ((l.take k).map zuq++List.replicate (l.length-k) zay))∧New w1 wr) (fun i _=>l.length-(intOf i).toNat)
  case atStart=>exact⟨0,Nat.zero_le _,rfl,by simpa using o2,b12⟩
  case round=>
   obtain⟨k,hk,rfl,o,hb⟩:=hrel;clear o2 g2 b2 b12 hs2;by_cases hlt:k<l.length
   ·obtain⟨ax,rfl,hbx,qx⟩:=(Reads.later R1.out hb).num (i:=k) hlt
    have hx2:=H2.out (l.getD k 0) (by rw[List.getD_eq_getElem?_getD,List.getElem?_eq_getElem hlt];exact List.getElem_mem hlt);have htk:=zad l k 0 hlt;generalize l.getD k 0=x at*;have hwr:IntKind.i64.wrap (x:Int)=(x:Int):=IntWalk.i64_in _ (by omega);obtain⟨ad,ea,_,-,d1,-⟩:=(Reads.of_own o).cell5 (i:=k) hlt;injection ea with ea;subst ea;obtain⟨cs,BR⟩:=zie o;have f1:=BR.frozen (k*5+1)
    have ead:(⟨w1.heap.size,0,none⟩:Addr).add (k*5)=⟨w1.heap.size,k*5,none⟩:=by
     unfold Addr.add;split<;> simp_all
    rw[ead] at d1;dsimp only at d1
    have hA:((l.take k).map zuq).length=k:=by rw[List.length_map,List.length_take];omega
    obtain⟨o',-⟩:=World.ownsRow.stored o (k*5+1) (.int .i64 (x:Int));have ers:=qbg (A:=(l.take k).map zuq) (B:=List.replicate (l.length-(k+1)) zay) (z:=x);rw[hA] at ers;rw[show l.length-k=(l.length-(k+1))+1 by omega,List.replicate_succ,ers] at o'
    have o':(wr.setCell ⟨w1.heap.size,k*5+1,none⟩ (.int .i64 (x:Int))).ownsRow w1.heap.size 61 5 (.slice (some ⟨w1.heap.size,0,none⟩) l.length l.length) l.length (recs zak ((l.take (k+1)).map zuq++List.replicate (l.length-(k+1)) zay)):=by
     rw[htk,List.map_append,List.append_assoc];exact o'
    have O':=Hz o';have HB:=Hz (hb.setCell (p:=⟨w1.heap.size,k*5+1,none⟩) (Nat.le_refl _) (.int .i64 (x:Int)));clear o' ers o htk hA BR
    go_wp2_with fail
    go_roundw
    case rel=>exact⟨k+1,by omega,by go_num,O'.out,HB.out⟩
    case measure=>simp[intOf];omega
   ·obtain rfl:k=l.length:=by omega
    rw[Nat.sub_self,List.replicate_zero,List.append_nil,List.take_length] at o
    go_wp2_with fail
    go_ret2
    exact⟨_,_,_,rfl,zbd o hz1,New.trans b1 hb⟩
open Go.RowKit Go.Hm
theorem z54{t:Int}{b:List Nat}{n:Int}(h: ¬(0≤t∧t≤3∧0≤n∧n≤65536)):IsPl zai t b n none:=
 ⟨fun l e=>(by cases e),fun l _ hl hp=>by
  have:=(plOk_iff.1 (plO_iff.1 hp).1).1
  omega⟩
set_option maxRecDepth 100000 in
theorem zjz{w:World}{A:Option Addr}{c m:Nat}{b:List Nat}{t n:Int}(h:Reads w w.heap.size 1 A m (za3 .u8 b))(h8:∀x∈b,x<256)(hm:m≤140737488351232):
 Calls Tryz.prog 181 #[.int .i64 t,.slice A m c,.int .i64 n] w (qiy t b n w):=by
 by_cases hk:0≤t∧t≤3∧0≤n∧n≤65536
 ·obtain⟨n,rfl⟩:=Int.eq_ofNat_of_zero_le hk.2.2.1
  by_cases h1:t=1
  ·subst h1
   have KN:=zkg (w:=w) (t:=1) (n:=(n:Int));rw[decide_eq_true hk] at KN;have KN:=Hz KN;have U:=Hz (zof (c:=c) (n:=n) h h8 hm (by omega));have HI:=Hz (zur (n:=(n:Int)) h8);clear h h8 hk;generalize(zbg b 1 (n:Int)).map (fun l=>l.map zuq)=O at*
   go_enter Tryz.func181,Tryz.ntmps181
   go_wp2_with fail
   refine KN.out.mono ?_;rintro e w1 ⟨rfl,rfl⟩
   go_wp2_with fail
   refine U.out.mono ?_;intro e w2 h2
   cases O with
   |none=>
    obtain⟨rfl,b2⟩:=h2
    go_wp2_with fail
    go_ret2
    exact⟨none,HI.out,rfl,b2⟩
   |some l=>
    obtain⟨A2,n2,c2,rfl,o2,b2⟩:=h2
    go_wp2_with fail
    go_ret2
    exact⟨some l,HI.out,_,_,_,rfl,o2,b2⟩
  ·exact zw1 h h8 hm (by omega) (by omega)
 ·have KN:=zkg (w:=w) (t:=t) (n:=n)
  rw[decide_eq_false hk] at KN;have KN:=Hz KN;have HI:=Hz (z54 (b:=b) hk);clear h h8 hk
  go_enter Tryz.func181,Tryz.ntmps181
  go_wp2_with fail
  refine KN.out.mono ?_;rintro e w1 ⟨rfl,rfl⟩
  go_wp2_with fail
  go_ret2
  exact⟨none,HI.out,rfl,New.refl _⟩
end Go.Proofs.YtmgfkpnghlmheaaGreat
namespace Go.Hm
open Go Go.RowKit
def zc7(m:Nat)(r:Int)(D:List zdo):Int:=if 65536<r then 4 else if r<0∨D.length≠m then 2 else if∃d∈D,((d.2.2.length:Nat):Int)≠r then 2 else 0
theorem Reads.colD{w:World}{B n i:Nat}{A:Option Addr}{l:List zdo}(h:Reads w B 1 A n (recs zf4 l))(hi:i<n):
 ∃ad,A=some ad∧ad.block<B∧w.cell? (ad.add i)=some (.slice (l.getD i (none,0,[])).1 (l.getD i (none,0,[])).2.2.length (l.getD i (none,0,[])).2.1):=by
 obtain⟨ad,h1,h2,_,h3⟩:=h.rec_ (f:=zf4) (sz:=1) (fun _=>rfl) (none,0,[]) hi (by omega);have:=h3 0 _ rfl;rw[Nat.mul_one] at this;exact⟨ad,h1,h2,this⟩
theorem Reads.lenD{w:World}{B n:Nat}{A:Option Addr}{l:List zdo}(h:Reads w B 1 A n (recs zf4 l)):n=l.length:=h.lenR (f:=zf4) (sz:=1) (fun _=>rfl) (by omega)
end Go.Hm
namespace Go.Proofs.YtmgfkpnghlmheaaGreat
open Go.RowKit Go.Hm
set_option maxRecDepth 100000 in
theorem z7w{w:World}{Ac:Option Addr}{nc cc:Nat}{r:Int}{Ad:Option Addr}{nd cd:Nat}{D:List zdo}(h:Reads w w.heap.size 1 Ad nd (recs zf4 D))(hn:nd≤4611686018427387903):
 Calls Tryz.prog 51 #[.agg #[.slice Ac nc cc,.int .i64 r,.slice Ad nd cd]] w (zap (.int .i64 (zc7 nc r D)) w):=by
 obtain rfl:=h.lenD;have K1:=Hz (fun(hh:65536<r)=>show zc7 nc r D=4 by rw[zc7,if_pos hh]);have K2:=Hz (fun(hh: ¬65536<r) (h2:r<0∨D.length≠nc)=>show zc7 nc r D=2 by rw[zc7,if_neg hh,if_pos h2]);have K3:=Hz (fun(hh: ¬65536<r) (h2: ¬(r<0∨D.length≠nc)) (d:zdo) (hd:d∈D) (h3:((d.2.2.length:Nat):Int)≠r)=>show zc7 nc r D=2 by rw[zc7,if_neg hh,if_neg h2,if_pos ⟨d,hd,h3⟩]);have K4:=Hz (fun(hh: ¬65536<r) (h2: ¬(r<0∨D.length≠nc)) (h3:∀d∈D,((d.2.2.length:Nat):Int)=r)=>show zc7 nc r D=0 by rw[zc7,if_neg hh,if_neg h2,if_neg (fun⟨d,hd,h4⟩=>h4 (h3 d hd))]);generalize zc7 nc r D=O at*;obtain⟨W0,hW0⟩:∃W,W=w.alloc (.cells #[.slice Ac nc cc,.int .i64 r,.slice Ad D.length cd] 25):=⟨_,rfl⟩
 have b0:New w W0:=by rw[hW0];exact(Below.refl _ _).alloc (Nat.le_refl _) _
 have B0:Blk W0 w.heap.size 25 #[.slice Ac nc cc,.int .i64 r,.slice Ad D.length cd]:=by rw[hW0];exact Blk.new _ _ _
 obtain⟨x0,x1,x2⟩:=zaf B0;rw[hW0] at x0 x1 x2;by_cases h0:65536<r
 ·have O1:=Hz (K1.out h0)
  clear K1 K2 K3 K4 B0 h
  go_enter Tryz.func51,Tryz.ntmps51
  go_wp2
  go_ret
  exact⟨by rw[O1.out];rfl,by rw[←hW0];exact b0⟩
 ·by_cases h1:r<0∨D.length≠nc
  ·have O1:=Hz (K2.out h0 h1)
   clear K1 K2 K3 K4 B0 h;by_cases h2:r<0
   ·go_enter Tryz.func51,Tryz.ntmps51
    go_wp2
    go_ret
    exact⟨by rw[O1.out];rfl,by rw[←hW0];exact b0⟩
   ·have e1:((D.length:Int) != (nc:Int))=true:=by simp;omega
    clear h1
    go_enter Tryz.func51,Tryz.ntmps51
    go_wp2
    go_ret
    exact⟨by rw[O1.out];rfl,by rw[←hW0];exact b0⟩
  ·have K5:=Hz (K3.out h0 h1)
   have K6:=Hz (K4.out h0 h1)
   obtain⟨h2,h3⟩: ¬r<0∧D.length=nc:=by omega
   subst h3;have r0:=Reads.later h b0;clear h1 K1 K2 K3 K4 h
   go_enter Tryz.func51,Tryz.ntmps51
   go_wp2
   rw[←hW0];clear x0 x1 x2 hW0
   go_loopw [23] (fun i wr=>∃k:Nat,i= .int .i64 (k:Int)∧k≤D.length∧New W0 wr∧Hid (∀d∈D.take k,((d.2.2.length:Nat):Int)=r)) (fun i _=>D.length-(intOf i).toNat)
   case atStart=>exact⟨0,rfl,by omega,New.refl _,Hz (by simp)⟩
   case round=>
    obtain⟨k,rfl,hk,hb,H⟩:=hrel;obtain⟨x0,x1,x2⟩:=zaf (B0.below hb B0.lt);by_cases hlt:k<D.length
    ·obtain⟨ad,rfl,hbk,c0⟩:=(Reads.later r0 hb).colD hlt
     have hx:(D.getD k (none,0,[]))∈D:=by rw[List.getD_eq_getElem?_getD,List.getElem?_eq_getElem hlt];exact List.getElem_mem hlt
     have M1:=Hz (fun hh=>K5.out _ hx hh)
     have M2:=Hz (fun(hh:((((D.getD k (none,0,[])).2.2.length:Nat):Int)=r))=>show∀d∈D.take (k+1),((d.2.2.length:Nat):Int)=r by
      intro d hd;rw[zad D k (none,0,[]) hlt,List.mem_append] at hd;rcases hd with hd|hd
      ·exact H.out d hd
      ·obtain rfl:=List.mem_singleton.1 hd
       exact hh)
     clear hx;generalize(D.getD k (none,0,[])).1=aA at*;generalize(D.getD k (none,0,[])).2.2.length=m at*;generalize(D.getD k (none,0,[])).2.1=cA at*
     have hiz:(k:Int)<(D.length:Int):=by omega
     by_cases he:(m:Int)=r
     ·have M3:=Hz (M2.out he)
      subst he;clear M1 M2
      go_wp2
      go_roundw
      case rel=>exact⟨k+1,by go_num,by omega,hb,M3⟩
      case measure=>simp[intOf];omega
     ·have M3:=Hz (M1.out he)
      have e1:((m:Int) != r)=true:=by simpa using he
      clear M1 M2 he
      go_wp2
      go_ret
      exact⟨by rw[M3.out];rfl,New.trans b0 hb⟩
    ·obtain rfl:k=D.length:=by omega
     have H2:=H.out;rw[List.take_length] at H2;have O1:=Hz (K6.out H2);clear H H2 K5 K6
     go_wp2
     go_ret
     exact⟨by rw[O1.out];rfl,New.trans b0 hb⟩
end Go.Proofs.YtmgfkpnghlmheaaGreat
namespace Go.Hm
open Go Go.RowKit
abbrev ty(l:List za0)(i:Nat):Int:=(l.getD i ([],0,false)).2.1
def zfd(l:List zab)(c:za0):Bool:=l.all fun x=>zac x c.2.1 c.2.2
def zh1(D:List zdo)(L:List za0):Bool:=(List.zip D L).all fun p=>zfd p.1.2.2 p.2
def zdz(L:List za0)(r:Int)(D:List zdo):Int:=
 if zch L≠0 then zch L else if zc7 L.length r D≠0 then zc7 L.length r D else if zh1 D L then 0 else 3
theorem zvw{m:Nat}{r:Int}{D:List zdo}(h:zc7 m r D=0):D.length=m∧0≤r∧r≤65536∧∀d∈D,((d.2.2.length:Nat):Int)=r:=by
 unfold zc7 at h;split at h
 ·cases h
 split at h
 ·cases h
 split at h
 ·cases h
 rename_i h1 h2 h3;refine⟨by omega,by omega,by omega,fun d hd=>?_⟩;by_cases e:((d.2.2.length:Nat):Int)=r
 ·exact e
 ·exact absurd ⟨d,hd,e⟩ h3
theorem zx4{l:List zab}{c:za0}(h:zfd l c=true){k:Nat}(hk:k<l.length):zac (l.getD k (false,0,[],0,0)) c.2.1 c.2.2=true:=by
 rw[List.getD_eq_getElem?_getD,List.getElem?_eq_getElem hk];exact(List.all_eq_true.1 h) _ (List.getElem_mem hk)
theorem zx5{l:List zab}{c:za0}(h:∀k,k<l.length→zac (l.getD k (false,0,[],0,0)) c.2.1 c.2.2=true):zfd l c=true:=by
 refine List.all_eq_true.2 fun x hx=>?_
 obtain⟨k,hk,rfl⟩:=List.getElem_of_mem hx;have:=h k hk;rwa[List.getD_eq_getElem?_getD,List.getElem?_eq_getElem hk] at this
theorem zx6{D:List zdo}{L:List za0}(hl:D.length=L.length)(h:∀k,k<D.length→zfd (D.getD k (none,0,[])).2.2 (L.getD k ([],0,false))=true):zh1 D L=true:=by
 refine List.all_eq_true.2 fun x hx=>?_
 obtain⟨k,hk,rfl⟩:=List.getElem_of_mem hx;rw[List.length_zip] at hk;have:=h k (by omega);rw[List.getD_eq_getElem?_getD,List.getElem?_eq_getElem (by omega),List.getD_eq_getElem?_getD,List.getElem?_eq_getElem (by omega)] at this;rw[List.getElem_zip];exact this
theorem zj3{D:List zdo}{L:List za0}(hl:D.length=L.length)(h:zh1 D L=true){k:Nat}(hk:k<D.length):zfd (D.getD k (none,0,[])).2.2 (L.getD k ([],0,false))=true:=by
 have:=(List.all_eq_true.1 h) _ (List.getElem_mem (l:=List.zip D L) (n:=k) (by rw[List.length_zip];omega));rw[List.getElem_zip] at this;rw[List.getD_eq_getElem?_getD,List.getElem?_eq_getElem (by omega),List.getD_eq_getElem?_getD,List.getElem?_eq_getElem (by omega)];exact this
def DataIn(w:World)(B:Nat)(D:List zdo):Prop:=∀d∈D,Reads w B 5 d.1 d.2.2.length (recs zak d.2.2)∧(∀x∈d.2.2,x.2.2.1.length≤140737488351232∧∀z∈x.2.2.1,z<256)∧d.2.2.length≤d.2.1∧d.2.1≤9223372036854775807∧(d.1=none→d.2.1=0)
theorem DataIn.later{w w':World}{D:List zdo}(h:DataIn w w.heap.size D)(hb:New w w'):DataIn w' w'.heap.size D:=fun d hd=>⟨Reads.later (h d hd).1 hb,(h d hd).2⟩
end Go.Hm
namespace Go.Proofs.YtmgfkpnghlmheaaGreat
open Go.RowKit Go.Hm
set_option maxRecDepth 100000 in
theorem zvx{w:World}{Ac:Option Addr}{nc cc:Nat}{L:List za0}{r:Int}{Ad:Option Addr}{nd cd:Nat}{D:List zdo}
 (h1:Reads w w.heap.size 3 Ac nc (recs zh4 L))(hL:∀x∈L,(∀z∈x.1,z<256)∧x.1.length≤140737488351232)(hc:nc≤cc)(hn:nc≤4611686018427387903)
 (h:Reads w w.heap.size 1 Ad nd (recs zf4 D))(hnd:nd≤4611686018427387903)(hD:DataIn w w.heap.size D):
 Calls Tryz.prog 19 #[.agg #[.slice Ac nc cc,.int .i64 r,.slice Ad nd cd]] w (zap (.int .i64 (zdz L r D)) w):=by
 obtain rfl:=h1.lenC;obtain rfl:=h.lenD;have K1:=Hz (fun(hh:zch L≠0)=>show zdz L r D=zch L by rw[zdz,if_pos hh]);have K2:=Hz (fun(hh:zch L=0) (h2:zc7 L.length r D≠0)=>show zdz L r D=zc7 L.length r D by rw[zdz,if_neg (by simpa using hh),if_pos h2]);have K3:=Hz (fun(hh:zch L=0) (h2:zc7 L.length r D=0)=>show zdz L r D=if zh1 D L then 0 else 3 by rw[zdz,if_neg (by simpa using hh),if_neg (by simpa using h2)]);have SL:=Hz (fun(h2:zc7 L.length r D=0)=>zvw h2);generalize zdz L r D=O at*;obtain⟨W0,hW0⟩:∃W,W=w.alloc (.cells #[.slice Ac L.length cc,.int .i64 r,.slice Ad D.length cd] 25):=⟨_,rfl⟩
 have b0:New w W0:=by rw[hW0];exact(Below.refl _ _).alloc (Nat.le_refl _) _
 have B0:Blk W0 w.heap.size 25 #[.slice Ac L.length cc,.int .i64 r,.slice Ad D.length cd]:=by rw[hW0];exact Blk.new _ _ _
 obtain⟨x0,x1,x2⟩:=zaf B0;have P1:=Hz (znd (c:=cc) (Reads.later h1 b0) hL hc hn);have P2:=Hz (fun(W:World) (hW:New W0 W)=>z7w (Ac:=Ac) (nc:=L.length) (cc:=cc) (r:=r) (cd:=cd) (Reads.later h (New.trans b0 hW)) hnd);rw[hW0] at x0 x1 x2;have r1:=Hz (fun(W:World) (hW:New W0 W)=>Reads.later h1 (New.trans b0 hW));have r0:=Hz (fun(W:World) (hW:New W0 W)=>Reads.later h (New.trans b0 hW));have rD:=Hz (fun(W:World) (hW:New W0 W)=>hD.later (New.trans b0 hW));clear h h1 hD;generalize zch L=q1 at*;generalize zc7 L.length r D=q2 at*
 go_enter Tryz.func19,Tryz.ntmps19
 go_wp2_with fail
 rw[←hW0];refine(P1.out).mono ?_;rintro e W1 ⟨rfl,b1⟩;clear x0 x1 x2 hW0 P1;by_cases h2:q1=0
 ·have K22:=Hz (K2.out h2)
  have K33:=Hz (K3.out h2);clear K1 K2 K3;subst h2;obtain⟨x0,x1,x2⟩:=zaf (B0.below b1 B0.lt)
  go_wp2_with fail
  refine(P2.out _ b1).mono ?_;rintro e W2 ⟨rfl,b2⟩;have b12:=New.trans b1 b2;clear x0 x1 x2 P2 b1 b2;by_cases h3:q2=0
  ·have K5:=Hz (K33.out h3)
   have hSL:=SL.out h3;subst h3;have hDL:=hSL.1;have K6:=Hz (fun(hh:∀k,k<D.length→zfd (D.getD k (none,0,[])).2.2 (L.getD k ([],0,false))=true)=>show O=0 by rw[K5.out,if_pos (zx6 hDL hh)]);have K7:=Hz (fun(k:Nat) (hk:k<D.length) (hh: ¬zfd (D.getD k (none,0,[])).2.2 (L.getD k ([],0,false))=true)=>show O=3 by rw[K5.out,if_neg (fun e=>hh (zj3 hDL e hk))]);clear K22 K33 K5 SL hSL;obtain⟨x0,x1,x2⟩:=zaf (B0.below b12 B0.lt)
   go_wp2
   clear x0 x1 x2
   go_loopw [23] (fun i wr=>∃k:Nat,i= .int .i64 (k:Int)∧k≤D.length∧New W0 wr∧Hid (∀j,j<k→zfd (D.getD j (none,0,[])).2.2 (L.getD j ([],0,false))=true)) (fun i _=>D.length-(intOf i).toNat)
   case atStart=>exact⟨0,rfl,by omega,b12,Hz (by intro j hj;omega)⟩
   case round=>
    obtain⟨k,rfl,hk,hb,H⟩:=hrel;obtain⟨x0,x1,x2⟩:=zaf (B0.below hb B0.lt);by_cases hlt:k<D.length
    ·obtain⟨ad,rfl,hbk,c0⟩:=(r0.out _ hb).colD hlt
     have hmem:(D.getD k (none,0,[]))∈D:=by rw[List.getD_eq_getElem?_getD,List.getElem?_eq_getElem hlt];exact List.getElem_mem hlt
     have C:=Hz (fun(W:World) (hW:New W0 W)=>(r1.out W hW).colT (show k<L.length by omega));have E:=Hz (fun(W:World) (hW:New W0 W)=>rD.out W hW _ hmem)
     have M0:=Hz (fun(hh:∀i,i<(D.getD k (none,0,[])).2.2.length→zac ((D.getD k (none,0,[])).2.2.getD i (false,0,[],0,0)) (L.getD k ([],0,false)).2.1 (L.getD k ([],0,false)).2.2=true)=>show∀j,j<k+1→zfd (D.getD j (none,0,[])).2.2 (L.getD j ([],0,false))=true by
      intro j hj;rcases Nat.lt_succ_iff_lt_or_eq.1 hj with hj|rfl
      ·exact H.out j hj
      ·exact zx5 hh)
     have M1:=Hz (fun(i:Nat) (hi:i<(D.getD k (none,0,[])).2.2.length) (hh: ¬zac ((D.getD k (none,0,[])).2.2.getD i (false,0,[],0,0)) (L.getD k ([],0,false)).2.1 (L.getD k ([],0,false)).2.2=true)=>K7.out k hlt (fun e=>hh (zx4 e hi)));clear hmem H;generalize(D.getD k (none,0,[])).1=aA at*;generalize(D.getD k (none,0,[])).2.2=l at*;generalize(D.getD k (none,0,[])).2.1=cA at*;generalize(L.getD k ([],0,false)).1=cn at*;generalize(L.getD k ([],0,false)).2.1=t at*;generalize(L.getD k ([],0,false)).2.2=nu at*
     have hiz:(k:Int)<(D.length:Int):=by omega
     have hiz2:(k:Int)<(L.length:Int):=by omega
     go_wp2
     clear x0 x1 x2 c0
     go_loopw [30] (fun i wr=>∃j:Nat,i= .int .i64 (j:Int)∧j≤l.length∧New W0 wr∧Hid (∀i,i<j→zac (l.getD i (false,0,[],0,0)) t nu=true)) (fun i _=>l.length-(intOf i).toNat)
     case atStart=>exact⟨0,rfl,by omega,hb,Hz (by intro j hj;omega)⟩
     case round=>
      obtain⟨j,rfl,hj,hb2,H2⟩:=hrel;by_cases hl2:j<l.length
      ·obtain⟨E1,E2,E3,E4,_⟩:=E.out _ hb2
       obtain⟨ad2,e2,hbk2,d0,d1,d2,d3,d4⟩:=E1.cell5 hl2;subst e2
       have hxm:(l.getD j (false,0,[],0,0))∈l:=by rw[List.getD_eq_getElem?_getD,List.getElem?_eq_getElem hl2];exact List.getElem_mem hl2
       have hsz:=(E2 _ hxm).1;obtain⟨ad3,e3,hbk3,f0,f1,f2⟩:=C.out _ hb2;subst e3;have P:=Hz (fun(W:World)=>zfh (w:=W) (b:=(l.getD j (false,0,[],0,0)).1) (n:=(l.getD j (false,0,[],0,0)).2.1) (s:=(l.getD j (false,0,[],0,0)).2.2.1) (x:=(l.getD j (false,0,[],0,0)).2.2.2.1) (y:=(l.getD j (false,0,[],0,0)).2.2.2.2) (cn:=cn) (t:=t) (nu:=nu) hsz);have N1:=Hz (fun(hh: ¬zac ((l.getD j (false,0,[],0,0)).1,(l.getD j (false,0,[],0,0)).2.1,(l.getD j (false,0,[],0,0)).2.2.1,(l.getD j (false,0,[],0,0)).2.2.2.1,(l.getD j (false,0,[],0,0)).2.2.2.2) t nu=true)=>M1.out j hl2 hh)
       have N0:=Hz (fun(hh:zac ((l.getD j (false,0,[],0,0)).1,(l.getD j (false,0,[],0,0)).2.1,(l.getD j (false,0,[],0,0)).2.2.1,(l.getD j (false,0,[],0,0)).2.2.2.1,(l.getD j (false,0,[],0,0)).2.2.2.2) t nu=true)=>show∀i,i<j+1→zac (l.getD i (false,0,[],0,0)) t nu=true by
        intro i hi;rcases Nat.lt_succ_iff_lt_or_eq.1 hi with hi|rfl
        ·exact H2.out i hi
        ·exact hh)
       clear hxm hsz H2 E1 E2;generalize(l.getD j (false,0,[],0,0)).1=b at*;generalize(l.getD j (false,0,[],0,0)).2.1=n at*;generalize(l.getD j (false,0,[],0,0)).2.2.1=s at*;generalize(l.getD j (false,0,[],0,0)).2.2.2.1=px at*;generalize(l.getD j (false,0,[],0,0)).2.2.2.2=py at*;generalize zac (b,n,s,px,py) t nu=R at*
       have hiz3:(j:Int)<(l.length:Int):=by omega
       obtain⟨W3,hW3⟩:∃W,W=wr.alloc (.cells #[.bool b,.int .i64 n,.string (zae s),.int .i64 px,.int .i64 py] 61):=⟨_,rfl⟩
       have b3:New wr W3:=by rw[hW3];exact(Below.refl _ _).alloc (Nat.le_refl _) _
       have Y:Blk W3 wr.heap.size 61 #[.bool b,.int .i64 n,.string (zae s),.int .i64 px,.int .i64 py]:=by rw[hW3];exact Blk.new _ _ _
       have F1:=Hz (fun(W:World) (hW:New W3 W)=>zcm (Y.below hW Y.lt));have F2:=Hz (fun(W:World) (hW:New W3 W)=>zaf (B0.below (New.trans hb2 (New.trans b3 hW)) B0.lt))
       have hb3:(ad3.add (k*3)).block<wr.heap.size:=by rw[za1];exact hbk3
       have F3:=Hz (fun(W:World) (hW:New W3 W)=>(And.intro ((Below.cell (New.trans b3 hW) hb3).trans f0) (And.intro ((Below.cell (p:=⟨(ad3.add (k*3)).block,_,none⟩) (New.trans b3 hW) hb3).trans f1) ((Below.cell (p:=⟨(ad3.add (k*3)).block,_,none⟩) (New.trans b3 hW) hb3).trans f2))))
       go_wp2_with fail
       rw[←hW3];clear hW3
       refine zat New [(true,0),(true,1),(true,2),(true,3),(true,4),(true,5),(false,6),(true,7)]
        New.refl New.trans (by kernel_rfl) (by kernel_rfl) (by kernel_rfl) (by kernel_rfl) ?_
       have hU:=New.drew W3;have hV:=New.refl W3.drew
       repeat(first
        |(refine zba rfl rfl (fun K hK=>?_);go_simp
          (with_reducible refine(P.out _).mono ?_)
          rintro e w9 ⟨rfl,b9⟩;refine hK _ _ b9 ?_;clear hK;replace hU:=New.trans hU b9
          replace hV:=New.trans hV b9)
        |(refine za2 rfl rfl (v:=?_) (fun W hW=>?_) ?_;rotate_left;(obtain⟨p0,p1,p2,p3,p4⟩:=F1.out W (New.trans (New.drew W3) (New.trans hV hW));obtain⟨y0,y1,y2⟩:=F2.out W (New.trans (New.drew W3) (New.trans hV hW));obtain⟨z0,z1,z2⟩:=F3.out W (New.trans (New.drew W3) (New.trans hV hW));go_simp<;> with_reducible rfl);simp only[Act.put,List.setIfInBounds_toArray,List.set_cons_zero,List.set_cons_succ]))
       refine zc2 ?_;clear F1 F2 F3 f0 f1 f2 d0 d1 d2 d3 d4 P Y;have hb4:=New.trans hb2 (New.trans b3 hU)
       cases R with
       |true=>
        have N3:=Hz (N0.out rfl)
        go_wp2
        go_roundw
        case rel=>exact⟨j+1,by go_num,by omega,hb4,N3⟩
        case measure=>simp[intOf];omega
       |false=>
        have N3:=Hz (N1.out (by simp))
        go_wp2
        go_ret
        exact⟨by rw[N3.out];rfl,New.trans b0 hb4⟩
      ·obtain rfl:j=l.length:=by omega
       have M3:=Hz (M0.out H2.out)
       go_wp2
       go_roundw
       case rel=>exact⟨k+1,by go_num,by omega,hb2,M3⟩
       case measure=>simp[intOf];omega
    ·obtain rfl:k=D.length:=by omega
     have O1:=Hz (K6.out H.out)
     go_wp2
     go_ret
     exact⟨by rw[O1.out];rfl,New.trans b0 hb⟩
  ·have O1:=Hz (K22.out h3)
   have e1:(q2 != 0)=true:=by simpa using h3
   clear K22 K33 SL h3
   go_wp2
   go_ret
   exact⟨by rw[O1.out];rfl,New.trans b0 b12⟩
 ·have O1:=Hz (K1.out h2)
  have e1:(q1 != 0)=true:=by simpa using h2
  clear K1 K2 K3 h2
  go_wp2
  go_ret
  exact⟨by rw[O1.out];rfl,New.trans b0 b1⟩
end Go.Proofs.YtmgfkpnghlmheaaGreat
