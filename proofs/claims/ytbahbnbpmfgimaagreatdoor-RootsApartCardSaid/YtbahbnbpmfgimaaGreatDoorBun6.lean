/- Merged. -/
import Derived.BigQuiet
import Derived.Test.YtbahbnbpmfgimaaGreatDoorBun5
set_option maxHeartbeats 1000000
namespace Go.Hm
open Go Go.RowKit
def za3(n:Nat):Nat:=if n<2 then 0 else 2^(n-1).log2
theorem zqv{n:Nat}(h:2<=n):za3 n=2^(n-1).log2/\2^(n-1).log2<n/\n<=2^((n-1).log2+1):=by have h1:=Nat.log2_self_le (n:=n-1) (by omega);have h2:=Nat.lt_log2_self (n:=n-1);refine⟨by unfold za3;rw[if_neg (by omega)],by omega,by omega⟩
theorem zgz{n:Nat}(h:2<=n):1<=za3 n/\za3 n<n/\n-za3 n<=za3 n:=by obtain⟨h1,h2,h3⟩:=zqv h;rw[h1];rw[Nat.pow_succ] at h3;have:=Nat.pow_pos (n:=(n-1).log2) (show 0<2 by omega);omega
open Go Go.RowKit
theorem zn7(n:Nat):∀k,k<=64->n<18446744073709551616->(Lib.bitLen n<=k↔n<2^k):=by
 intro k hk hn;refine⟨fun h=>?_,fun h=>Lib.bitLen_le n k hk h⟩;induction k generalizing n with
 |zero=>
  by_cases h0:n=0
  ·omega
  ·have:=Lib.bitLen_half n h0 hn
   omega
 |succ k ih=>
  by_cases h0:n=0
  ·subst h0;exact Nat.two_pow_pos _
  ·have h1:=Lib.bitLen_half n h0 hn
   have h2:=ih (n/2) (by omega) (by omega) (by omega);rw[Nat.pow_succ];omega
theorem z1m{x:Nat}(h0:x≠0)(h:x<9223372036854775808):Lib.bitLen x=x.log2+1/\x.log2<63:=by
 have a1:=Nat.log2_self_le h0;have a2:=Nat.lt_log2_self (n:=x);have hl:x.log2<63:=(Nat.pow_lt_pow_iff_right (by omega:1<2)).1 (Nat.lt_of_le_of_lt a1 h);have b1:=(zn7 x (x.log2+1) (by omega) (by omega)).2 a2;have b2: ¬Lib.bitLen x<=x.log2:=fun hb=>by have:=(zn7 x x.log2 (by omega) (by omega)).1 hb;omega
 omega
end Go.Hm
namespace Go.Proofs.Y
open Go.RowKit Go.Hm
set_option maxRecDepth 100000 in
theorem qfc(x:Nat)(w:World)(h:x<=9223372036854775807):Calls Tryz.prog 103 #[.int .u64 (x:Int)] w (zdl (.int .i64 (Lib.bitLen x:Nat)) w):=by
 have L:=Hz (bits_Len64 (x:Int) w (by omega) (by omega));go_enter Tryz.func103,Tryz.ntmps103
 go_wp2_with (go_at_call 120;refine L.out.mono ?_;rintro e w' ⟨rfl,rfl⟩)
 go_ret
 exact⟨by simp,rfl⟩
set_option maxRecDepth 100000 in
theorem z4v(n:Int)(w:World)(h0: -9223372036854775808<=n)(h:n<=9223372036854775807):Calls Tryz.prog 72 #[.int .i64 n] w (zdl (.int .i64 (za3 n.toNat:Nat)) w):=by
 by_cases h2:n<2
 ·have hs:za3 n.toNat=0:=by unfold za3;exact if_pos (by omega)
  rw[hs];have d:decide (n<2)=true:=decide_eq_true h2;go_enter Tryz.func72,Tryz.ntmps72
  go_wp2
  go_ret
  exact⟨by simp,rfl⟩
 ·have d:decide (n<2)=false:=decide_eq_false h2
  obtain⟨m,rfl⟩:∃m:Nat,n=(m:Int):=⟨n.toNat,by omega⟩;obtain⟨s1,s2,s3⟩:=zqv (n:=m) (by omega);obtain⟨b1,b2⟩:=z1m (x:=m-1) (by omega) (by omega);have L:=qfc (m-1) w (by omega);rw[b1] at L;have L:=Hz L;have e1:(m:Int)-1=((m-1:Nat):Int):=by omega
  rw[Int.toNat_natCast,s1];have hp:2^(m-1).log2<9223372036854775808:=by omega
  generalize hk:(m-1).log2=k at*;obtain⟨p,hpp⟩:∃p,p=2^k:=⟨_,rfl⟩;have e2:((k+1:Nat):Int)-1=(k:Int):=by omega
  clear s1 s2 s3 b1 hk;go_enter Tryz.func72,Tryz.ntmps72
  go_wp2_with (go_at_call 103;refine L.out.mono ?_;rintro e w' ⟨rfl,rfl⟩)
  go_ret
  have c:(2:Int)^k=(p:Int):=by rw[hpp];simp
  have c2:wrap64 ((2:Int)^k)=((2^k:Nat):Int):=by rw[c,<-hpp];rw[<-hpp] at hp;unfold wrap64;omega
  exact⟨by rw[<-c2];rfl,rfl⟩
open Go.RowKit Go.Hm
set_option maxRecDepth 100000 in
theorem ze6{w:World}(x:Int)(n:Nat)(hx:U32 x)(hn:1<=n/\n<=31):
 Calls Tryz.prog 80 #[.int .u32 x,.int .i64 (n:Int)] w (DrewPost (.int .u32 (rot x n)) w):=by
 obtain⟨h1,h2⟩:=hn;have HO:=Hz (qhr hx h2);clear hx;go_enter Tryz.func80,Tryz.ntmps80
 go_wp2
 go_quiet (fail)
 go_wp2
 go_ret
 exact⟨by rw[<-HO.out];rfl,_,rfl⟩
end Go.Proofs.Y
set_option maxRecDepth 100000
namespace Go.Proofs.Y
open Go.RowKit Go.Hm Go.WideShapes Go.ChangeShapes
section
variable{H:Type}{enc:TypeId × Value->H}{W:World}{base:Nat}{v:Value}{d:DataW H}{ps:List MemPlace}
theorem qee(hval:Value.okWide Tryz.prog W .any base 24 v)(h:DataW.Trod enc Tryz.prog W 0 (fun _=>true) true 24 v d ps)(hlt:∀p∈ps,p.block<W.heap.size)(hw:∀n∈d.weights Tryz.prog 24,n<=reachBytes):
 ∃A c,∃l:List Nat,v= .slice A l.length c/\l.length<=c/\c<=140737488351232/\Reads W W.heap.size 1 A l.length (zao .u8 l)/\ ∀x∈l,x<256:=by
 obtain⟨A,c,l,h1,h2,_,h4,h5,h6⟩:=z5b (k:= .u8) (sz:=1) elB.ht (by kernel_rfl) (by kernel_rfl) rfl (by kernel_rfl) hval h hlt hw;exact⟨A,c,l,h1,h2,by unfold reachBytes at h4;omega,h5,fun x hx=>by have:=h6 x hx;simp[IntKind.max,IntKind.signed,IntKind.bits] at this;omega⟩
end
open Go.RowKit Go.Hm
def Cur(w:World)(g:Nat)(l:List Nat)(bad:Bool):Prop:=
 ∃A c,Blk w g 180 #[.slice A l.length c,.bool bad]/\l.length<=c/\c<=maxLen/\TR w 5 A l.length (zao .u8 l)/\(∀x∈l,x<256)/\(bad=true->l=[])
section
variable{w w':World}{g:Nat}{l:List Nat}{bad:Bool}
theorem Cur.lt(h:Cur w g l bad):g<w.heap.size:=by obtain⟨A,c,h1,_⟩:=h;exact h1.lt
theorem Cur.len(h:Cur w g l bad):l.length<=maxLen:=by obtain⟨A,c,_,h1,h2,_⟩:=h;omega
theorem Cur.below(h:Cur w g l bad)(hb:Below w.heap.size w w'):Cur w' g l bad:=by obtain⟨A,c,h1,h2,h3,h4,h5,h6⟩:=h;exact⟨A,c,h1.below hb h1.lt,h2,h3,h4.below hb,h5,h6⟩
theorem Cur.keep{g':Nat}{t:TypeId}{cs:Array Value}(h:Cur w g l bad)(hg:w.grownBy w' (some g'))(hT:Blk w g' t cs)(hne:g≠g')(ht:5≠t):Cur w' g l bad:=by obtain⟨A,c,h1,h2,h3,h4,h5,h6⟩:=h;exact⟨A,c,h1.grown hg (by simpa using hne),h2,h3,h4.keep hg hT ht,h5,h6⟩
theorem Cur.blk(h:Cur w g l bad):∃cs,Blk w g 180 cs:=by obtain⟨A,c,h1,_⟩:=h;exact⟨_,h1⟩
end
def zda(e0:Ending)(g:Nat)(l:List Nat)(bad:Bool)(w:World)(e:Ending)(w':World):Prop:=e=e0/\Cur w' g l bad/\w.grownBy w' (some g)
theorem zqk{w:World}{g i j:Nat}{x y:Value}:w.grownBy ((w.setCell ⟨g,i,none⟩ x).setCell ⟨g,j,none⟩ y) (some g):=
 ⟨rfl,rfl,rfl,by simp[World.setCell],fun k _ hne=>(Below.heap_setCell _ _ _ _ (by intro e;exact hne (by rw[e]))).trans (Below.heap_setCell _ _ _ _ (by intro e;exact hne (by rw[e])))⟩
theorem zb5{w:World}{g i:Nat}{x:Value}:w.grownBy (w.setCell ⟨g,i,none⟩ x) (some g):=
 ⟨rfl,rfl,rfl,by simp[World.setCell],fun k _ hne=>Below.heap_setCell _ _ _ _ (by intro e;exact hne (by rw[e]))⟩
theorem zhs{w:World}{g:Nat}{l:List Nat}{bad:Bool}(h:Cur w g l bad):
 Calls Tryz.prog 116 #[.pointer (some ⟨g,0,none⟩)] w (zda (.returned (.tuple #[])) g [] true w):=by
 obtain⟨A,c,h1,h2,h3,h4,h5,h6⟩:=h;have c0:=h1.cell 0;have c1:=h1.cell 1;have f0:=h1.frozen 0;have f1:=h1.frozen 1;simp at c0 c1;have H1:=Hz h1;clear h1;go_enter Tryz.func116,Tryz.ntmps116
 go_wp2
 go_end0
 refine⟨rfl,⟨none,0,?_,by simp,by simp[maxLen],TR.nil_,by simp,by simp⟩,zqk⟩;simpa using(H1.out.set_ 0 (.slice none 0 0)).set_ 1 (.bool true)
def zsk(l:List Nat)(w:World)(e:Ending)(w':World):Prop:=e= .returned (.int .i64 (l.length:Int))/\w=w'
def zsl(b:Bool)(w:World)(e:Ending)(w':World):Prop:=e= .returned (.bool b)/\w=w'
theorem qbc{w:World}{g:Nat}{l:List Nat}{bad:Bool}(h:Cur w g l bad):Calls Tryz.prog 168 #[.pointer (some ⟨g,0,none⟩)] w (zsk l w):=by
 obtain⟨A,c,h1,h2,h3,h4,h5,h6⟩:=h;have c0:=h1.cell 0;simp at c0;clear h1 h4 h5 h6;go_enter Tryz.func168,Tryz.ntmps168
 go_wp2
 go_ret
 exact⟨rfl,rfl⟩
theorem zj3{w:World}{g:Nat}{l:List Nat}{bad:Bool}(h:Cur w g l bad):Calls Tryz.prog 98 #[.pointer (some ⟨g,0,none⟩)] w (zsl bad w):=by
 obtain⟨A,c,h1,h2,h3,h4,h5,h6⟩:=h;have c1:=h1.cell 1;simp at c1;clear h1 h4 h5 h6;go_enter Tryz.func98,Tryz.ntmps98
 go_wp2
 go_ret
 exact⟨rfl,rfl⟩
theorem qf1{w:World}{g:Nat}{l:List Nat}{bad:Bool}(h:Cur w g l bad):Calls Tryz.prog 100 #[.pointer (some ⟨g,0,none⟩)] w (zsl (!bad&&l.isEmpty) w):=by
 obtain⟨A,c,h1,h2,h3,h4,h5,h6⟩:=h;have c0:=h1.cell 0;have c1:=h1.cell 1;simp at c0 c1;clear h1 h4 h5 h6;cases bad
 ·go_enter Tryz.func100,Tryz.ntmps100
  go_wp2
  go_ret
  refine⟨?_,rfl⟩;cases l<;> simp;omega
 ·go_enter Tryz.func100,Tryz.ntmps100
  go_wp2
  go_ret
  exact⟨rfl,rfl⟩
def zko(g:Nat)(l:List Nat)(n:Nat)(w:World)(e:Ending)(w':World):Prop:=
 ∃A c,e= .returned (.slice A n c)/\TR w' 5 A n (zao .u8 (l.take n))/\Cur w' g (l.drop n) false/\w.grownBy w' (some g)
theorem qbd{w:World}{g:Nat}{l:List Nat}{n c:Nat}{A A':Option Addr}(h1:Blk w g 180 #[.slice A l.length c,.bool false])(h2:l.length<=c)(h3:c<=maxLen)(h4:TR w 5 A l.length (zao .u8 l))(h5:∀x∈l,x<256)(hn:n<=l.length)
 (hA:A'=if c=n then A else A.map (·.add n)):zko g l n w (.returned (.slice A n c)) (w.setCell ⟨g,0,none⟩ (.slice A' (l.length-n) (c-n))):=by
 have hg:w.grownBy (w.setCell ⟨g,0,none⟩ (.slice A' (l.length-n) (c-n))) (some g):=zb5;have ht:=h4.take hn;rw[zen] at ht;have hc:=h4.cut hn h2;rw[zd6,<-hA] at hc;refine⟨A,c,rfl,ht.keep hg h1 (by decide),⟨A',c-n,?_,by rw[List.length_drop];omega,by omega,?_,fun x hx=>h5 x (List.mem_of_mem_drop hx),by simp⟩,hg⟩
 ·rw[List.length_drop]
  simpa using h1.set_ 0 (.slice A' (l.length-n) (c-n))
 ·rw[List.length_drop]
  exact hc.keep hg h1 (by decide)
theorem zkp{w:World}{g:Nat}{l:List Nat}{n:Nat}(h:Cur w g l false)(hn:n<=l.length):Calls Tryz.prog 135 #[.pointer (some ⟨g,0,none⟩),.int .i64 (n:Int)] w (zko g l n w):=by
 obtain⟨A,c,h1,h2,h3,h4,h5,_⟩:=h;have c0:=h1.cell 0;have c1:=h1.cell 1;have f0:=h1.frozen 0;simp at c0 c1;have F:=Hz (qbd (A':=if c=n then A else A.map (·.add n)) h1 h2 h3 h4 h5 hn rfl);clear h1 h4 h5;have h3':=h3;unfold maxLen at h3';by_cases hcn:c=n
 ·subst hcn
  go_enter Tryz.func135,Tryz.ntmps135
  go_wp2
  all_goals first|(exfalso;omega)|go_ret
  have F':=F.out;rw[show l.length-c=0 by omega,Nat.sub_self] at F';simpa using F'
 ·have Hcn:=Hz hcn
  clear hcn;go_enter Tryz.func135,Tryz.ntmps135
  go_wp2
  all_goals first|(exfalso;have:=Hcn.out;omega)|go_ret
  have F':=F.out;rw[if_neg Hcn.out] at F';exact F'
theorem zsm{w:World}{g:Nat}{l:List Nat}{bad:Bool}{n:Int}(h:Cur w g l bad)(hn:bad=true\/n<0\/(l.length:Int)<n)(h1: -9223372036854775808<=n)(h2:n<=9223372036854775807):
 Calls Tryz.prog 135 #[.pointer (some ⟨g,0,none⟩),.int .i64 n] w (zda (.returned (.slice none 0 0)) g [] true w):=by
 have hF:=zhs h;have HF:=Hz hF;clear hF;obtain⟨A,c,b1,_,_,_,_,_⟩:=h;have c0:=b1.cell 0;have c1:=b1.cell 1;simp at c0 c1;clear b1;cases bad
 ·by_cases hn0:n<0
  ·clear hn
   go_enter Tryz.func135,Tryz.ntmps135
   go_wp2_with (go_at_call 116;refine HF.out.mono ?_;rintro e w' ⟨rfl,k1,k2⟩)
   go_ret
   exact⟨rfl,k1,k2⟩
  ·have hn1:(l.length:Int)<n:=by rcases hn with hn|hn|hn<;> first|cases hn|omega
   clear hn;have hn0':0<=n:=by omega
   clear hn0;go_enter Tryz.func135,Tryz.ntmps135
   go_wp2_with (go_at_call 116;refine HF.out.mono ?_;rintro e w' ⟨rfl,k1,k2⟩)
   go_ret
   exact⟨rfl,k1,k2⟩
 ·clear hn
  go_enter Tryz.func135,Tryz.ntmps135
  go_wp2_with (go_at_call 116;refine HF.out.mono ?_;rintro e w' ⟨rfl,k1,k2⟩)
  go_ret
  exact⟨rfl,k1,k2⟩
def z54(l:List Nat)(w:World)(e:Ending)(w':World):Prop:=
 ∃A n c,e= .returned (.slice A n c)/\Own w' w.heap.size 5 (.slice A n c) (zao .u8 l)/\Below w.heap.size w w'
theorem zg4{w:World}{A:Option Addr}{n c:Nat}{l:List Nat}(h:Reads w w.heap.size 1 A n (zao .u8 l))(hl:n<=140737488355328):
 Calls Tryz.prog 42 #[.slice A n c] w (z54 l w):=by
 obtain rfl:=h.len;rcases A with _|ad
 ·have hl0:l.length=0:=by
   rcases Nat.eq_zero_or_pos l.length with h0|h0
   ·exact h0
   ·obtain⟨ad,h',_⟩:=h.2 h0
    cases h'
  obtain rfl:l=[]:=List.eq_nil_of_length_eq_zero hl0;have hq:=fun W:World=>Lib.run_eql_slice_nil (P:=Tryz.prog) W 24 5 none 0 c 0 0 elB.ht
  go_enter Tryz.func42,Tryz.ntmps42
  go_wp2
  go_ret
  exact⟨none,0,0,rfl,Own.nil_,Below.refl _ _⟩
 ·have hq:=fun W:World=>Lib.run_eql_slice_nil (P:=Tryz.prog) W 24 5 (some ad) l.length c 0 0 elB.ht
  go_enter Tryz.func42,Tryz.ntmps42
  go_wp2_with (first
   |(refine zam elB rfl (.tmp 5) (.tmp 6) rfl (W:=w) (B:=w.heap.size) (k:= .u8) (l:=[]) (l2:=l) (c2:=c) (Own.empty _ _) ((h.alloc (Nat.le_refl _) _).more (by simp)) rfl rfl ((Below.refl _ _).alloc (Nat.le_refl _) _) (Nat.le_refl _) (by simp) (by omega) (by simp only[maxLen];omega) ?_
     simp only[Nat.zero_add,List.nil_append];intro A' c' w' k1 k2 k3 k4 k5 k6))
  go_ret
  exact⟨A',_,c',rfl,k3,k5⟩
def qbe(l:List Nat)(w:World)(e:Ending)(w':World):Prop:=
 ∃g,e= .returned (.pointer (some ⟨g,0,none⟩))/\w.heap.size<=g/\Cur w' g l false/\Below w.heap.size w w'
theorem zsn{w:World}{A:Option Addr}{n c:Nat}{l:List Nat}(h:Reads w w.heap.size 1 A n (zao .u8 l))(hl:n<=140737488355328)(h8:∀x∈l,x<256):
 Calls Tryz.prog 94 #[.slice A n c] w (qbe l w):=by
 obtain rfl:=h.len;go_enter Tryz.func94,Tryz.ntmps94
 go_wp2_with (go_at_call 42;refine(zg4 h hl).mono ?_;rintro e w1 ⟨A',n',c',rfl,k1,k2⟩)
 go_ret
 have hc:=k1.cap;obtain rfl:n'=l.length:=by have:=k1.len;rwa[zaa] at this
 exact⟨_,rfl,k2.size,⟨A',c',Blk.new _ _ _,by omega,by omega,(TR.of_own k1).alloc _,h8,by simp⟩,k2.alloc k2.size _⟩
def qbf(g:Nat)(l:List Nat)(n:Nat)(w:World)(e:Ending)(w':World):Prop:=
 ∃A c,e= .returned (.slice A n c)/\Own w' w.heap.size 5 (.slice A n c) (zao .u8 (l.take n))/\Cur w' g (l.drop n) false/\w.grownBy w' (some g)
theorem zht{w w1 w2:World}{row:Option Nat}(h:w.grownBy w1 row)(hb:Below w1.heap.size w1 w2):w.grownBy w2 row:=
 ⟨hb.os.trans h.os,hb.tape.trans h.tape,hb.output.trans h.output,Nat.le_trans h.size hb.size,fun k hk hne=>(hb.block k (Nat.lt_of_lt_of_le hk h.size)).trans (h.block k hk hne)⟩
theorem z55{w:World}{g:Nat}{l:List Nat}{n:Nat}(h:Cur w g l false)(hn:n<=l.length)(hs:n<=140737488355328):
 Calls Tryz.prog 136 #[.pointer (some ⟨g,0,none⟩),.int .i64 (n:Int)] w (qbf g l n w):=by
 have hlt:(l.take n).length=n:=by rw[List.length_take];omega
 go_enter Tryz.func136,Tryz.ntmps136
 go_wp2_with (first
  |(go_at_call 135;refine(zkp h hn).mono ?_;rintro e w1 ⟨A',c',rfl,k1,k2,k3⟩
    have k4:=k1.1;have C:=Hz (zg4 (c:=c') k4 hs);have hg:=k3.size)
  |(go_at_call 42;refine C.out.mono ?_;rintro e w2 ⟨A2,n2,c2,rfl,k5,k6⟩))
 go_ret
 obtain rfl:n2=n:=by have:=k5.len;rwa[zaa,hlt] at this
 exact⟨A2,c2,rfl,k5.base_le hg,k2.below k6,zht k3 k6⟩
theorem qbg{w:World}{g:Nat}{l:List Nat}{bad:Bool}{n:Int}(h:Cur w g l bad)(hn:bad=true\/n<0\/(l.length:Int)<n)(h1: -9223372036854775808<=n)(h2:n<=9223372036854775807):
 Calls Tryz.prog 136 #[.pointer (some ⟨g,0,none⟩),.int .i64 n] w (zda (.returned (.slice none 0 0)) g [] true w):=by
 have HN:=Hz (zsm h hn h1 h2);clear hn h1 h2;have hq:=fun W:World=>Lib.run_eql_slice_nil (P:=Tryz.prog) W 24 5 none 0 0 0 0 elB.ht
 go_enter Tryz.func136,Tryz.ntmps136
 go_wp2_with (first
  |(go_at_call 135;refine HN.out.mono ?_;rintro e w1 ⟨rfl,k1,k2⟩)
  |(go_at_call 42;go_in))
 go_ret
 exact⟨rfl,k1,k2⟩
end Go.Proofs.Y
namespace Go.Hm
open Go Go.RowKit
abbrev zqm:zab:=(false,0,[],0,0)
def zim(s:List zab × List Nat)(c:zab):List zab × List Nat:=
 if c∈s.1 then(s.1,s.2++[s.1.idxOf c]) else(s.1++[c],s.2++[s.1.length])
def zh9(l:List zab):List zab × List Nat:=l.foldl zim ([],[])
theorem zin(l:List zab)(c:zab):zh9 (l++[c])=zim (zh9 l) c:=by simp[zh9]
def zio(s:Option Nat)(p:Nat):Option Nat:=
 match s with
 |none=>none
 |some k=>if k<p then none else if p=k then some (k+1) else some k
def qbu(l:List Nat):Option Nat:=l.foldl zio (some 0)
theorem zkv(l:List Nat)(p:Nat):qbu (l++[p])=zio (qbu l) p:=by simp[qbu]
theorem zkw{α:Type}{C:List α->Prop}(h0:C [])(h1:∀l x,C l->C (l++[x])):∀l,C l:=fun l=>by
 have:∀k,∀l:List α,l.length=k->C l:=by
  intro k;induction k with
  |zero=>intro l hl;rw[List.length_eq_zero_iff.1 hl];exact h0
  |succ k ih=>
   intro l hl;have hne:l≠ []:=by intro e;subst e;simp at hl
   rw[<-List.dropLast_concat_getLast hne];exact h1 _ _ (ih _ (by simp[hl]))
 exact this _ l rfl
theorem zxm:∀(l:List Nat) (m:Nat),qbu l=some m-> ∀p∈l,p<m:=by
 refine zkw ?_ ?_
 ·intro m _ p hp;simp at hp
 ·intro l x ih m h p hp
  rw[zkv] at h;cases hl:qbu l with
  |none=>rw[hl] at h;simp[zio] at h
  |some j=>
   rw[hl] at h;have hi:=ih j hl;unfold zio at h;dsimp only at h;split at h
   ·cases h
   ·split at h
    all_goals
     injection h with h;rcases List.mem_append.1 hp with hp|hp
     ·have:=hi p hp;omega
     ·rw[List.mem_singleton.1 hp];omega
structure IsEnt(l E:List zab)(P:List Nat):Prop where
 nodup:E.Nodup
 map:P.map (fun p=>E.getD p zqm)=l
 ord:qbu P=some E.length
theorem IsEnt.lt{l E:List zab}{P:List Nat}(h:IsEnt l E P):∀p∈P,p<E.length:=zxm P _ h.ord
theorem IsEnt.len{l E:List zab}{P:List Nat}(h:IsEnt l E P):P.length=l.length:=by rw[<-h.map,List.length_map]
theorem zuu{α:Type}{E:List α}{c d:α}{p:Nat}(h:p<E.length):(E++[c]).getD p d=E.getD p d:=by rw[List.getD_eq_getElem?_getD,List.getD_eq_getElem?_getD,List.getElem?_append_left h]
theorem zox:∀l,IsEnt l (zh9 l).1 (zh9 l).2:=by
 refine zkw ?_ ?_
 ·exact⟨by simp[zh9],by simp[zh9],by simp[zh9,qbu]⟩
 ·intro l c h
  rw[zin];obtain⟨h1,h2,h3⟩:=h;have hlt:=zxm _ _ h3;generalize zh9 l=s at*;obtain⟨E,P⟩:=s;dsimp only at h1 h2 h3 hlt;unfold zim;dsimp only;split
  ·rename_i hc
   have hi:E.idxOf c<E.length:=List.idxOf_lt_length_iff.2 hc;refine⟨h1,?_,?_⟩
   ·rw[List.map_append,h2]
    congr 1
    simp only[List.map_cons,List.map_nil];rw[List.getD_eq_getElem?_getD,List.getElem?_eq_getElem hi,List.getElem_idxOf hi];rfl
   ·rw[zkv,h3]
    unfold zio;dsimp only;rw[if_neg (by omega),if_neg (by omega)]
  ·rename_i hc
   refine⟨?_,?_,?_⟩
   ·rw[List.nodup_append]
    refine⟨h1,by simp,?_⟩;intro a ha b hb e;rw[List.mem_singleton.1 hb] at e;exact hc (e▸ha)
   ·rw[List.map_append]
    congr 1
    ·rw[<-h2]
     exact List.map_congr_left fun p hp=>zuu (hlt p hp)
    ·simp
   ·rw[zkv,h3]
    unfold zio;dsimp only;rw[if_neg (by omega),if_pos rfl];simp
theorem z2c{E:List zab}(h:E.Nodup){p:Nat}(hp:p<E.length):E.idxOf (E.getD p zqm)=p:=by
 rw[List.getD_eq_getElem?_getD,List.getElem?_eq_getElem hp,Option.getD_some];have hi:E.idxOf E[p]<E.length:=List.idxOf_lt_length_iff.2 (List.getElem_mem hp);have:=List.getElem_idxOf hi;have hp':=List.pairwise_iff_getElem.1 h;rcases Nat.lt_trichotomy (E.idxOf E[p]) p with hlt|heq|hgt
 ·exact absurd this (hp' _ _ hi hp hlt)
 ·exact heq
 ·exact absurd this.symm (hp' _ _ hp hi hgt)
theorem IsEnt.uniq:∀{l E:List zab} {P:List Nat},IsEnt l E P->zh9 l=(E,P):=by
 have key:∀P:List Nat,∀l E,IsEnt l E P->zh9 l=(E,P):=by
  refine zkw ?_ ?_
  ·intro l E h
   have h1:=h.map;have h2:=h.ord;simp only[List.map_nil] at h1;subst h1;simp[qbu] at h2;have:E=[]:=List.length_eq_zero_iff.1 (by omega);subst this;rfl
  ·intro P p ih l E h
   obtain⟨h1,h2,h3⟩:=h;rw[List.map_append] at h2;simp only[List.map_cons,List.map_nil] at h2;rw[zkv] at h3;subst h2;cases hk:qbu P with
   |none=>rw[hk] at h3;simp[zio] at h3
   |some k=>
    rw[hk] at h3;have hlt:=zxm _ _ hk;unfold zio at h3;dsimp only at h3;rw[zin];split at h3
    ·cases h3
    ·split at h3
     ·rename_i hpk
      injection h3 with h3;subst hpk;have e1:E=E.take p++[E.getD p zqm]:=by
       have hp:p<E.length:=by omega
       conv=>lhs;rw[<-List.take_append_drop p E,List.drop_eq_getElem_cons hp,List.drop_of_length_le (by omega)]
       rw[List.getD_eq_getElem?_getD,List.getElem?_eq_getElem hp];rfl
      have hl:(E.take p).length=p:=by rw[List.length_take];omega
      have hm:(P.map fun p=>E.getD p zqm)=P.map fun q=>(E.take p).getD q zqm:=by
       refine List.map_congr_left fun q hq=>?_
       have:=hlt q hq;conv=>lhs;rw[e1]
       exact zuu (by omega)
      have hi:=ih (P.map fun p=>E.getD p zqm) (E.take p) ⟨h1.sublist (List.take_sublist _ _),hm.symm,by rw[hk,hl]⟩;rw[hi];have hn:E.getD p zqm∉E.take p:=by rw[e1,List.nodup_append] at h1;intro hm;exact h1.2.2 _ hm _ (by simp) rfl
      unfold zim;dsimp only;rw[if_neg hn,hl,<-e1]
     ·rename_i h4 h5
      injection h3 with h3;have hp:p<E.length:=by omega
      have hi:=ih (P.map fun p=>E.getD p zqm) E ⟨h1,rfl,by rw[hk,h3]⟩;rw[hi];have hm:E.getD p zqm∈E:=by rw[List.getD_eq_getElem?_getD,List.getElem?_eq_getElem hp];exact List.getElem_mem hp
      unfold zim;dsimp only;rw[if_pos hm,z2c h1 hp]
 intro l E P h;exact key P l E h
theorem zsu:∀l:List zab,∀c,c∈(zh9 l).1↔c∈l:=by
 refine zkw ?_ ?_
 ·intro c;simp[zh9]
 ·intro l x ih c
  rw[zin];unfold zim;split
  ·rename_i hx
   have:=(ih x).1 hx;rw[ih c,List.mem_append,List.mem_singleton];constructor
   ·exact fun h=> .inl h
   ·rintro(h|rfl)
    ·exact h
    ·exact this
  ·dsimp only
   rw[List.mem_append,List.mem_append,ih c]
theorem zsv:∀l:List zab,(zh9 l).1.length<=l.length:=by
 refine zkw ?_ ?_
 ·simp[zh9]
 ·intro l x ih
  rw[zin];unfold zim;split
  ·simp;omega
  ·simp;omega
end Go.Hm
