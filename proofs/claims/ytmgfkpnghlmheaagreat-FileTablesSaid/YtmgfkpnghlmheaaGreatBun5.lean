/- Merged. -/
import Derived.BigQuiet
import Derived.Test.YtmgfkpnghlmheaaGreatBun4
set_option maxHeartbeats 2000000
namespace Go.Proofs.Y
open Go.RowKit Go.Hm
def Cur(w:World)(g:Nat)(l:List Nat)(bad:Bool):Prop:=
 ∃A c,Blk w g 154 #[.slice A l.length c,.bool bad]/\l.length<=c/\c<=maxLen/\TR w 5 A l.length (za3 .u8 l)/\(∀x∈l,x<256)/\(bad=true->l=[])
section
variable{w w':World}{g:Nat}{l:List Nat}{bad:Bool}
theorem Cur.lt(h:Cur w g l bad):g<w.heap.size:=by obtain⟨A,c,h1,_⟩:=h;exact h1.lt
theorem Cur.len(h:Cur w g l bad):l.length<=maxLen:=by obtain⟨A,c,_,h1,h2,_⟩:=h;omega
theorem Cur.below(h:Cur w g l bad)(hb:Below w.heap.size w w'):Cur w' g l bad:=by obtain⟨A,c,h1,h2,h3,h4,h5,h6⟩:=h;exact⟨A,c,h1.below hb h1.lt,h2,h3,h4.below hb,h5,h6⟩
theorem Cur.keep{g':Nat}{t:TypeId}{cs:Array Value}(h:Cur w g l bad)(hg:w.grownBy w' (some g'))(hT:Blk w g' t cs)(hne:g≠g')(ht:5≠t):Cur w' g l bad:=by obtain⟨A,c,h1,h2,h3,h4,h5,h6⟩:=h;exact⟨A,c,h1.grown hg (by simpa using hne),h2,h3,h4.keep hg hT ht,h5,h6⟩
theorem Cur.blk(h:Cur w g l bad):∃cs,Blk w g 154 cs:=by obtain⟨A,c,h1,_⟩:=h;exact⟨_,h1⟩
end
def zdd(e0:Ending)(g:Nat)(l:List Nat)(bad:Bool)(w:World)(e:Ending)(w':World):Prop:=e=e0/\Cur w' g l bad/\w.grownBy w' (some g)
theorem zjn{w:World}{g i j:Nat}{x y:Value}:w.grownBy ((w.setCell ⟨g,i,none⟩ x).setCell ⟨g,j,none⟩ y) (some g):=
 ⟨rfl,rfl,rfl,by simp[World.setCell],fun k _ hne=>(Below.heap_setCell _ _ _ _ (by intro e;exact hne (by rw[e]))).trans (Below.heap_setCell _ _ _ _ (by intro e;exact hne (by rw[e])))⟩
theorem zb6{w:World}{g i:Nat}{x:Value}:w.grownBy (w.setCell ⟨g,i,none⟩ x) (some g):=
 ⟨rfl,rfl,rfl,by simp[World.setCell],fun k _ hne=>Below.heap_setCell _ _ _ _ (by intro e;exact hne (by rw[e]))⟩
theorem zhk{w:World}{g:Nat}{l:List Nat}{bad:Bool}(h:Cur w g l bad):
 Calls Tryz.prog 110 #[.pointer (some ⟨g,0,none⟩)] w (zdd (.returned (.tuple #[])) g [] true w):=by
 obtain⟨A,c,h1,h2,h3,h4,h5,h6⟩:=h;have c0:=h1.cell 0;have c1:=h1.cell 1;have f0:=h1.frozen 0;have f1:=h1.frozen 1;simp at c0 c1;have H1:=Hz h1;clear h1;go_enter Tryz.func110,Tryz.ntmps110
 go_wp2
 go_end0
 refine⟨rfl,⟨none,0,?_,by simp,by simp[maxLen],TR.nil_,by simp,by simp⟩,zjn⟩;simpa using(H1.out.set_ 0 (.slice none 0 0)).set_ 1 (.bool true)
def ze9(l:List Nat)(w:World)(e:Ending)(w':World):Prop:=e= .returned (.int .i64 (l.length:Int))/\w=w'
def zr9(b:Bool)(w:World)(e:Ending)(w':World):Prop:=e= .returned (.bool b)/\w=w'
theorem z9q{w:World}{g:Nat}{l:List Nat}{bad:Bool}(h:Cur w g l bad):Calls Tryz.prog 126 #[.pointer (some ⟨g,0,none⟩)] w (ze9 l w):=by
 obtain⟨A,c,h1,h2,h3,h4,h5,h6⟩:=h;have c0:=h1.cell 0;simp at c0;clear h1 h4 h5 h6;go_enter Tryz.func126,Tryz.ntmps126
 go_wp2
 go_ret
 exact⟨rfl,rfl⟩
theorem zjv{w:World}{g:Nat}{l:List Nat}{bad:Bool}(h:Cur w g l bad):Calls Tryz.prog 80 #[.pointer (some ⟨g,0,none⟩)] w (zr9 bad w):=by
 obtain⟨A,c,h1,h2,h3,h4,h5,h6⟩:=h;have c1:=h1.cell 1;simp at c1;clear h1 h4 h5 h6;go_enter Tryz.func80,Tryz.ntmps80
 go_wp2
 go_ret
 exact⟨rfl,rfl⟩
theorem qek{w:World}{g:Nat}{l:List Nat}{bad:Bool}(h:Cur w g l bad):Calls Tryz.prog 82 #[.pointer (some ⟨g,0,none⟩)] w (zr9 (!bad&&l.isEmpty) w):=by
 obtain⟨A,c,h1,h2,h3,h4,h5,h6⟩:=h;have c0:=h1.cell 0;have c1:=h1.cell 1;simp at c0 c1;clear h1 h4 h5 h6;cases bad
 ·go_enter Tryz.func82,Tryz.ntmps82
  go_wp2
  go_ret
  refine⟨?_,rfl⟩;cases l<;> simp;omega
 ·go_enter Tryz.func82,Tryz.ntmps82
  go_wp2
  go_ret
  exact⟨rfl,rfl⟩
def zkg(g:Nat)(l:List Nat)(n:Nat)(w:World)(e:Ending)(w':World):Prop:=
 ∃A c,e= .returned (.slice A n c)/\TR w' 5 A n (za3 .u8 (l.take n))/\Cur w' g (l.drop n) false/\w.grownBy w' (some g)
theorem z9r{w:World}{g:Nat}{l:List Nat}{n c:Nat}{A A':Option Addr}(h1:Blk w g 154 #[.slice A l.length c,.bool false])(h2:l.length<=c)(h3:c<=maxLen)(h4:TR w 5 A l.length (za3 .u8 l))(h5:∀x∈l,x<256)(hn:n<=l.length)
 (hA:A'=if c=n then A else A.map (·.add n)):zkg g l n w (.returned (.slice A n c)) (w.setCell ⟨g,0,none⟩ (.slice A' (l.length-n) (c-n))):=by
 have hg:w.grownBy (w.setCell ⟨g,0,none⟩ (.slice A' (l.length-n) (c-n))) (some g):=zb6;have ht:=h4.take hn;rw[zfp] at ht;have hc:=h4.cut hn h2;rw[zey,<-hA] at hc;refine⟨A,c,rfl,ht.keep hg h1 (by decide),⟨A',c-n,?_,by rw[List.length_drop];omega,by omega,?_,fun x hx=>h5 x (List.mem_of_mem_drop hx),by simp⟩,hg⟩
 ·rw[List.length_drop]
  simpa using h1.set_ 0 (.slice A' (l.length-n) (c-n))
 ·rw[List.length_drop]
  exact hc.keep hg h1 (by decide)
theorem zkh{w:World}{g:Nat}{l:List Nat}{n:Nat}(h:Cur w g l false)(hn:n<=l.length):Calls Tryz.prog 148 #[.pointer (some ⟨g,0,none⟩),.int .i64 (n:Int)] w (zkg g l n w):=by
 obtain⟨A,c,h1,h2,h3,h4,h5,_⟩:=h;have c0:=h1.cell 0;have c1:=h1.cell 1;have f0:=h1.frozen 0;simp at c0 c1;have F:=Hz (z9r (A':=if c=n then A else A.map (·.add n)) h1 h2 h3 h4 h5 hn rfl);clear h1 h4 h5;have h3':=h3;unfold maxLen at h3';by_cases hcn:c=n
 ·subst hcn
  go_enter Tryz.func148,Tryz.ntmps148
  go_wp2
  all_goals first|(exfalso;omega)|go_ret
  have F':=F.out;rw[show l.length-c=0 by omega,Nat.sub_self] at F';simpa using F'
 ·have Hcn:=Hz hcn
  clear hcn;go_enter Tryz.func148,Tryz.ntmps148
  go_wp2
  all_goals first|(exfalso;have:=Hcn.out;omega)|go_ret
  have F':=F.out;rw[if_neg Hcn.out] at F';exact F'
theorem zsa{w:World}{g:Nat}{l:List Nat}{bad:Bool}{n:Int}(h:Cur w g l bad)(hn:bad=true\/n<0\/(l.length:Int)<n)(h1: -9223372036854775808<=n)(h2:n<=9223372036854775807):
 Calls Tryz.prog 148 #[.pointer (some ⟨g,0,none⟩),.int .i64 n] w (zdd (.returned (.slice none 0 0)) g [] true w):=by
 have hF:=zhk h;have HF:=Hz hF;clear hF;obtain⟨A,c,b1,_,_,_,_,_⟩:=h;have c0:=b1.cell 0;have c1:=b1.cell 1;simp at c0 c1;clear b1;cases bad
 ·by_cases hn0:n<0
  ·clear hn
   go_enter Tryz.func148,Tryz.ntmps148
   go_wp2_with (go_at_call 110;refine HF.out.mono ?_;rintro e w' ⟨rfl,k1,k2⟩)
   go_ret
   exact⟨rfl,k1,k2⟩
  ·have hn1:(l.length:Int)<n:=by rcases hn with hn|hn|hn<;> first|cases hn|omega
   clear hn;have hn0':0<=n:=by omega
   clear hn0;go_enter Tryz.func148,Tryz.ntmps148
   go_wp2_with (go_at_call 110;refine HF.out.mono ?_;rintro e w' ⟨rfl,k1,k2⟩)
   go_ret
   exact⟨rfl,k1,k2⟩
 ·clear hn
  go_enter Tryz.func148,Tryz.ntmps148
  go_wp2_with (go_at_call 110;refine HF.out.mono ?_;rintro e w' ⟨rfl,k1,k2⟩)
  go_ret
  exact⟨rfl,k1,k2⟩
def z3z(l:List Nat)(w:World)(e:Ending)(w':World):Prop:=
 ∃A n c,e= .returned (.slice A n c)/\Own w' w.heap.size 5 (.slice A n c) (za3 .u8 l)/\Below w.heap.size w w'
theorem zgu{w:World}{A:Option Addr}{n c:Nat}{l:List Nat}(h:Reads w w.heap.size 1 A n (za3 .u8 l))(hl:n<=140737488355328):
 Calls Tryz.prog 42 #[.slice A n c] w (z3z l w):=by
 obtain rfl:=h.len;rcases A with _|ad
 ·have hl0:l.length=0:=by
   rcases Nat.eq_zero_or_pos l.length with h0|h0
   ·exact h0
   ·obtain⟨ad,h',_⟩:=h.2 h0
    cases h'
  obtain rfl:l=[]:=List.eq_nil_of_length_eq_zero hl0;have hq:=fun W:World=>Lib.run_eql_slice_nil (P:=Tryz.prog) W 31 5 none 0 c 0 0 elB.ht
  go_enter Tryz.func42,Tryz.ntmps42
  go_wp2
  go_ret
  exact⟨none,0,0,rfl,Own.nil_,Below.refl _ _⟩
 ·have hq:=fun W:World=>Lib.run_eql_slice_nil (P:=Tryz.prog) W 31 5 (some ad) l.length c 0 0 elB.ht
  go_enter Tryz.func42,Tryz.ntmps42
  go_wp2_with (first
   |(refine zas elB rfl (.tmp 5) (.tmp 6) rfl (W:=w) (B:=w.heap.size) (k:= .u8) (l:=[]) (l2:=l) (c2:=c) (Own.empty _ _) ((h.alloc (Nat.le_refl _) _).more (by simp)) rfl rfl ((Below.refl _ _).alloc (Nat.le_refl _) _) (Nat.le_refl _) (by simp) (by omega) (by simp only[maxLen];omega) ?_
     simp only[Nat.zero_add,List.nil_append];intro A' c' w' k1 k2 k3 k4 k5 k6))
  go_ret
  exact⟨A',_,c',rfl,k3,k5⟩
def z9s(l:List Nat)(w:World)(e:Ending)(w':World):Prop:=
 ∃g,e= .returned (.pointer (some ⟨g,0,none⟩))/\w.heap.size<=g/\Cur w' g l false/\Below w.heap.size w w'
theorem zfa{w:World}{A:Option Addr}{n c:Nat}{l:List Nat}(h:Reads w w.heap.size 1 A n (za3 .u8 l))(hl:n<=140737488355328)(h8:∀x∈l,x<256):
 Calls Tryz.prog 76 #[.slice A n c] w (z9s l w):=by
 obtain rfl:=h.len;go_enter Tryz.func76,Tryz.ntmps76
 go_wp2_with (go_at_call 42;refine(zgu h hl).mono ?_;rintro e w1 ⟨A',n',c',rfl,k1,k2⟩)
 go_ret
 have hc:=k1.cap;obtain rfl:n'=l.length:=by have:=k1.len;rwa[zaa] at this
 exact⟨_,rfl,k2.size,⟨A',c',Blk.new _ _ _,by omega,by omega,(TR.of_own k1).alloc _,h8,by simp⟩,k2.alloc k2.size _⟩
def z9t(g:Nat)(l:List Nat)(n:Nat)(w:World)(e:Ending)(w':World):Prop:=
 ∃A c,e= .returned (.slice A n c)/\Own w' w.heap.size 5 (.slice A n c) (za3 .u8 (l.take n))/\Cur w' g (l.drop n) false/\w.grownBy w' (some g)
theorem zhl{w w1 w2:World}{row:Option Nat}(h:w.grownBy w1 row)(hb:Below w1.heap.size w1 w2):w.grownBy w2 row:=
 ⟨hb.os.trans h.os,hb.tape.trans h.tape,hb.output.trans h.output,Nat.le_trans h.size hb.size,fun k hk hne=>(hb.block k (Nat.lt_of_lt_of_le hk h.size)).trans (h.block k hk hne)⟩
theorem z30{w:World}{g:Nat}{l:List Nat}{n:Nat}(h:Cur w g l false)(hn:n<=l.length)(hs:n<=140737488355328):
 Calls Tryz.prog 123 #[.pointer (some ⟨g,0,none⟩),.int .i64 (n:Int)] w (z9t g l n w):=by
 have hlt:(l.take n).length=n:=by rw[List.length_take];omega
 go_enter Tryz.func123,Tryz.ntmps123
 go_wp2_with (first
  |(go_at_call 148;refine(zkh h hn).mono ?_;rintro e w1 ⟨A',c',rfl,k1,k2,k3⟩
    have k4:=k1.1;have C:=Hz (zgu (c:=c') k4 hs);have hg:=k3.size)
  |(go_at_call 42;refine C.out.mono ?_;rintro e w2 ⟨A2,n2,c2,rfl,k5,k6⟩))
 go_ret
 obtain rfl:n2=n:=by have:=k5.len;rwa[zaa,hlt] at this
 exact⟨A2,c2,rfl,k5.base_le hg,k2.below k6,zhl k3 k6⟩
theorem z9u{w:World}{g:Nat}{l:List Nat}{bad:Bool}{n:Int}(h:Cur w g l bad)(hn:bad=true\/n<0\/(l.length:Int)<n)(h1: -9223372036854775808<=n)(h2:n<=9223372036854775807):
 Calls Tryz.prog 123 #[.pointer (some ⟨g,0,none⟩),.int .i64 n] w (zdd (.returned (.slice none 0 0)) g [] true w):=by
 have HN:=Hz (zsa h hn h1 h2);clear hn h1 h2;have hq:=fun W:World=>Lib.run_eql_slice_nil (P:=Tryz.prog) W 31 5 none 0 0 0 0 elB.ht
 go_enter Tryz.func123,Tryz.ntmps123
 go_wp2_with (first
  |(go_at_call 148;refine HN.out.mono ?_;rintro e w1 ⟨rfl,k1,k2⟩)
  |(go_at_call 42;go_in))
 go_ret
 exact⟨rfl,k1,k2⟩
end Go.Proofs.Y
namespace Go.Hm
def ul(w p k B n:Nat):List Nat:=zp7 w p B++(B/2^(w*p)%2^k)::List.replicate (n-p-1) 0
theorem qex(w p B n:Nat)(h:p<n):zp7 w p B++List.replicate (n-p) 0=ul w p 0 B n:=by rw[ul,show n-p=(n-p-1)+1 by omega,List.replicate_succ,Nat.pow_zero,Nat.mod_one];rfl
theorem qgx(w p B n:Nat):ul w p w B n=zp7 w (p+1) B++List.replicate (n-(p+1)) 0:=by rw[ul,zp7,List.append_assoc,show n-p-1=n-(p+1) by omega];rfl
theorem qey(w p k B n:Nat):(ul w p k B n).getD p 0=B/2^(w*p)%2^k:=by rw[ul,List.getD_eq_getElem?_getD,List.getElem?_append_right (by rw[zd6];exact Nat.le_refl _),zd6];simp
theorem qez(w p k B n a t:Nat)(ha:a=w*p+k)(ht:t=B/2^a%2):(ul w p k B n).set p (B/2^(w*p)%2^k+t*2^k)=ul w p (k+1) B n:=by
 have e:B/2^(w*p)%2^(k+1)=B/2^(w*p)%2^k+t*2^k:=by rw[zmc,Nat.div_div_eq_div_mul,<-Nat.pow_add,<-ha,<-ht,Nat.mul_comm t]
 rw[ul,ul,e,List.set_append_right _ _ (by rw[zd6];exact Nat.le_refl _),zd6,Nat.sub_self];rfl
theorem qgy(b:List Nat)(h:∀x∈b,x<256)(a q r:Nat)(hq:q=a/8/\r=a%8)(ha:a<8*b.length):b.getD q 0/2^r%2=num b/2^a%2:=by
 obtain⟨rfl,rfl⟩:=hq;rw[zyq b h _ (by omega)];have e:(256:Nat)=2^(a%8)*2^(8-a%8):=by rw[<-Nat.pow_add,show a%8+(8-a%8)=8 by omega]
 have e2:2^(8-a%8)=2*2^(7-a%8):=by rw[<-Nat.pow_succ'];congr 1;omega
 rw[show num b/256^(a/8)%256=num b/256^(a/8)%(2^(a%8)*2^(8-a%8)) by rw[<-e],Nat.mod_mul_right_div_self,e2,Nat.mod_mul_right_mod,Nat.div_div_eq_div_mul,qet,<-Nat.pow_add];congr 3
 omega
theorem zyr(b:List Nat)(h:∀x∈b,x<256)(M r:Nat)(hl:b.length=(M+7)/8)(hr:r=M%8):num b<2^M↔(r=0\/b.getD (b.length-1) 0/2^r=0):=by
 have hb:=zqn b h;by_cases h0:r=0
 ·have:M=8*b.length:=by omega
  rw[qet,<-this] at hb;simp[h0,hb]
 ·have hl2:b.length-1<b.length:=by omega
  have hM:M=8*(b.length-1)+r:=by omega
  have e:=zyq b h _ hl2;have hlt:num b/256^(b.length-1)<256:=by apply Nat.div_lt_of_lt_mul;rw[<-Nat.pow_succ,show(b.length-1).succ=b.length by omega];exact hb
  rw[Nat.mod_eq_of_lt hlt] at e;rw[e,hM,Nat.pow_add,<-qet];constructor
  ·intro hh
   exact .inr (Nat.div_eq_of_lt (Nat.div_lt_of_lt_mul hh))
  ·rintro(hh|hh)
   ·exact absurd hh h0
   ·have h1:num b/256^(b.length-1)<2^r:=by
     rcases Nat.lt_or_ge (num b/256^(b.length-1)) (2^r) with h2|h2
     ·exact h2
     ·have:=Nat.div_pos h2 (Nat.two_pow_pos r)
      omega
    rw[Nat.mul_comm];exact(Nat.div_lt_iff_lt_mul (Nat.pow_pos (by omega))).1 h1
theorem z94(v k t:Nat)(hv:v<2^k)(ht:t<=1)(hk:k<64):bits .or .u64 (v:Int) (IntKind.u64.wrap ((t:Int)*2^k))=((v+t*2^k:Nat):Int):=by
 have h7:2^(k+1)<=2^64:=Nat.pow_le_pow_right (by omega) (by omega);rw[Nat.pow_succ] at h7;have hq:t*2^k<=1*2^k:=Nat.mul_le_mul_right _ ht;have e:IntKind.u64.wrap ((t:Int)*2^k)=((t*2^k:Nat):Int):=by
  have e2:((t*2^k:Nat):Int)=(t:Int)*2^k:=by simp
  rw[<-e2,IntKind.wrap_u64];omega
 rw[e,u64_or_nat _ _ (by omega) (by omega),Nat.or_comm,<-Nat.mul_comm (2^k),<-Nat.two_pow_add_eq_or_of_lt hv,Nat.add_comm]
theorem z95(y r t:Nat)(hy:y<256)(ht:t=y/2^r%2):bits .and .u8 ((y:Int)/2^r) 1=(t:Int):=by have h1:y/2^r<=y:=Nat.div_le_self _ _;have:=u8_and_nat (y/2^r) 1 (by omega) (by omega);rw[Nat.and_one_is_mod,<-ht] at this;rw[<-this];congr 1
open Go Go.RowKit
abbrev zfs:zab:=(false,0,[],0,0)
def zft(s:List zab × List Nat)(c:zab):List zab × List Nat:=
 if c∈s.1 then(s.1,s.2++[s.1.idxOf c]) else(s.1++[c],s.2++[s.1.length])
def ze7(l:List zab):List zab × List Nat:=l.foldl zft ([],[])
theorem zfu(l:List zab)(c:zab):ze7 (l++[c])=zft (ze7 l) c:=by simp[ze7]
def zei(s:Option Nat)(p:Nat):Option Nat:=
 match s with
 |none=>none
 |some k=>if k<p then none else if p=k then some (k+1) else some k
def ordL(l:List Nat):Option Nat:=l.foldl zei (some 0)
theorem ze0(l:List Nat)(p:Nat):ordL (l++[p])=zei (ordL l) p:=by simp[ordL]
theorem zgc{α:Type}{C:List α->Prop}(h0:C [])(h1:∀l x,C l->C (l++[x])):∀l,C l:=fun l=>by
 have:∀k,∀l:List α,l.length=k->C l:=by
  intro k;induction k with
  |zero=>intro l hl;rw[List.length_eq_zero_iff.1 hl];exact h0
  |succ k ih=>
   intro l hl;have hne:l≠ []:=by intro e;subst e;simp at hl
   rw[<-List.dropLast_concat_getLast hne];exact h1 _ _ (ih _ (by simp[hl]))
 exact this _ l rfl
theorem z4o{l:List Nat}{m:Nat}(h:ordL l=some m)(k:Nat):∃j,ordL (l.take k)=some j:=by
 have key:∀l:List Nat,∀m,ordL l=some m-> ∀k,∃j,ordL (l.take k)=some j:=by
  refine zgc ?_ ?_
  ·intro m h k;exact⟨m,by simpa using h⟩
  ·intro l x ih m h k
   by_cases hk:k<=l.length
   ·rw[List.take_append_of_le_length hk]
    rw[ze0] at h;cases hl:ordL l with
    |none=>rw[hl] at h;simp[zei] at h
    |some j=>exact ih j hl k
   ·rw[List.take_of_length_le (by simp;omega)]
    exact⟨m,h⟩
 exact key l m h k
theorem zsg:∀(l:List Nat) (m:Nat),ordL l=some m-> ∀p∈l,p<m:=by
 refine zgc ?_ ?_
 ·intro m _ p hp;simp at hp
 ·intro l x ih m h p hp
  rw[ze0] at h;cases hl:ordL l with
  |none=>rw[hl] at h;simp[zei] at h
  |some j=>
   rw[hl] at h;have hi:=ih j hl;unfold zei at h;dsimp only at h;split at h
   ·cases h
   ·split at h
    all_goals
     injection h with h;rcases List.mem_append.1 hp with hp|hp
     ·have:=hi p hp;omega
     ·rw[List.mem_singleton.1 hp];omega
structure IsEnt(l E:List zab)(P:List Nat):Prop where
 nodup:E.Nodup
 map:P.map (fun p=>E.getD p zfs)=l
 ord:ordL P=some E.length
theorem IsEnt.lt{l E:List zab}{P:List Nat}(h:IsEnt l E P):∀p∈P,p<E.length:=zsg P _ h.ord
theorem IsEnt.len{l E:List zab}{P:List Nat}(h:IsEnt l E P):P.length=l.length:=by rw[<-h.map,List.length_map]
theorem zua{α:Type}{E:List α}{c d:α}{p:Nat}(h:p<E.length):(E++[c]).getD p d=E.getD p d:=by rw[List.getD_eq_getElem?_getD,List.getD_eq_getElem?_getD,List.getElem?_append_left h]
theorem zj1:∀l,IsEnt l (ze7 l).1 (ze7 l).2:=by
 refine zgc ?_ ?_
 ·exact⟨by simp[ze7],by simp[ze7],by simp[ze7,ordL]⟩
 ·intro l c h
  rw[zfu];obtain⟨h1,h2,h3⟩:=h;have hlt:=zsg _ _ h3;generalize ze7 l=s at*;obtain⟨E,P⟩:=s;dsimp only at h1 h2 h3 hlt;unfold zft;dsimp only;split
  ·rename_i hc
   have hi:E.idxOf c<E.length:=List.idxOf_lt_length_iff.2 hc;refine⟨h1,?_,?_⟩
   ·rw[List.map_append,h2]
    congr 1
    simp only[List.map_cons,List.map_nil];rw[List.getD_eq_getElem?_getD,List.getElem?_eq_getElem hi,List.getElem_idxOf hi];rfl
   ·rw[ze0,h3]
    unfold zei;dsimp only;rw[if_neg (by omega),if_neg (by omega)]
  ·rename_i hc
   refine⟨?_,?_,?_⟩
   ·rw[List.nodup_append]
    refine⟨h1,by simp,?_⟩;intro a ha b hb e;rw[List.mem_singleton.1 hb] at e;exact hc (e▸ha)
   ·rw[List.map_append]
    congr 1
    ·rw[<-h2]
     exact List.map_congr_left fun p hp=>zua (hlt p hp)
    ·simp
   ·rw[ze0,h3]
    unfold zei;dsimp only;rw[if_neg (by omega),if_pos rfl];simp
theorem z09{E:List zab}(h:E.Nodup){p:Nat}(hp:p<E.length):E.idxOf (E.getD p zfs)=p:=by
 rw[List.getD_eq_getElem?_getD,List.getElem?_eq_getElem hp,Option.getD_some];have hi:E.idxOf E[p]<E.length:=List.idxOf_lt_length_iff.2 (List.getElem_mem hp);have:=List.getElem_idxOf hi;have hp':=List.pairwise_iff_getElem.1 h;rcases Nat.lt_trichotomy (E.idxOf E[p]) p with hlt|heq|hgt
 ·exact absurd this (hp' _ _ hi hp hlt)
 ·exact heq
 ·exact absurd this.symm (hp' _ _ hp hi hgt)
theorem IsEnt.uniq:∀{l E:List zab} {P:List Nat},IsEnt l E P->ze7 l=(E,P):=by
 have key:∀P:List Nat,∀l E,IsEnt l E P->ze7 l=(E,P):=by
  refine zgc ?_ ?_
  ·intro l E h
   have h1:=h.map;have h2:=h.ord;simp only[List.map_nil] at h1;subst h1;simp[ordL] at h2;have:E=[]:=List.length_eq_zero_iff.1 (by omega);subst this;rfl
  ·intro P p ih l E h
   obtain⟨h1,h2,h3⟩:=h;rw[List.map_append] at h2;simp only[List.map_cons,List.map_nil] at h2;rw[ze0] at h3;subst h2;cases hk:ordL P with
   |none=>rw[hk] at h3;simp[zei] at h3
   |some k=>
    rw[hk] at h3;have hlt:=zsg _ _ hk;unfold zei at h3;dsimp only at h3;rw[zfu];split at h3
    ·cases h3
    ·split at h3
     ·rename_i hpk
      injection h3 with h3;subst hpk;have e1:E=E.take p++[E.getD p zfs]:=by
       have hp:p<E.length:=by omega
       conv=>lhs;rw[<-List.take_append_drop p E,List.drop_eq_getElem_cons hp,List.drop_of_length_le (by omega)]
       rw[List.getD_eq_getElem?_getD,List.getElem?_eq_getElem hp];rfl
      have hl:(E.take p).length=p:=by rw[List.length_take];omega
      have hm:(P.map fun p=>E.getD p zfs)=P.map fun q=>(E.take p).getD q zfs:=by
       refine List.map_congr_left fun q hq=>?_
       have:=hlt q hq;conv=>lhs;rw[e1]
       exact zua (by omega)
      have hi:=ih (P.map fun p=>E.getD p zfs) (E.take p) ⟨h1.sublist (List.take_sublist _ _),hm.symm,by rw[hk,hl]⟩;rw[hi];have hn:E.getD p zfs∉E.take p:=by rw[e1,List.nodup_append] at h1;intro hm;exact h1.2.2 _ hm _ (by simp) rfl
      unfold zft;dsimp only;rw[if_neg hn,hl,<-e1]
     ·rename_i h4 h5
      injection h3 with h3;have hp:p<E.length:=by omega
      have hi:=ih (P.map fun p=>E.getD p zfs) E ⟨h1,rfl,by rw[hk,h3]⟩;rw[hi];have hm:E.getD p zfs∈E:=by rw[List.getD_eq_getElem?_getD,List.getElem?_eq_getElem hp];exact List.getElem_mem hp
      unfold zft;dsimp only;rw[if_pos hm,z09 h1 hp]
 intro l E P h;exact key P l E h
theorem zgd:∀l:List zab,∀c,c∈(ze7 l).1↔c∈l:=by
 refine zgc ?_ ?_
 ·intro c;simp[ze7]
 ·intro l x ih c
  rw[zfu];unfold zft;split
  ·rename_i hx
   have:=(ih x).1 hx;rw[ih c,List.mem_append,List.mem_singleton];constructor
   ·exact fun h=> .inl h
   ·rintro(h|rfl)
    ·exact h
    ·exact this
  ·dsimp only
   rw[List.mem_append,List.mem_append,ih c]
theorem zii:∀l:List zab,(ze7 l).1.length<=l.length:=by
 refine zgc ?_ ?_
 ·simp[ze7]
 ·intro l x ih
  rw[zfu];unfold zft;split
  ·simp;omega
  ·simp;omega
theorem z1a:∀l:List zab,(ze7 l).1.length=l.length↔l.Nodup:=by
 refine zgc ?_ ?_
 ·simp[ze7]
 ·intro l x ih
  have hle:=zii l;rw[zfu];unfold zft;split
  ·rename_i hx
   have hx:=(zgd l x).1 hx;constructor
   ·intro h
    simp only[List.length_append,List.length_cons,List.length_nil] at h;omega
   ·intro h
    rw[List.nodup_append] at h;exact absurd rfl (h.2.2 x hx x (by simp))
  ·rename_i hx
   have hx: ¬x∈l:=fun h=>hx ((zgd l x).2 h)
   simp only[List.length_append,List.length_cons,List.length_nil,Nat.add_right_cancel_iff];rw[ih,List.nodup_append];constructor
   ·intro h
    refine⟨h,by simp,?_⟩;intro a ha b hb e;rw[List.mem_singleton.1 hb] at e;exact hx (e▸ha)
   ·exact fun h=>h.1
open Go Go.RowKit Go.WideShapes Go.ChangeShapes Go.Deep
section
variable{H:Type}{enc:TypeId × Value->H}{P:Program}{W:World}{t e:TypeId}{cs:List Value}{n:Nat}
def zfc(P:Program)(t:TypeId):Array Field:=match P.underlying t with|some (.struct fs)=>fs|_=> #[]
theorem Held.part(h:Held enc P W t cs)(hs:P.underlying t=some (.struct (zfc P t)))(i off n:Nat){ft:TypeId}(hf:((zfc P t)[i]?.map fun f=>(f.type,f.offset))=some (ft,off))(hn:P.cellsOf ft=n):Held enc P W ft ((cs.drop off).take n):=by
 obtain⟨_,hall⟩:=h.field hs;cases hfi:(zfc P t)[i]? with
 |none=>rw[hfi] at hf;cases hf
 |some f=>
  rw[hfi] at hf;simp only[Option.map_some,Option.some.injEq,Prod.mk.injEq] at hf;obtain⟨h1,h2⟩:=hf;have:=hall i f hfi;rw[h1,h2,hn] at this;exact this
end
end Go.Hm
set_option maxRecDepth 100000
namespace Go.Proofs.Y
open Go.RowKit Go.Hm Go.WideShapes Go.ChangeShapes
def zuc(w:World)(e:Ending)(w':World):Prop:=e= .returned (.bool true)/\Below w.heap.size w w'
section
variable{H:Type}{enc:TypeId × Value->H}{W:World}{base:Nat}{v:Value}{d:DataW H}{ps:List MemPlace}
theorem qg5(hval:Value.okWide Tryz.prog W .any base 31 v)(h:DataW.Trod enc Tryz.prog W 0 (fun _=>true) true 31 v d ps)(hlt:∀p∈ps,p.block<W.heap.size)(hw:∀n∈d.weights Tryz.prog 31,n<=reachBytes):
 ∃A c,∃l:List Nat,v= .slice A l.length c/\l.length<=c/\c<=140737488351232/\Reads W W.heap.size 1 A l.length (za3 .u8 l)/\ ∀x∈l,x<256:=by
 obtain⟨A,c,l,h1,h2,_,h4,h5,h6⟩:=z4j (k:= .u8) (sz:=1) elB.ht (by kernel_rfl) (by kernel_rfl) rfl (by kernel_rfl) hval h hlt hw;exact⟨A,c,l,h1,h2,by unfold reachBytes at h4;omega,h5,fun x hx=>by have:=h6 x hx;simp[IntKind.max,IntKind.signed,IntKind.bits] at this;omega⟩
end
end Go.Proofs.Y
set_option maxRecDepth 100000
namespace Go.Hm
open Go Go.RowKit
abbrev zdy:=Option Addr × Nat × List zab
def zhu(d:zdy):List Value:=[.slice d.1 d.2.2.length d.2.1]
def CellFine(c:zab):Prop:=(c.2.2.1.length<=140737488351232/\ ∀z∈c.2.2.1,z<256)/\(-9223372036854775808<=c.2.1/\c.2.1<=9223372036854775807)/\(-9223372036854775808<=c.2.2.2.1/\c.2.2.2.1<=9223372036854775807)/\(-9223372036854775808<=c.2.2.2.2/\c.2.2.2.2<=9223372036854775807)
end Go.Hm
namespace Go.Proofs.Y
open Go.RowKit Go.Hm Go.WideShapes Go.ChangeShapes
section
variable{H:Type}{enc:TypeId × Value->H}{W:World}{base:Nat}{v:Value}{d:DataW H}{ps:List MemPlace}
end
end Go.Proofs.Y
namespace Go.Hm
open Go Go.RowKit
def zib(x y:Int):Int:=if x<y then-1 else if y<x then 1 else 0
end Go.Hm
namespace Go.Proofs.Y
open Go.RowKit Go.Hm
set_option maxRecDepth 100000 in
theorem z5u{w:World}{x:Int}:Calls Tryz.prog 198 #[.int .i64 x] w (zdw (.bool false) w):=by
 go_enter Tryz.func198,Tryz.ntmps198
 go_wp2
 go_ret
 exact⟨by simp,rfl⟩
set_option maxRecDepth 100000 in
theorem cmpI_any{w:World}{x y:Int}:Calls Tryz.prog 175 #[.int .i64 x,.int .i64 y] w (zdw (.int .i64 (zib x y)) w):=by
 have P:=fun z:Int=>Hz (z5u (w:=w) (x:=z))
 have K1:=Hz (fun(h:x<y)=>show zib x y= -1 by rw[zib,if_pos h]);have K2:=Hz (fun(h:y<x)=>show zib x y=1 by rw[zib,if_neg (by omega),if_pos h]);have K3:=Hz (fun(h: ¬x<y) (h2: ¬y<x)=>show zib x y=0 by rw[zib,if_neg h,if_neg h2]);generalize zib x y=O at*;by_cases h1:x<y
 ·have O1:=Hz (K1.out h1)
  clear K1 K2 K3;go_enter Tryz.func175,Tryz.ntmps175
  go_wp2_with (first|(go_at_call 198;refine((P _).out).mono ?_;rintro e w' ⟨rfl,rfl⟩))
  go_ret
  exact⟨by rw[O1.out];rfl,rfl⟩
 ·by_cases h2:y<x
  ·have O1:=Hz (K2.out h2)
   clear K1 K2 K3;go_enter Tryz.func175,Tryz.ntmps175
   go_wp2_with (first|(go_at_call 198;refine((P _).out).mono ?_;rintro e w' ⟨rfl,rfl⟩))
   go_ret
   exact⟨by rw[O1.out];rfl,rfl⟩
  ·have O1:=Hz (K3.out h1 h2)
   clear K1 K2 K3;go_enter Tryz.func175,Tryz.ntmps175
   go_wp2_with (first|(go_at_call 198;refine((P _).out).mono ?_;rintro e w' ⟨rfl,rfl⟩))
   go_ret
   exact⟨by rw[O1.out];rfl,rfl⟩
end Go.Proofs.Y
namespace Go.Hm
def zhz(f t s:Nat):Nat:=(t-f+s-1)/s
def zzm(f t s i:Nat):Int × Int:=(((f+i*s:Nat):Int),((min (f+(i+1)*s) t:Nat):Int))
def zgi(f t s:Nat):List (Int × Int):=(List.range (zhz f t s)).map (zzm f t s)
theorem zgj{f t s:Nat}(hs:0<s)(k:Nat):k<zhz f t s↔f+k*s<t:=by unfold zhz;rw[<-Nat.succ_le_iff,Nat.le_div_iff_mul_le hs,Nat.succ_mul];omega
theorem zzn{f t s:Nat}(hs:0<s):zhz f t s<=t-f:=by
 rcases Nat.eq_zero_or_pos (zhz f t s) with h|h
 ·omega
 ·have:=(zgj (f:=f) (t:=t) hs (zhz f t s-1)).1 (by omega)
  have:zhz f t s-1<=(zhz f t s-1)*s:=Nat.le_mul_of_pos_right _ hs;omega
theorem zfk(f t s:Nat):(zgi f t s).length=zhz f t s:=by simp[zgi]
theorem zor{f t s i:Nat}(hi:i<zhz f t s):(zgi f t s).getD i (0,0)=zzm f t s i:=by simp[zgi,List.getD_eq_getElem?_getD,List.getElem?_map,List.getElem?_range hi]
theorem zos{f t s k:Nat}(hk:k<zhz f t s):(zgi f t s).take (k+1)=(zgi f t s).take k++[zzm f t s k]:=by rw[zae _ k (0,0) (by rw[zfk];exact hk),zor hk]
def atN(f t s k:Nat):Nat:=min (f+k*s) t
theorem zzo{f t s k:Nat}(hk:f+k*s<t):atN f t s k=f+k*s/\atN f t s (k+1)=atN f t s k+min s (t-atN f t s k)/\zzm f t s k=((atN f t s k:Int),(atN f t s (k+1):Int)):=by
 have h1:atN f t s k=f+k*s:=by unfold atN;omega
 refine⟨h1,?_,?_⟩
 ·rw[h1];unfold atN;rw[Nat.succ_mul];omega
 ·rw[h1];rfl
def zbr(f t s:Int):List (Int × Int):=if f<0\/t<=f\/65536<t\/s<1 then [] else zgi f.toNat t.toNat s.toNat
theorem zuw{f t s:Int}(h:f<0\/t<=f\/65536<t\/s<1):zbr f t s=[]:=by rw[zbr,if_pos h]
theorem zzp{f t s:Nat}(h1:f<t)(h2:t<=65536)(h3:0<s):zbr f t s=zgi f t s:=by rw[zbr,if_neg (by omega)];simp
theorem zkz(f t s:Int):(zbr f t s).length<=65536:=by
 unfold zbr;split
 ·simp
 ·rw[zfk]
  have:=zzn (f:=f.toNat) (t:=t.toNat) (s:=s.toNat) (by omega);omega
def z9l(x:Int × Int)(f t:Int):Prop:=x.1<t/\f<x.2/\f<t
instance(x:Int × Int)(f t:Int):Decidable (z9l x f t):=by unfold z9l;exact inferInstance
open Go Go.RowKit
abbrev nm(l:List za2)(i:Nat):List Nat:=(l.getD i ([],0,false)).1
def zl0(a:List za2)(s:List Nat):Prop:=s.length=0\/100<s.length\/s∈a.map (·.1)
instance(a:List za2)(s:List Nat):Decidable (zl0 a s):=by unfold zl0;exact inferInstance
def zk2(a:List za2)(s:List Nat)(t:Int):Int:=if zl0 a s then 1 else if 0<=t/\t<=3 then 0 else 3
def zgl(a:List za2):List za2->Int
 | []=>0
 |c::l=>if zk2 a c.1 c.2.1=0 then zgl (a++[c]) l else zk2 a c.1 c.2.1
def zcu(l:List za2):Int:=if 64<l.length then 4 else zgl [] l
theorem zxj{l:List za2}(h:64<l.length):zcu l=4:=by rw[zcu,if_pos h]
theorem z2b{l:List za2}(h: ¬64<l.length):zcu l=zgl (l.take 0) (l.drop 0):=by rw[zcu,if_neg h];rfl
theorem zxk(l:List za2)(k:Nat)(h:k<l.length):zgl (l.take k) (l.drop k)=if zk2 (l.take k) (nm l k) (l.getD k ([],0,false)).2.1=0 then zgl (l.take (k+1)) (l.drop (k+1)) else zk2 (l.take k) (nm l k) (l.getD k ([],0,false)).2.1:=by rw[zd0 l k ([],0,false) h,zgl,zae l k ([],0,false) h]
theorem z2c(l:List za2):zgl (l.take l.length) (l.drop l.length)=0:=by rw[List.drop_length];rfl
theorem zu6{l:List za2}{s:List Nat}{k:Nat}(hk:k<l.length):s∈(l.take (k+1)).map (·.1)↔s∈(l.take k).map (·.1)\/nm l k=s:=by rw[zae l k ([],0,false) hk,List.map_append,List.mem_append];simp[eq_comm,nm]
end Go.Hm
namespace Go.Proofs.Y
open Go.RowKit Go.Hm
theorem qi6(a b:List Nat)(ha:∀x∈a,x<256)(hb:∀x∈b,x<256):((zad a).toList==(zad b).toList)=decide (a=b):=zhh ha hb
set_option maxRecDepth 100000 in
theorem zu7{w:World}{A:Option Addr}{n c:Nat}{L:List za2}{s:List Nat}{t:Int}{nu:Bool}(h:Reads w w.heap.size 3 A n (recs zh8 L))(hL:∀x∈L,∀z∈x.1,z<256)(hs:∀z∈s,z<256)(hsl:s.length<=140737488351232)(hn:n<=4611686018427387903):
 Calls Tryz.prog 90 #[.slice A n c,.agg #[.string (zad s),.int .i64 t,.bool nu]] w (zap (.int .i64 (zk2 L s t)) w):=by
 obtain rfl:=h.lenC;have z1:=zbh s;have K1:=Hz (fun(hh:zl0 L s)=>show zk2 L s t=1 by rw[zk2,if_pos hh]);have K2:=Hz (fun(hh: ¬zl0 L s)=>show zk2 L s t=if 0<=t/\t<=3 then 0 else 3 by rw[zk2,if_neg hh]);generalize zk2 L s t=O at*;obtain⟨W0,hW0⟩:∃W,W=w.alloc (.cells #[.string (zad s),.int .i64 t,.bool nu] 70):=⟨_,rfl⟩;have b0:New w W0:=by rw[hW0];exact(Below.refl _ _).alloc (Nat.le_refl _) _
 have B0:Blk W0 w.heap.size 70 #[.string (zad s),.int .i64 t,.bool nu]:=by rw[hW0];exact Blk.new _ _ _
 obtain⟨x0,x1,x2⟩:=zaf B0;rw[hW0] at x0 x1 x2;by_cases h0:s.length=0
 ·have O1:=Hz (K1.out (.inl h0))
  have e1:((s.length:Int)==0)=true:=by simp[h0]
  clear h0 K1 K2 B0 h;go_enter Tryz.func90,Tryz.ntmps90
  go_wp2
  go_ret
  exact⟨by rw[O1.out];rfl,by rw[<-hW0];exact b0⟩
 ·have e1:((s.length:Int)==0)=false:=beq_eq_false_iff_ne.2 (by omega)
  by_cases h1:100<s.length
  ·have O1:=Hz (K1.out (.inr (.inl h1)))
   have e2:decide (100<(s.length:Int))=true:=by simp;omega
   clear h0 K1 K2 B0 h;go_enter Tryz.func90,Tryz.ntmps90
   go_wp2
   go_ret
   exact⟨by rw[O1.out];rfl,by rw[<-hW0];exact b0⟩
  ·have e2:decide (100<(s.length:Int))=false:=by simp;omega
   have K1:=Hz (fun(hh:s∈L.map (·.1))=>K1.out (.inr (.inr hh)));have K2:=Hz (fun(hh:s∉L.map (·.1))=>K2.out (fun h'=>by rcases h' with h'|h'|h';exact h0 h';exact h1 h';exact hh h'));have r0:=Reads.later h b0;clear h0 h1 h;go_enter Tryz.func90,Tryz.ntmps90
   go_wp2
   rw[<-hW0];clear x0 x1 x2 hW0;go_loopw [19] (fun i wr=>∃k:Nat,i= .int .i64 (k:Int)/\k<=L.length/\New W0 wr/\Hid (s∉(L.take k).map (·.1))) (fun i _=>L.length-(intOf i).toNat)
   case atStart=>exact⟨0,rfl,by omega,New.refl _,Hz (by simp)⟩
   case round=>
    obtain⟨k,rfl,hk,hb,H⟩:=hrel;have B1:=B0.below hb B0.lt;obtain⟨x0,x1,x2⟩:=zaf B1;by_cases hlt:k<L.length
    ·obtain⟨ad,rfl,hbk,c0,c1,c2⟩:=(Reads.later r0 hb).colT hlt
     have M:=Hz (zu6 (s:=s) hlt);have hq:=qi6 (nm L k) s (by rw[nm,List.getD_eq_getElem?_getD,List.getElem?_eq_getElem hlt];exact hL _ (List.getElem_mem hlt)) hs;have MM:=Hz (show nm L k=s->s∈L.map (·.1) from fun e=>by have:=(zu6 (s:=s) hlt).2 (.inr e);exact List.mem_of_mem_take (by rwa[List.map_take] at this))
     unfold nm at*;generalize(L.getD k ([],0,false)).1=s2 at*;generalize(L.getD k ([],0,false)).2.1=t2 at*;generalize(L.getD k ([],0,false)).2.2=n2 at*;have X:=Hz (zaf (B1.alloc (.cells #[.string (zad s2),.int .i64 t2,.bool n2] 70)));have Y:=Hz (zaf (Blk.new wr 70 #[.string (zad s2),.int .i64 t2,.bool n2]));have hiz:(k:Int)<(L.length:Int):=by omega
     have b1:New W0 (wr.alloc (.cells #[.string (zad s2),.int .i64 t2,.bool n2] 70)):=Below.alloc hb hb.size _;obtain⟨q0,q1,q2⟩:=X.out;obtain⟨p0,p1,p2⟩:=Y.out;by_cases he:s2=s
     ·rw[decide_eq_true he] at hq
      have O1:=Hz (K1.out (MM.out he));clear he x0 x1 x2;go_wp2
      go_ret
      exact⟨by rw[O1.out];rfl,New.trans b0 b1⟩
     ·rw[decide_eq_false he] at hq
      have H2:=Hz (show s∉(L.take (k+1)).map (·.1) from fun hh=>by
       rcases M.out.1 hh with hh|hh
       ·exact H.out hh
       ·exact he hh)
      clear he x0 x1 x2;go_wp2
      go_roundw
      case rel=>exact⟨k+1,by go_num,by omega,b1,H2⟩
      case measure=>simp[intOf];omega
    ·obtain rfl:k=L.length:=by omega
     have H2:=H.out;rw[List.take_length] at H2;have O1:=Hz (K2.out H2);clear H H2 K1 K2;go_wp2
     all_goals go_ret
     all_goals
      simp only[beq_iff_eq,beq_eq_false_iff_ne,ne_eq] at*;refine⟨?_,New.trans b0 hb⟩;rw[O1.out];first
       |(rw[if_pos (by omega)];rfl)
       |(rw[if_neg (by omega)];rfl)
set_option maxRecDepth 100000 in
theorem znk{w:World}{A:Option Addr}{n c:Nat}{L:List za2}(h:Reads w w.heap.size 3 A n (recs zh8 L))(hL:∀x∈L,(∀z∈x.1,z<256)/\x.1.length<=140737488351232)(hc:n<=c)(hn:n<=4611686018427387903):
 Calls Tryz.prog 50 #[.slice A n c] w (zap (.int .i64 (zcu L)) w):=by
 obtain rfl:=h.lenC;by_cases hm:64<L.length
 ·rw[zxj hm]
  go_enter Tryz.func50,Tryz.ntmps50
  go_wp2
  go_ret
  exact⟨rfl,New.refl _⟩
 ·have HO:=Hz (z2b hm)
  generalize zcu L=O at*;go_enter Tryz.func50,Tryz.ntmps50
  go_wp2
  go_loopw [11] (fun i wr=>∃k:Nat,i= .int .i64 (k:Int)/\k<=L.length/\New w wr/\Hid (O=zgl (L.take k) (L.drop k))) (fun i _=>L.length-(intOf i).toNat)
  case atStart=>exact⟨0,rfl,by omega,New.refl _,HO⟩
  case round=>
   obtain⟨k,rfl,hk,hb,H⟩:=hrel;by_cases hlt:k<L.length
   ·have r1:=Reads.later h hb
    obtain⟨ad,rfl,hbk,c0,c1,c2⟩:=r1.colT hlt;have hx:(L.getD k ([],0,false))∈L:=by rw[List.getD_eq_getElem?_getD,List.getElem?_eq_getElem hlt];exact List.getElem_mem hlt
    obtain⟨y1,y2⟩:=hL _ hx;have r2:=r1.take (k:=k) (by omega);rw[zt9 (f:=zh8) (sz:=3) (fun _=>rfl) L k (by omega)] at r2;have S:=H.out;rw[zxk L k hlt] at S;have P:=fun(W:World) (hW:New wr W)=>zu7 (c:=c) (t:=(L.getD k ([],0,false)).2.1) (nu:=(L.getD k ([],0,false)).2.2) (Reads.later r2 hW) (fun x hx=>(hL x (List.mem_of_mem_take hx)).1) y1 y2 (by omega)
    have P:=Hz P;generalize hck:zk2 (L.take k) (L.getD k ([],0,false)).1 (L.getD k ([],0,false)).2.1=ck at*;have HS:=Hz S;generalize(L.getD k ([],0,false)).1=s2 at*;generalize(L.getD k ([],0,false)).2.1=t2 at*;generalize(L.getD k ([],0,false)).2.2=n2 at*;clear S hck H hx y1 y2 r1 r2;have hiz:(k:Int)<(L.length:Int):=by omega
    have hiz2:(k:Int)<=(c:Int):=by omega
    obtain⟨W1,hW1⟩:∃W,W=wr.alloc (.cells #[.string (zad s2),.int .i64 t2,.bool n2] 70):=⟨_,rfl⟩;have b1:New wr W1:=by rw[hW1];exact(Below.refl _ _).alloc (Nat.le_refl _) _
    have Y:Blk W1 wr.heap.size 70 #[.string (zad s2),.int .i64 t2,.bool n2]:=by rw[hW1];exact Blk.new _ _ _
    go_wp2_with fail
    rw[<-hW1];clear hW1;refine zat New [(true,0),(true,1),(true,2),(true,3),(false,4),(true,5)]
     New.refl New.trans (by kernel_rfl) (by kernel_rfl) (by kernel_rfl) (by kernel_rfl) ?_
    have hU:=New.trans b1 (New.drew W1);have hV:=New.refl W1.drew;repeat(first
     |(refine zbb rfl rfl (fun K hK=>?_);go_simp
       (with_reducible refine(P.out _ hU).mono ?_)
       rintro e w9 ⟨rfl,b9⟩;refine hK _ _ b9 ?_;clear hK;replace hU:=New.trans hU b9;replace hV:=New.trans hV b9)
     |(refine za1 rfl rfl (v:=?_) (fun W hW=>?_) ?_;rotate_left;(obtain⟨x0,x1,x2⟩:=zaf (Y.below (New.trans (New.drew W1) (New.trans hV hW)) Y.lt);go_simp<;> with_reducible rfl);simp only[Act.put,List.setIfInBounds_toArray,List.set_cons_zero,List.set_cons_succ]))
    refine zc3 ?_;clear Y b1 P;by_cases hz:ck=0
    ·have HS2:=Hz (show O=zgl (L.take (k+1)) (L.drop (k+1)) by rw[HS.out,if_pos hz])
     subst hz;go_wp2
     go_roundw
     case rel=>exact⟨k+1,by go_num,by omega,New.trans hb hU,HS2⟩
     case measure=>simp[intOf];omega
    ·have HS2:=Hz (show O=ck by rw[HS.out,if_neg hz])
     have e1:(ck != 0)=true:=by simpa using hz
     clear hz;go_wp2
     go_ret
     exact⟨by rw[HS2.out];rfl,New.trans hb hU⟩
   ·obtain rfl:k=L.length:=by omega
    have HS2:=Hz (show O=0 by rw[H.out,z2c]);go_wp2
    go_ret
    exact⟨by rw[HS2.out];rfl,hb⟩
end Go.Proofs.Y
namespace Go.Hm
open Go Go.RowKit
inductive Plan3 where
 |done
 |quiet (i:Nat) (p:Plan3)
 |alone (i:Nat) (p:Plan3)
 |two (i:Nat) (p:Plan3) (j:Nat) (q:Plan3)
 |three (i:Nat) (p:Plan3) (j:Nat) (q:Plan3) (k:Nat) (r:Plan3)
section
variable{P:Program}{ops:Array Oper}{Q:Exit->Act->World->Prop}
def Plan3.ok(ops:Array Oper):Array Bool->Plan3->Bool
 |listed,.done=>(Region.ready .any ops listed).isEmpty
 |listed,.quiet i p=>(Region.ready .any ops listed).contains i&&(Region.free .any ops listed i&&p.ok ops (listed.setIfInBounds i true))
 |listed,.alone i p=>decide (Region.ready .any ops listed=[i])&&p.ok ops (listed.setIfInBounds i true)
 |listed,.two i p j q=>decide (Region.ready .any ops listed=[i,j])&&(p.ok ops (listed.setIfInBounds i true)&&q.ok ops (listed.setIfInBounds j true))
 |listed,.three i p j q k r=>decide (Region.ready .any ops listed=[i,j,k])&&(p.ok ops (listed.setIfInBounds i true)&&(q.ok ops (listed.setIfInBounds j true)&&r.ok ops (listed.setIfInBounds k true)))
def Plan3.size:Plan3->Nat
 | .done=>0
 | .quiet _ p=>p.size+1
 | .alone _ p=>p.size+1
 | .two _ p _ q=>Nat.max p.size q.size+1
 | .three _ p _ q _ r=>Nat.max p.size (Nat.max q.size r.size)+1
def zem(P:Program)(ops:Array Oper)(R:World->World->Prop)(Q:Exit->Act->World->Prop)(i:Nat)(K:Act->World->Prop)(a:Act)(w:World):Prop:=
 ∃o,ops[i]? =some o/\if Region.wanted o (yielded ops a.tmps) then o.wp P a w (fun a' w'=>R w w'/\K a' w') (NoPanic Q) else K (a.put o.dst undef) w
def zce(P:Program)(ops:Array Oper)(R:World->World->Prop)(Q:Exit->Act->World->Prop):Plan3->Act->World->Prop
 | .done,a,w=>Q .normal a w
 | .quiet i p,a,w=>∃o v,ops[i]? =some o/\((Region.wanted o (yielded ops a.tmps)=true/\ ∀w',R w w'->(execOp a.eval o).run P w'= .ok (.value v) w')\/(Region.wanted o (yielded ops a.tmps)=false/\v=undef))/\zce P ops R Q p (a.put o.dst v) w
 | .alone i p,a,w=>zem P ops R Q i (zce P ops R Q p) a w
 | .two i p j q,a,w=>zem P ops R Q i (zce P ops R Q p) a w/\zem P ops R Q j (zce P ops R Q q) a w
 | .three i p j q k r,a,w=>zem P ops R Q i (zce P ops R Q p) a w/\(zem P ops R Q j (zce P ops R Q q) a w/\zem P ops R Q k (zce P ops R Q r) a w)
variable{R:World->World->Prop}
theorem zpz(hrefl:∀w,R w w)(htrans:∀{x y z},R x y->R y z->R x z)(hs:Region.noSelect ops=true):
 ∀(p:Plan3) (fuel:Nat) (listed:Array Bool) (a:Act) (w:World),p.size<=fuel->p.ok ops listed=true->zce P ops R Q p a w->wpAnyH P .any ops (NoPanic Q) (R w) fuel listed a w:=by
 have key:∀(p:Plan3),(∀(fuel:Nat) (listed:Array Bool) (a:Act) (w:World),p.size<=fuel->p.ok ops listed=true->zce P ops R Q p a w->wpAnyH P .any ops (NoPanic Q) (R w) fuel listed a w)->
  ∀(j:Nat) (fuel:Nat) (listed:Array Bool) (a:Act) (w:World),p.size<=fuel->p.ok ops (listed.setIfInBounds j true)=true->zem P ops R Q j (zce P ops R Q p) a w->
   wpOp P ops (NoPanic Q) j (fun a' w'=>R w w'/\wpAnyH P .any ops (NoPanic Q) (R w) fuel (listed.setIfInBounds j true) a' w') a w:=by
  intro p ih j fuel listed a w hl h3 hc;obtain⟨o,ho,hc⟩:=hc;unfold wpOp;simp only[ho];split
  ·rename_i hw
   rw[if_pos hw] at hc;exact .inl (Oper.wp_mono (fun a' w' hh=>⟨hh.1,zhm (fun z hz=>htrans hh.1 hz) fuel _ a' w' (ih fuel _ a' w' hl h3 hh.2)⟩) hc)
  ·rename_i hw
   rw[if_neg hw] at hc;exact⟨hrefl w,ih fuel _ _ w hl h3 hc⟩
 intro p;induction p with
 |done=>
  intro fuel listed a w _ hok h;exact wpAnyH_done (by simpa[Plan3.ok] using hok) (NoPanic.normal h) fuel
 |quiet i p ih=>
  intro fuel listed a w hl hok h;obtain⟨fuel,rfl⟩:∃k,fuel=k+1:=⟨fuel-1,by simp[Plan3.size] at hl;omega⟩;obtain⟨o,v,ho,hv,hr⟩:=h;simp only[Plan3.ok,Bool.and_eq_true] at hok;obtain⟨h1,h2,h3⟩:=hok;exact wpAnyH_take ho hs h2 h1 (fun _ _ _ hp=>hp) hv (hrefl w) (ih fuel _ _ w (by simp[Plan3.size] at hl;omega) h3 hr)
 |alone i p ih=>
  intro fuel listed a w hl hok h;obtain⟨fuel,rfl⟩:∃k,fuel=k+1:=⟨fuel-1,by simp[Plan3.size] at hl;omega⟩;simp only[Plan3.ok,Bool.and_eq_true,decide_eq_true_eq] at hok;obtain⟨h1,h3⟩:=hok;refine wpAnyH_all h1 (by simp) ?_;intro j hj;obtain rfl:j=i:=by simpa using hj
  exact key p ih j fuel listed a w (by simp[Plan3.size] at hl;omega) h3 h
 |two i p j q ihp ihq=>
  intro fuel listed a w hl hok h;obtain⟨fuel,rfl⟩:∃k,fuel=k+1:=⟨fuel-1,by simp[Plan3.size] at hl;omega⟩;simp only[Plan3.ok,Bool.and_eq_true,decide_eq_true_eq] at hok;obtain⟨h1,h3,h4⟩:=hok;have hl':Nat.max p.size q.size<=fuel:=by simp[Plan3.size] at hl;exact hl
  refine wpAnyH_all h1 (by simp) ?_;intro k hk;have hk:k=i\/k=j:=by simpa using hk
  rcases hk with rfl|rfl
  ·exact key p ihp k fuel listed a w (Nat.le_trans (Nat.le_max_left _ _) hl') h3 h.1
  ·exact key q ihq k fuel listed a w (Nat.le_trans (Nat.le_max_right _ _) hl') h4 h.2
 |three i p j q l r ihp ihq ihr=>
  intro fuel listed a w hl hok h;obtain⟨fuel,rfl⟩:∃k,fuel=k+1:=⟨fuel-1,by simp[Plan3.size] at hl;omega⟩;simp only[Plan3.ok,Bool.and_eq_true,decide_eq_true_eq] at hok;obtain⟨h1,h3,h4,h5⟩:=hok;have hl':Nat.max p.size (Nat.max q.size r.size)<=fuel:=by simp[Plan3.size] at hl;exact hl
  refine wpAnyH_all h1 (by simp) ?_;intro k hk;have hk:k=i\/k=j\/k=l:=by simpa using hk
  rcases hk with rfl|rfl|rfl
  ·exact key p ihp k fuel listed a w (Nat.le_trans (Nat.le_max_left _ _) hl') h3 h.1
  ·exact key q ihq k fuel listed a w (Nat.le_trans (Nat.le_trans (Nat.le_max_left _ _) (Nat.le_max_right _ _)) hl') h4 h.2.1
  ·exact key r ihr k fuel listed a w (Nat.le_trans (Nat.le_trans (Nat.le_max_right _ _) (Nat.le_max_right _ _)) hl') h5 h.2.2
theorem zi0{id:Nat}{a:Act}{w:World}(R:World->World->Prop)(p:Plan3)(hrefl:∀w,R w w)(htrans:∀{x y z},R x y->R y z->R x z)(hm:P.follows .mixedOrders=true)
 (hs:Region.noSelect ops=true)(hl:decide (p.size<=ops.size)=true)(hok:p.ok ops (Array.replicate ops.size false)=true)(h:zce P ops R Q p a w.drew):(Code.region id ops true).wp P Q a w:=
 wp_region_noPanic (wp_region_held hm (zpz hrefl htrans hs p ops.size _ a _ (by simpa using hl) hok h))
variable{i j:Nat}{p q:Plan3}{a:Act}{w:World}{v:Value}
theorem zec(h:Q .normal a w):zce P ops R Q .done a w:=h
section
variable{dst:Option Tmp}{op:Op}{ty:TypeId}{pos:String}{af:Array Edge}{gd:Option (Nat × Bool)}
theorem zc2(ho:ops[i]? =some ⟨dst,op,ty,pos,af,gd⟩)(hw:Region.wanted ⟨dst,op,ty,pos,af,gd⟩ (yielded ops a.tmps)=true)(hv:∀w',R w w'->(execOp a.eval ⟨dst,op,ty,pos,af,gd⟩).run P w'= .ok (.value v) w')(h:zce P ops R Q p (a.put dst v) w):zce P ops R Q (.quiet i p) a w:=
 ⟨_,v,ho,.inl ⟨hw,hv⟩,h⟩
theorem zbn{K0:Act->World->Prop}(ho:ops[i]? =some ⟨dst,op,ty,pos,af,gd⟩)(hw:Region.wanted ⟨dst,op,ty,pos,af,gd⟩ (yielded ops a.tmps)=true)(h:∀K:Act->World->Prop,(∀a' w',R w w'->K0 a' w'->K a' w')->Oper.wp P ⟨dst,op,ty,pos,af,gd⟩ a w K (NoPanic Q)):zem P ops R Q i K0 a w:=
 ⟨_,ho,by rw[if_pos hw];exact h _ fun _ _ h1 h2=>⟨h1,h2⟩⟩
theorem zbo(h:zem P ops R Q i (zce P ops R Q p) a w):zce P ops R Q (.alone i p) a w:=h
theorem zlf(h:zem P ops R Q i (zce P ops R Q p) a w)(h2:zem P ops R Q j (zce P ops R Q q) a w):zce P ops R Q (.two i p j q) a w:=⟨h,h2⟩
theorem zyd{k:Nat}{r:Plan3}(h:zem P ops R Q i (zce P ops R Q p) a w)(h2:zem P ops R Q j (zce P ops R Q q) a w)(h3:zem P ops R Q k (zce P ops R Q r) a w):zce P ops R Q (.three i p j q k r) a w:=⟨h,h2,h3⟩
end
end
end Go.Hm
