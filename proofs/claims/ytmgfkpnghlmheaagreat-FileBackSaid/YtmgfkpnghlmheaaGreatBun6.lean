/- Texts merged and made short: PackM, UnpackM, Cell, Pt, PtC, RowA. -/
import Derived.BigQuiet
import Derived.Deep.QuietTactic
import Derived.Outline
import Derived.Test.YtmgfkpnghlmheaaGreatBun1
import Derived.Test.YtmgfkpnghlmheaaGreatBun2
import Derived.Test.YtmgfkpnghlmheaaGreatBun3
import Derived.Test.YtmgfkpnghlmheaaGreatBun4
import Derived.Test.YtmgfkpnghlmheaaGreatBun5
set_option maxHeartbeats 2000000
namespace Go.Hm
def pk(w:Nat):List Nat→Nat
 | []=>0
 |x::l=>x+2^w*pk w l
theorem z3z(w:Nat)(l:List Nat)(x:Nat):pk w (l++[x])=pk w l+2^(w*l.length)*x:=by
 induction l with
 |nil=>simp[pk]
 |cons a l ih=>
  simp only[List.cons_append,pk,ih,List.length_cons];rw[Nat.mul_add,Nat.mul_succ,Nat.pow_add];simp only[Nat.mul_comm,Nat.mul_left_comm,Nat.add_assoc]
theorem qgu(w:Nat)(l:List Nat)(h:∀x∈l,x<2^w):pk w l<2^(w*l.length):=by
 induction l with
 |nil=>simp[pk]
 |cons a l ih=>
  have h1:=ih fun x hx=>h x (by simp[hx])
  have h2:=h a (by simp);simp only[pk,List.length_cons];rw[Nat.mul_succ,Nat.pow_add,Nat.mul_comm (2^(w*l.length))];have:2^w*(pk w l+1)≤2^w*2^(w*l.length):=Nat.mul_le_mul_left _ h1;rw[Nat.mul_add] at this;omega
def zpu(w:Nat):Nat→Nat→List Nat
 |0,_=>[]
 |n+1,B=>zpu w n B++[B/2^(w*n)%2^w]
theorem zd6(w n B:Nat):(zpu w n B).length=n:=by induction n<;> simp_all[zpu]
theorem z30(w n B:Nat):∀x∈zpu w n B,x<2^w:=by
 induction n with
 |zero=>intro x hx;simp[zpu] at hx
 |succ n ih=>
  intro x hx;simp only[zpu,List.mem_append,List.mem_singleton] at hx;rcases hx with hx|hx
  ·exact ih x hx
  ·subst hx;exact Nat.mod_lt _ (Nat.two_pow_pos w)
theorem z31(w n B i:Nat)(h:i<n):(zpu w n B).getD i 0=B/2^(w*i)%2^w:=by
 induction n with
 |zero=>omega
 |succ n ih=>
  rw[zpu,List.getD_eq_getElem?_getD];by_cases hi:i<n
  ·rw[List.getElem?_append_left (by rw[zd6];exact hi),←List.getD_eq_getElem?_getD,ih hi]
  ·obtain rfl:i=n:=by omega
   rw[List.getElem?_append_right (by rw[zd6];exact Nat.le_refl _),zd6];simp
theorem qen(w n B:Nat):pk w (zpu w n B)=B%2^(w*n):=by
 induction n with
 |zero=>simp[zpu,pk,Nat.mod_one]
 |succ n ih=>rw[zpu,z3z,ih,zd6,Nat.mul_succ,Nat.pow_add,Nat.mod_mul]
theorem qeo(w:Nat)(l:List Nat)(h:∀x∈l,x<2^w)(B:Nat)(hB:B%2^(w*l.length)=pk w l):zpu w l.length B=l:=by
 have key:∀(m:List Nat),(∀x∈m,x<2^w)→∀i,i<m.length→pk w m/2^(w*i)%2^w=m.getD i 0:=by
  intro m
  induction m with
  |nil=>intro _ i hi;simp at hi
  |cons a m ih=>
   intro hm i hi;have ha:=hm a (by simp)
   cases i with
   |zero=>simp[pk,Nat.add_mul_mod_self_left,Nat.mod_eq_of_lt ha]
   |succ i=>
    rw[pk,Nat.mul_succ,Nat.add_comm (w*i),Nat.pow_add,←Nat.div_div_eq_div_mul,Nat.add_mul_div_left _ _ (Nat.two_pow_pos w),Nat.div_eq_of_lt ha,Nat.zero_add,ih (fun x hx=>hm x (by simp[hx])) i (by simpa using hi)];simp
 refine List.ext_getElem (zd6 _ _ _) fun i h1 h2=>?_
 have e1:(zpu w l.length B).getD i 0=(zpu w l.length B)[i]:=by rw[List.getD_eq_getElem?_getD,List.getElem?_eq_getElem h1];rfl
 have e2:l.getD i 0=l[i]:=by rw[List.getD_eq_getElem?_getD,List.getElem?_eq_getElem h2];rfl
 rw[←e1,←e2,z31 w l.length B i h2,←key l h i h2,←hB]
 have hs:w*l.length=w*i+(w+w*(l.length-i-1)):=by
  have e:l.length=i+(1+(l.length-i-1)):=by omega
  conv=>lhs;rw[e]
  rw[Nat.mul_add,Nat.mul_add,Nat.mul_one]
 rw[hs,Nat.pow_add,Nat.mod_mul_right_div_self,Nat.pow_add,Nat.mod_mul_right_mod]
theorem zkb(X s i:Nat)(h:i<s):(low X s).getD i 0=X/256^i%256:=by
 induction s with
 |zero=>omega
 |succ s ih=>
  rw[low,List.getD_eq_getElem?_getD];by_cases hi:i<s
  ·rw[List.getElem?_append_left (by rw[zbh];exact hi),←List.getD_eq_getElem?_getD,ih hi]
  ·obtain rfl:i=s:=by omega
   rw[List.getElem?_append_right (by rw[zbh];exact Nat.le_refl _),zbh];simp
theorem zr1(b:List Nat)(h:∀x∈b,x<256):low (num b) b.length=b:=by
 have key:∀(m:List Nat),(∀x∈m,x<256)→∀i,i<m.length→num m/256^i%256=m.getD i 0:=by
  intro m
  induction m with
  |nil=>intro _ i hi;simp at hi
  |cons a m ih=>
   intro hm i hi;have ha:=hm a (by simp)
   cases i with
   |zero=>simp[num];omega
   |succ i=>
    rw[num,Nat.pow_succ,Nat.mul_comm (256^i),←Nat.div_div_eq_div_mul,show(a+256*num m)/256=num m by omega,ih (fun x hx=>hm x (by simp[hx])) i (by simpa using hi)];simp
 refine List.ext_getElem (zbh _ _) fun i h1 h2=>?_
 have e1:(low (num b) b.length).getD i 0=(low (num b) b.length)[i]:=by rw[List.getD_eq_getElem?_getD,List.getElem?_eq_getElem h1];rfl
 have e2:b.getD i 0=b[i]:=by rw[List.getD_eq_getElem?_getD,List.getElem?_eq_getElem h2];rfl
 rw[←e1,←e2,zkb _ _ _ h2,key b h i h2]
theorem zyo(b:List Nat)(h:∀x∈b,x<256)(i:Nat)(hi:i<b.length):b.getD i 0=num b/256^i%256:=by
 have:=zkb (num b) b.length i hi;rwa[zr1 b h] at this
theorem z9w(s:Nat):low 0 s=List.replicate s 0:=by
 induction s with
 |zero=>rfl
 |succ s ih=>rw[low,ih,List.replicate_succ'];simp
theorem qep(k:Nat):(256:Nat)^k=2^(8*k):=by rw[show(256:Nat)=2^8 from rfl,←Nat.pow_mul]
theorem qeq(X s a c:Nat)(ha:a<8*s)(hX:X<2^a)(hc:c≤1):
 (low X s).set (a/8) ((low X s).getD (a/8) 0+c*2^(a%8))=low (X+c*2^a) s∧(low X s).getD (a/8) 0<2^(a%8)∧(low X s).getD (a/8) 0+c*2^(a%8)<256:=by
 have hq:a/8<s:=by omega
 have ea:2^a=256^(a/8)*2^(a%8):=by rw[qep,←Nat.pow_add];congr 1;omega
 have hr:2^(a%8)≤2^7:=Nat.pow_le_pow_right (by omega) (by omega)
 have h0:X/256^(a/8)<2^(a%8):=by
  apply Nat.div_lt_of_lt_mul;rw[←ea];exact hX
 have hb:(low X s).getD (a/8) 0=X/256^(a/8):=by
  rw[zkb _ _ _ hq];exact Nat.mod_eq_of_lt (by omega)
 have hcc:c*2^(a%8)≤2^(a%8):=by
  calc c*2^(a%8)≤1*2^(a%8):=Nat.mul_le_mul_right _ hc
   _=_:=Nat.one_mul _
 have hlt:X/256^(a/8)+c*2^(a%8)<256:=by omega
 refine⟨?_,by rw[hb];exact h0,by rw[hb];exact hlt⟩
 refine List.ext_getElem (by simp[zbh]) fun i h1 h2=>?_
 have h2':i<s:=by rwa[zbh] at h2
 have h1':i<(low X s).length:=by rwa[zbh]
 have e2:(low (X+c*2^a) s)[i]=(X+c*2^a)/256^i%256:=by
  rw[←zkb _ _ _ h2',List.getD_eq_getElem?_getD,List.getElem?_eq_getElem h2];rfl
 have e1:(low X s)[i]'h1'=X/256^i%256:=by
  rw[←zkb _ _ _ h2',List.getD_eq_getElem?_getD,List.getElem?_eq_getElem h1'];rfl
 rw[e2,List.getElem_set];by_cases hi:a/8=i
 ·subst hi
  rw[if_pos rfl,hb,ea,show c*(256^(a/8)*2^(a%8))=256^(a/8)*(c*2^(a%8)) from Nat.mul_left_comm _ _ _,Nat.add_mul_div_left _ _ (Nat.pow_pos (by omega)),Nat.mod_eq_of_lt hlt]
 ·rw[if_neg hi,e1]
  rcases Nat.lt_or_gt_of_ne hi with hlt'|hgt
  ·have hp:2^(a+1)≤256^i:=by rw[qep];exact Nat.pow_le_pow_right (by omega) (by omega)
   have hca:c*2^a≤2^a:=by
    calc c*2^a≤1*2^a:=Nat.mul_le_mul_right _ hc
     _=_:=Nat.one_mul _
   rw[Nat.pow_succ] at hp;rw[Nat.div_eq_of_lt (by omega),Nat.div_eq_of_lt (by omega)]
  ·have es:2^a=256^i*(256*2^(a-8*(i+1))):=by
    rw[qep,show(256:Nat)=2^8 from rfl,←Nat.pow_add,←Nat.pow_add];congr 1;omega
   rw[es,show c*(256^i*(256*2^(a-8*(i+1))))=256^i*(256*(c*2^(a-8*(i+1)))) by simp only[Nat.mul_left_comm],Nat.add_mul_div_left _ _ (Nat.pow_pos (by omega)),Nat.add_mul_mod_self_left]
theorem zl6(y j:Nat):y%2^(j+1)=y%2^j+2^j*(y/2^j%2):=by rw[Nat.pow_succ,Nat.mod_mul]
theorem qer{X m:Nat}(y j:Nat)(hX:X<2^m):X+y%2^j*2^m<2^(m+j):=by
 have h1:y%2^j<2^j:=Nat.mod_lt _ (Nat.two_pow_pos _);have h2:(y%2^j+1)*2^m≤2^j*2^m:=Nat.mul_le_mul_right _ h1;rw[Nat.add_mul,Nat.one_mul] at h2;rw[Nat.pow_add,Nat.mul_comm (2^m)];omega
theorem z32{X m:Nat}(s y j a q r t:Nat)(hX:X<2^m)(ha:a=m+j)(hs:a<8*s)(hq:q=a/8∧r=a%8)(ht:t=y/2^j%2):
 (low (X+y%2^j*2^m) s).getD q 0<2^r∧(low (X+y%2^j*2^m) s).set q ((low (X+y%2^j*2^m) s).getD q 0+t*2^r)=low (X+y%2^(j+1)*2^m) s:=by
 obtain⟨rfl,rfl⟩:=hq;have h:=qeq (X+y%2^j*2^m) s a t hs (by rw[ha];exact qer y j hX) (by omega);refine⟨h.2.1,h.1.trans ?_⟩
 congr 1
 rw[zl6,Nat.add_mul,ht,ha,Nat.pow_add,Nat.add_assoc]
 congr 2
 rw[Nat.mul_comm (2^m),←Nat.mul_assoc,Nat.mul_comm (y/2^j%2)]
end Go.Hm
namespace Go.Hm
def ul(w p k B n:Nat):List Nat:=zpu w p B++(B/2^(w*p)%2^k)::List.replicate (n-p-1) 0
theorem qet(w p B n:Nat)(h:p<n):zpu w p B++List.replicate (n-p) 0=ul w p 0 B n:=by
 rw[ul,show n-p=(n-p-1)+1 by omega,List.replicate_succ,Nat.pow_zero,Nat.mod_one];rfl
theorem qgw(w p B n:Nat):ul w p w B n=zpu w (p+1) B++List.replicate (n-(p+1)) 0:=by
 rw[ul,zpu,List.append_assoc,show n-p-1=n-(p+1) by omega];rfl
theorem qeu(w p k B n:Nat):(ul w p k B n).getD p 0=B/2^(w*p)%2^k:=by
 rw[ul,List.getD_eq_getElem?_getD,List.getElem?_append_right (by rw[zd6];exact Nat.le_refl _),zd6];simp
theorem qev(w p k B n a t:Nat)(ha:a=w*p+k)(ht:t=B/2^a%2):(ul w p k B n).set p (B/2^(w*p)%2^k+t*2^k)=ul w p (k+1) B n:=by
 have e:B/2^(w*p)%2^(k+1)=B/2^(w*p)%2^k+t*2^k:=by
  rw[zl6,Nat.div_div_eq_div_mul,←Nat.pow_add,←ha,←ht,Nat.mul_comm t]
 rw[ul,ul,e,List.set_append_right _ _ (by rw[zd6];exact Nat.le_refl _),zd6,Nat.sub_self];rfl
theorem qgx(b:List Nat)(h:∀x∈b,x<256)(a q r:Nat)(hq:q=a/8∧r=a%8)(ha:a<8*b.length):b.getD q 0/2^r%2=num b/2^a%2:=by
 obtain⟨rfl,rfl⟩:=hq;rw[zyo b h _ (by omega)]
 have e:(256:Nat)=2^(a%8)*2^(8-a%8):=by rw[←Nat.pow_add,show a%8+(8-a%8)=8 by omega]
 have e2:2^(8-a%8)=2*2^(7-a%8):=by rw[←Nat.pow_succ'];congr 1;omega
 rw[show num b/256^(a/8)%256=num b/256^(a/8)%(2^(a%8)*2^(8-a%8)) by rw[←e],Nat.mod_mul_right_div_self,e2,Nat.mod_mul_right_mod,Nat.div_div_eq_div_mul,qep,←Nat.pow_add]
 congr 3
 omega
theorem zyp(b:List Nat)(h:∀x∈b,x<256)(M r:Nat)(hl:b.length=(M+7)/8)(hr:r=M%8):num b<2^M↔(r=0∨b.getD (b.length-1) 0/2^r=0):=by
 have hb:=zqb b h;by_cases h0:r=0
 ·have:M=8*b.length:=by omega
  rw[qep,←this] at hb;simp[h0,hb]
 ·have hl2:b.length-1<b.length:=by omega
  have hM:M=8*(b.length-1)+r:=by omega
  have e:=zyo b h _ hl2
  have hlt:num b/256^(b.length-1)<256:=by
   apply Nat.div_lt_of_lt_mul;rw[←Nat.pow_succ,show(b.length-1).succ=b.length by omega];exact hb
  rw[Nat.mod_eq_of_lt hlt] at e;rw[e,hM,Nat.pow_add,←qep];constructor
  ·intro hh
   exact .inr (Nat.div_eq_of_lt (Nat.div_lt_of_lt_mul hh))
  ·rintro(hh|hh)
   ·exact absurd hh h0
   ·have h1:num b/256^(b.length-1)<2^r:=by
     rcases Nat.lt_or_ge (num b/256^(b.length-1)) (2^r) with h2|h2
     ·exact h2
     ·have:=Nat.div_pos h2 (Nat.two_pow_pos r)
      omega
    rw[Nat.mul_comm];exact(Nat.div_lt_iff_lt_mul (Nat.pow_pos (by omega))).1 h1
theorem z90(v k t:Nat)(hv:v<2^k)(ht:t≤1)(hk:k<64):bits .or .u64 (v:Int) (IntKind.u64.wrap ((t:Int)*2^k))=((v+t*2^k:Nat):Int):=by
 have h7:2^(k+1)≤2^64:=Nat.pow_le_pow_right (by omega) (by omega);rw[Nat.pow_succ] at h7;have hq:t*2^k≤1*2^k:=Nat.mul_le_mul_right _ ht
 have e:IntKind.u64.wrap ((t:Int)*2^k)=((t*2^k:Nat):Int):=by
  have e2:((t*2^k:Nat):Int)=(t:Int)*2^k:=by simp
  rw[←e2,IntKind.wrap_u64];omega
 rw[e,u64_or_nat _ _ (by omega) (by omega),Nat.or_comm,←Nat.mul_comm (2^k),←Nat.two_pow_add_eq_or_of_lt hv,Nat.add_comm]
theorem z91(y r t:Nat)(hy:y<256)(ht:t=y/2^r%2):bits .and .u8 ((y:Int)/2^r) 1=(t:Int):=by
 have h1:y/2^r≤y:=Nat.div_le_self _ _;have:=u8_and_nat (y/2^r) 1 (by omega) (by omega);rw[Nat.and_one_is_mod,←ht] at this;rw[←this]
 congr 1
end Go.Hm
namespace Go.Proofs.YtmgfkpnghlmheaaGreat
open Go.RowKit Go.Hm
set_option maxRecDepth 100000 in
theorem z1a{w:World}(x y:Int):
 Calls Tryz.prog 116 #[.agg #[.int .i64 x,.int .i64 y],.int .i64 1048576] w (zap (.bool (inBox x y)) w):=by
 obtain⟨W0,hW0⟩:∃W,W=w.alloc (.cells #[.int .i64 x,.int .i64 y] 59):=⟨_,rfl⟩
 have b0:New w W0:=by rw[hW0];exact(Below.refl _ _).alloc (Nat.le_refl _) _
 have B0:Blk W0 w.heap.size 59 #[.int .i64 x,.int .i64 y]:=by rw[hW0];exact Blk.new _ _ _
 obtain⟨x0,x1⟩:=zbe B0;have HO:=Hz (show inBox x y=(decide (-1048576≤x)&&decide (x≤1048576)&&decide (-1048576≤y)&&decide (y≤1048576)) from rfl);generalize inBox x y=O at*;rw[hW0] at x0 x1;clear B0;cases h1:decide (-1048576≤x)<;> cases h2:decide (x≤1048576)<;> cases h3:decide (-1048576≤y)<;> cases h4:decide (y≤1048576)
 all_goals
  rw[h1,h2,h3,h4] at HO
  go_enter Tryz.func116,Tryz.ntmps116
  go_wp2
  go_ret
  exact⟨by rw[HO.out];rfl,by rw[←hW0];exact b0⟩
set_option maxRecDepth 100000 in
theorem zld{w:World}(x y:Int):
 Calls Tryz.prog 91 #[.agg #[.int .i64 x,.int .i64 y]] w (zap (.bool (inBox x y)) w):=by
 obtain⟨W0,hW0⟩:∃W,W=w.alloc (.cells #[.int .i64 x,.int .i64 y] 59):=⟨_,rfl⟩
 have b0:New w W0:=by rw[hW0];exact(Below.refl _ _).alloc (Nat.le_refl _) _
 have B0:Blk W0 w.heap.size 59 #[.int .i64 x,.int .i64 y]:=by rw[hW0];exact Blk.new _ _ _
 obtain⟨x0,x1⟩:=zbe B0;rw[hW0] at x0 x1;clear B0
 go_enter Tryz.func91,Tryz.ntmps91
 go_wp2_with (first
  |(go_at_call 116;refine(z1a x y).mono ?_;rintro e w' ⟨rfl,b1⟩))
 go_ret
 exact⟨rfl,New.trans b0 (by rw[hW0];exact b1)⟩
open Go.RowKit Go.Hm
def qfq(x y:Int)(w:World)(e:Ending)(w':World):Prop:=∃a b,e= .returned (.complex .f64 a b)∧ztq x y a b∧New w w'
set_option maxRecDepth 100000 in
theorem zg1{w:World}{x y:Int}(hx:x.natAbs<9007199254740992)(hy:y.natAbs<9007199254740992):
 Calls Tryz.prog 220 #[.agg #[.int .i64 x,.int .i64 y]] w (qfq x y w):=by
 obtain⟨W0,hW0⟩:∃W,W=w.alloc (.cells #[.int .i64 x,.int .i64 y] 59):=⟨_,rfl⟩
 have b0:New w W0:=by rw[hW0];exact(Below.refl _ _).alloc (Nat.le_refl _) _
 have B0:Blk W0 w.heap.size 59 #[.int .i64 x,.int .i64 y]:=by rw[hW0];exact Blk.new _ _ _
 obtain⟨x0,x1⟩:=zbe B0;rw[hW0] at x0 x1;have R:=Hz (show ztq x y (floatOfInt .f64 x) (floatOfInt .f64 y) from⟨zum x hx,zum y hy⟩);clear B0 hx hy
 go_enter Tryz.func220,Tryz.ntmps220
 go_wp2
 go_ret
 exact⟨_,_,rfl,R.out,by rw[←hW0];exact b0⟩
set_option maxRecDepth 100000 in
theorem zzh{w:World}{x y:Int}(hx: -2097152≤x∧x≤2097152)(hy: -2097152≤y∧y≤2097152):
 Calls Tryz.prog 201 #[.agg #[.int .i64 x,.int .i64 y]] w (zap (.int .i64 (x*x+y*y)) w):=by
 obtain⟨W0,hW0⟩:∃W,W=w.alloc (.cells #[.int .i64 x,.int .i64 y] 59):=⟨_,rfl⟩
 have b0:New w W0:=by rw[hW0];exact(Below.refl _ _).alloc (Nat.le_refl _) _
 have B0:Blk W0 w.heap.size 59 #[.int .i64 x,.int .i64 y]:=by rw[hW0];exact Blk.new _ _ _
 obtain⟨x0,x1⟩:=zbe B0;rw[hW0] at x0 x1;have P:=Hz (zg1 (w:=W0) (x:=x) (y:=y) (by omega) (by omega));have KN:=Hz (fun(a b:Nat) (h:ztq x y a b)=>z5s h hx hy);have HW:=Hz hW0;have HB:=Hz b0;clear B0 hx hy hW0 b0
 go_enter Tryz.func201,Tryz.ntmps201
 go_wp2_with fail
 rw[←HW.out];refine P.out.mono ?_;rintro e w1 ⟨a,b,rfl,hr,b1⟩;obtain⟨re,im,e1,e2⟩:=KN.out a b hr;have u:=z1v .f64 b
 have m:=fun w:World=>run_complex_mul (P:=Tryz.prog) w 218 a b a (Op.negFloat .f64 b) re im e1
 have f:=fun w:World=>run_convert_float_int (P:=Tryz.prog) w 220 3 .f64 .i64 re _ (by kernel_rfl) (by kernel_rfl) e2
 clear x0 x1 e1 e2 hr P KN
 go_wp2
 go_ret
 exact⟨rfl,New.trans HB.out b1⟩
end Go.Proofs.YtmgfkpnghlmheaaGreat
namespace Go.Hm
open Go Go.RowKit
def orI:List Int→Int
 | []=>0
 |x::l=>if x=0 then orI l else x
theorem qhc{l:List Int}{k:Nat}(h:∀j,j<k→l.getD j 0=0)(hk:k<l.length)(hn:l.getD k 0≠0):orI l=l.getD k 0:=by
 induction l generalizing k with
 |nil=>simp at hk
 |cons x l ih=>
  cases k with
  |zero=>
   have:x≠0:=by simpa using hn
   simp[orI,this]
  |succ k=>
   have hx:x=0:=by simpa using h 0 (by omega)
   have:=ih (k:=k) (fun j hj=>by simpa using h (j+1) (by omega)) (by simpa using hk) (by simpa using hn);simp[orI,hx,this]
theorem qbc{l:List Int}(h:∀j,j<l.length→l.getD j 0=0):orI l=0:=by
 induction l with
 |nil=>rfl
 |cons x l ih=>
  have hx:x=0:=by simpa using h 0 (by simp)
  have:=ih (fun j hj=>by simpa using h (j+1) (by simpa using hj));simp[orI,hx,this]
def cmpP(x y u v:Int):Int:=orI [zia (x*x+y*y) (u*u+v*v),zia x u,zia y v]
theorem z5t(x:Int):zia x x=0:=by simp[zia]
end Go.Hm
namespace Go.Proofs.YtmgfkpnghlmheaaGreat
open Go.RowKit Go.Hm
set_option maxRecDepth 100000 in
theorem qhd{w:World}{A:Option Addr}{n c:Nat}{l:List Int}(h:Reads w w.heap.size 1 A n (zep .i64 l))(hn:n≤4611686018427387903):
 Calls Tryz.prog 200 #[.slice A n c] w (zdx (.int .i64 (orI l)) w):=by
 obtain rfl:=h.lenI;have K1:=Hz (fun(k:Nat) (h:∀j,j<k→l.getD j 0=0) (hk:k<l.length) (hn:l.getD k 0≠0)=>qhc h hk hn);have K2:=Hz (fun(h:∀j,j<l.length→l.getD j 0=0)=>qbc h);generalize orI l=O at*
 go_enter Tryz.func200,Tryz.ntmps200
 go_wp2
 go_loop [8] (fun i=>∃k:Nat,k≤l.length∧i= .int .i64 (k:Int)∧Hid (∀j,j<k→l.getD j 0=0)) (fun i=>l.length-(intOf i).toNat)
 case atStart=>exact⟨0,by omega,rfl,Hz (by intro j hj;omega)⟩
 case round=>
  obtain⟨k,hk,rfl,H⟩:=hrel;by_cases hlt:k<l.length
  ·obtain⟨ad,rfl,hbk,hcell⟩:=h.int hlt
   have M1:=Hz (fun(hn:l.getD k 0≠0)=>K1.out k H.out hlt hn)
   have M0:=Hz (fun(hz:l.getD k 0=0)=>show∀j,j<k+1→l.getD j 0=0 by
    intro j hj;rcases Nat.lt_succ_iff_lt_or_eq.1 hj with hj|rfl
    ·exact H.out j hj
    ·exact hz)
   generalize l.getD k 0=x at*;by_cases hx:x=0
   ·have M2:=Hz (M0.out hx)
    subst hx;clear M0 M1 K1 H
    go_wp2
    go_round
    case rel=>exact⟨k+1,by omega,by go_num,M2⟩
    case measure=>simp[intOf];omega
   ·have M2:=Hz (M1.out hx)
    have e1:(x != 0)=true:=by simpa using hx
    clear M0 M1 K1 H hx
    go_wp2
    go_ret
    exact⟨by rw[M2.out];rfl,rfl⟩
  ·obtain rfl:k=l.length:=by omega
   have M2:=Hz (K2.out H.out);clear K1 K2 H hlt
   go_wp2
   go_ret
   exact⟨by rw[M2.out];rfl,rfl⟩
set_option maxRecDepth 100000 in
theorem zun{w:World}{x y u v:Int}(hx: -2097152≤x∧x≤2097152)(hy: -2097152≤y∧y≤2097152)(hu: -2097152≤u∧u≤2097152)(hv: -2097152≤v∧v≤2097152):
 Calls Tryz.prog 177 #[.agg #[.int .i64 x,.int .i64 y],.agg #[.int .i64 u,.int .i64 v]] w (zap (.int .i64 (cmpP x y u v)) w):=by
 obtain⟨W0,hW0⟩:∃W,W=(w.alloc (.cells #[.int .i64 x,.int .i64 y] 59)).alloc (.cells #[.int .i64 u,.int .i64 v] 59):=⟨_,rfl⟩
 have b0:New w W0:=by rw[hW0];exact((Below.refl _ _).alloc (Nat.le_refl _) _).alloc (by simp) _
 have B0:Blk W0 w.heap.size 59 #[.int .i64 x,.int .i64 y]:=by rw[hW0];exact(Blk.new _ _ _).alloc _
 have C0:Blk W0 (w.heap.size+1) 59 #[.int .i64 u,.int .i64 v]:=by
  rw[hW0];have:=Blk.new (w.alloc (.cells #[.int .i64 x,.int .i64 y] 59)) 59 #[.int .i64 u,.int .i64 v];simpa using this
 have F1:=Hz (fun(W:World) (hW:New W0 W)=>zbe (B0.below hW B0.lt));have F2:=Hz (fun(W:World) (hW:New W0 W)=>zbe (C0.below hW C0.lt));have P1:=Hz (fun(W:World)=>zzh (w:=W) hx hy);have P2:=Hz (fun(W:World)=>zzh (w:=W) hu hv);have HW:=Hz hW0;have HB:=Hz b0;have HO:=Hz (show cmpP x y u v=orI [zia (x*x+y*y) (u*u+v*v),zia x u,zia y v] from rfl);generalize cmpP x y u v=O at*;generalize x*x+y*y=nx at*;generalize u*u+v*v=nu at*;clear B0 C0 hx hy hu hv hW0 b0
 go_enter Tryz.func177,Tryz.ntmps177
 go_wp2_with fail
 rw[←HW.out]
 refine zat New [(true,0),(true,2),(true,5),(true,6),(true,7),(true,8),(true,10),(true,11),(true,12),(true,13),(false,1),(false,3),(false,4),(false,9),(false,14),(false,15),(false,16),(true,17)]
  New.refl New.trans (by kernel_rfl) (by kernel_rfl) (by kernel_rfl) (by kernel_rfl) ?_
 have hU:=New.drew W0
 repeat(first
  |(refine za2 rfl rfl (v:=?_) (fun W hW=>?_) ?_;rotate_left;(obtain⟨x0,x1⟩:=F1.out W (New.trans hU hW);obtain⟨y0,y1⟩:=F2.out W (New.trans hU hW);go_simp<;> with_reducible rfl);simp only[Act.put,List.setIfInBounds_toArray,List.set_cons_zero,List.set_cons_succ])
  |(refine zba rfl rfl (fun K hK=>?_);go_simp
    first
     |(with_reducible refine(P1.out _).mono ?_)
     |(with_reducible refine(P2.out _).mono ?_)
    rintro e w9 ⟨rfl,c⟩;refine hK _ _ c ?_;clear hK
    replace hU:=New.trans hU c)
  |(refine zba rfl rfl (fun K hK=>?_);go_simp
    (with_reducible refine cmpI_any.mono ?_)
    rintro e w9 ⟨rfl,rfl⟩;refine hK _ _ (New.refl _) ?_
    clear hK))
 have bA:New w9 (w9.alloc (.cells #[.int .i64 (zia nx nu),.int .i64 (zia x u),.int .i64 (zia y v)] 3)):=(Below.refl _ _).alloc (Nat.le_refl _) _;have RL:=Hz (qhd (c:=3) (Reads.litV w9 3 #[.int .i64 (zia nx nu),.int .i64 (zia x u),.int .i64 (zia y v)] 3 (zep .i64 [zia nx nu,zia x u,zia y v]) rfl rfl) (by omega));rw[←HO.out] at RL;refine zba rfl rfl (fun K hK=>?_)
 go_simp
 refine hK _ _ bA ?_;clear hK;refine zba rfl rfl (fun K hK=>?_)
 go_simp
 refine RL.out.mono ?_;rintro e w8 ⟨rfl,rfl⟩;refine hK _ _ (New.refl _) ?_;clear hK;replace hU:=New.trans hU bA;refine za2 rfl rfl (v:=?_) (fun W hW=>?_) ?_
 rotate_left
 ·go_simp<;> with_reducible rfl
 simp only[Act.put,List.setIfInBounds_toArray,List.set_cons_zero,List.set_cons_succ];refine zc2 ?_
 go_wp2
 go_ret
 exact⟨rfl,New.trans HB.out hU⟩
end Go.Proofs.YtmgfkpnghlmheaaGreat
namespace Go.Hm
open Go Go.RowKit
section
variable{α:Type}{t:TypeId}{sz:Nat}{f:α→List Value}
abbrev z3m(α:Type):=Option Addr × Nat × List α
def zl1(d:z3m α):Value:= .slice d.1 d.2.2.length d.2.1
theorem znn{D:List (z3m α)}{j:Nat}{d x:z3m α}(h:j<D.length):(D.set j x).getD j d=x:=by
 rw[List.getD_eq_getElem?_getD,List.getElem?_set_self h];rfl
theorem zv8{D:List (z3m α)}{i j:Nat}{d x:z3m α}(h:i≠j):(D.set j x).getD i d=D.getD i d:=by
 rw[List.getD_eq_getElem?_getD,List.getElem?_set_ne (by omega),List.getD_eq_getElem?_getD]
structure RowsAp(t:TypeId)(sz:Nat)(f:α→List Value)(w:World)(B:Nat)(D:List (z3m α)):Prop where
 rows:∀d∈D,w.ownsRow B t sz (zl1 d) d.2.2.length (recs f d.2.2)
 apart:∀i j,i<D.length→j<D.length→i≠j→(zl1 (D.getD i (none,0,[]))).ownBlock=none∨(zl1 (D.getD i (none,0,[]))).ownBlock≠(zl1 (D.getD j (none,0,[]))).ownBlock
theorem RowsAp.later{w w':World}{B:Nat}{D:List (z3m α)}(h:RowsAp t sz f w B D)(hb:New w w'):RowsAp t sz f w' B D:=⟨fun d hd=>zau (h.rows d hd) hb,h.apart⟩
theorem RowsAp.keepT{w w':World}{B g:Nat}{t':TypeId}{cs:Array Value}{D:List (z3m α)}(h:RowsAp t sz f w B D)(hT:Blk w g t' cs)(hne:t≠t')(hg:w.grownBy w' (some g)):RowsAp t sz f w' B D:=
 ⟨fun d hd=>World.ownsRow.kept (h.rows d hd) hg (.inr (zal (h.rows d hd) hT hne)),h.apart⟩
theorem RowsAp.nil{w:World}{B n:Nat}:RowsAp t sz f w B (List.replicate n (none,0,[])):=by
 refine⟨fun d hd=>?_,fun i j hi hj hne=>?_⟩
 ·rw[List.eq_of_mem_replicate hd]
  exact zcp
 ·rw[List.length_replicate] at hi
  left;rw[List.getD_eq_getElem?_getD,List.getElem?_replicate,if_pos hi];rfl
theorem z8o{D:List (z3m α)}{j:Nat}(h:j<D.length):D.getD j (none,0,[])∈D:=by
 rw[List.getD_eq_getElem?_getD,List.getElem?_eq_getElem h];exact List.getElem_mem h
theorem RowsAp.at_{w:World}{B j:Nat}{D:List (z3m α)}(h:RowsAp t sz f w B D)(hj:j<D.length):w.ownsRow B t sz (zl1 (D.getD j (none,0,[]))) (D.getD j (none,0,[])).2.2.length (recs f (D.getD j (none,0,[])).2.2):=h.rows _ (z8o hj)
theorem RowsAp.put{w w':World}{B j:Nat}{D:List (z3m α)}{d:z3m α}(h:RowsAp t sz f w B D)(hj:j<D.length)(hd:w'.ownsRow B t sz (zl1 d) d.2.2.length (recs f d.2.2))(hg:w.grownBy w' (zl1 (D.getD j (none,0,[]))).ownBlock)
 (hat:(zl1 d).ownBlock=(zl1 (D.getD j (none,0,[]))).ownBlock∨∃g,(zl1 d).ownBlock=some g∧w.heap.size≤g):RowsAp t sz f w' B (D.set j d):=by
 have hap:∀i,i<D.length→i≠j→(zl1 (D.getD i (none,0,[]))).ownBlock=none∨(zl1 (D.getD i (none,0,[]))).ownBlock≠(zl1 d).ownBlock:=by
  intro i hi hne;rcases hat with hat|⟨g,hat,hgg⟩
  ·rw[hat]
   exact h.apart i j hi hj hne
  ·rcases hu:(zl1 (D.getD i (none,0,[]))).ownBlock with _|k
   ·exact .inl rfl
   ·right
    rw[hat];intro e;injection e with e;have:=(World.ownsRow.lt (h.at_ hi) _ hu).2;omega
 refine⟨fun x hx=>?_,fun i k hi hk hne=>?_⟩
 ·obtain⟨i,hi,rfl⟩:=List.getElem_of_mem hx
  have e:(D.set j d)[i]'hi=(D.set j d).getD i (none,0,[]):=by
   rw[List.getD_eq_getElem?_getD,List.getElem?_eq_getElem hi];rfl
  have hi:i<D.length:=by simpa using hi
  rw[e];by_cases hij:i=j
  ·subst hij
   rw[znn hj];exact hd
  ·rw[zv8 hij]
   exact World.ownsRow.kept (h.at_ hi) hg (h.apart i j hi hj hij)
 ·rw[List.length_set] at hi hk
  by_cases hij:i=j
  ·subst hij
   rw[znn hi,zv8 (fun e=>hne e.symm)];exact zfr (hap k hk (fun e=>hne e.symm))
  ·rw[zv8 hij]
   by_cases hkj:k=j
   ·subst hkj
    rw[znn hk];exact hap i hi hij
   ·rw[zv8 hkj]
    exact h.apart i k hi hk hne
end
end Go.Hm
