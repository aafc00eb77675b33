/- Merged. -/
import Derived.Test.YtmgfkpnghlmheaaGreatBun5
set_option maxHeartbeats 2000000
namespace Go.Proofs.Y
open Go.RowKit Go.Hm
def zc4(l:List Nat)(w:World)(e:Ending)(w':World):Prop:=
 ∃A n c,e= .returned (.slice A n c)/\Own w' w.heap.size 5 (.slice A n c) (za2 .u8 l)/\Below w.heap.size w w'
end Go.Proofs.Y
namespace Go.Hm
def ul(w p k B n:Nat):List Nat:=zp0 w p B++(B/2^(w*p)%2^k)::List.replicate (n-p-1) 0
theorem qew(w p B n:Nat)(h:p<n):zp0 w p B++List.replicate (n-p) 0=ul w p 0 B n:=by rw[ul,show n-p=(n-p-1)+1 by omega,List.replicate_succ,Nat.pow_zero,Nat.mod_one];rfl
theorem qgy(w p B n:Nat):ul w p w B n=zp0 w (p+1) B++List.replicate (n-(p+1)) 0:=by rw[ul,zp0,List.append_assoc,show n-p-1=n-(p+1) by omega];rfl
theorem qex(w p k B n:Nat):(ul w p k B n).getD p 0=B/2^(w*p)%2^k:=by rw[ul,List.getD_eq_getElem?_getD,List.getElem?_append_right (by rw[zea];exact Nat.le_refl _),zea];simp
theorem qey(w p k B n a t:Nat)(ha:a=w*p+k)(ht:t=B/2^a%2):(ul w p k B n).set p (B/2^(w*p)%2^k+t*2^k)=ul w p (k+1) B n:=by
 have e:B/2^(w*p)%2^(k+1)=B/2^(w*p)%2^k+t*2^k:=by rw[zly,Nat.div_div_eq_div_mul,<-Nat.pow_add,<-ha,<-ht,Nat.mul_comm t]
 rw[ul,ul,e,List.set_append_right _ _ (by rw[zea];exact Nat.le_refl _),zea,Nat.sub_self];rfl
theorem qgz(b:List Nat)(h:∀x∈b,x<256)(a q r:Nat)(hq:q=a/8/\r=a%8)(ha:a<8*b.length):b.getD q 0/2^r%2=num b/2^a%2:=by
 obtain⟨rfl,rfl⟩:=hq;rw[zy2 b h _ (by omega)];have e:(256:Nat)=2^(a%8)*2^(8-a%8):=by rw[<-Nat.pow_add,show a%8+(8-a%8)=8 by omega]
 have e2:2^(8-a%8)=2*2^(7-a%8):=by rw[<-Nat.pow_succ'];congr 1;omega
 rw[show num b/256^(a/8)%256=num b/256^(a/8)%(2^(a%8)*2^(8-a%8)) by rw[<-e],Nat.mod_mul_right_div_self,e2,Nat.mod_mul_right_mod,Nat.div_div_eq_div_mul,qes,<-Nat.pow_add];congr 3
 omega
theorem zy3(b:List Nat)(h:∀x∈b,x<256)(M r:Nat)(hl:b.length=(M+7)/8)(hr:r=M%8):num b<2^M↔(r=0\/b.getD (b.length-1) 0/2^r=0):=by
 have hb:=zqh b h;by_cases h0:r=0
 ·have:M=8*b.length:=by omega
  rw[qes,<-this] at hb;simp[h0,hb]
 ·have hl2:b.length-1<b.length:=by omega
  have hM:M=8*(b.length-1)+r:=by omega
  have e:=zy2 b h _ hl2;have hlt:num b/256^(b.length-1)<256:=by apply Nat.div_lt_of_lt_mul;rw[<-Nat.pow_succ,show(b.length-1).succ=b.length by omega];exact hb
  rw[Nat.mod_eq_of_lt hlt] at e;rw[e,hM,Nat.pow_add,<-qes];constructor
  ·intro hh
   exact .inr (Nat.div_eq_of_lt (Nat.div_lt_of_lt_mul hh))
  ·rintro(hh|hh)
   ·exact absurd hh h0
   ·have h1:num b/256^(b.length-1)<2^r:=by
     rcases Nat.lt_or_ge (num b/256^(b.length-1)) (2^r) with h2|h2
     ·exact h2
     ·have:=Nat.div_pos h2 (Nat.two_pow_pos r)
      omega
    rw[Nat.mul_comm];exact(Nat.div_lt_iff_lt_mul (Nat.pow_pos (by omega))).1 h1
theorem qaa(v k t:Nat)(hv:v<2^k)(ht:t<=1)(hk:k<64):bits .or .u64 (v:Int) (IntKind.u64.wrap ((t:Int)*2^k))=((v+t*2^k:Nat):Int):=by
 have h7:2^(k+1)<=2^64:=Nat.pow_le_pow_right (by omega) (by omega);rw[Nat.pow_succ] at h7;have hq:t*2^k<=1*2^k:=Nat.mul_le_mul_right _ ht;have e:IntKind.u64.wrap ((t:Int)*2^k)=((t*2^k:Nat):Int):=by
  have e2:((t*2^k:Nat):Int)=(t:Int)*2^k:=by simp
  rw[<-e2,IntKind.wrap_u64];omega
 rw[e,u64_or_nat _ _ (by omega) (by omega),Nat.or_comm,<-Nat.mul_comm (2^k),<-Nat.two_pow_add_eq_or_of_lt hv,Nat.add_comm]
theorem qab(y r t:Nat)(hy:y<256)(ht:t=y/2^r%2):bits .and .u8 ((y:Int)/2^r) 1=(t:Int):=by have h1:y/2^r<=y:=Nat.div_le_self _ _;have:=u8_and_nat (y/2^r) 1 (by omega) (by omega);rw[Nat.and_one_is_mod,<-ht] at this;rw[<-this];congr 1
open Go Go.RowKit
abbrev zh4:zab:=(false,0,[],0,0)
def zgs(s:List zab × List Nat)(c:zab):List zab × List Nat:=
 if c∈s.1 then(s.1,s.2++[s.1.idxOf c]) else(s.1++[c],s.2++[s.1.length])
def zgf(l:List zab):List zab × List Nat:=l.foldl zgs ([],[])
theorem zg2(l:List zab)(c:zab):zgf (l++[c])=zgs (zgf l) c:=by simp[zgf]
def zen(s:Option Nat)(p:Nat):Option Nat:=
 match s with
 |none=>none
 |some k=>if k<p then none else if p=k then some (k+1) else some k
def ordL(l:List Nat):Option Nat:=l.foldl zen (some 0)
theorem ze6(l:List Nat)(p:Nat):ordL (l++[p])=zen (ordL l) p:=by simp[ordL]
theorem zgg{α:Type}{C:List α->Prop}(h0:C [])(h1:∀l x,C l->C (l++[x])):∀l,C l:=fun l=>by
 have:∀k,∀l:List α,l.length=k->C l:=by
  intro k;induction k with
  |zero=>intro l hl;rw[List.length_eq_zero_iff.1 hl];exact h0
  |succ k ih=>
   intro l hl;have hne:l≠ []:=by intro e;subst e;simp at hl
   rw[<-List.dropLast_concat_getLast hne];exact h1 _ _ (ih _ (by simp[hl]))
 exact this _ l rfl
theorem z4z{l:List Nat}{m:Nat}(h:ordL l=some m)(k:Nat):∃j,ordL (l.take k)=some j:=by
 have key:∀l:List Nat,∀m,ordL l=some m-> ∀k,∃j,ordL (l.take k)=some j:=by
  refine zgg ?_ ?_
  ·intro m h k;exact⟨m,by simpa using h⟩
  ·intro l x ih m h k
   by_cases hk:k<=l.length
   ·rw[List.take_append_of_le_length hk]
    rw[ze6] at h;cases hl:ordL l with
    |none=>rw[hl] at h;simp[zen] at h
    |some j=>exact ih j hl k
   ·rw[List.take_of_length_le (by simp;omega)]
    exact⟨m,h⟩
 exact key l m h k
theorem zsd:∀(l:List Nat) (m:Nat),ordL l=some m-> ∀p∈l,p<m:=by
 refine zgg ?_ ?_
 ·intro m _ p hp;simp at hp
 ·intro l x ih m h p hp
  rw[ze6] at h;cases hl:ordL l with
  |none=>rw[hl] at h;simp[zen] at h
  |some j=>
   rw[hl] at h;have hi:=ih j hl;unfold zen at h;dsimp only at h;split at h
   ·cases h
   ·split at h
    all_goals
     injection h with h;rcases List.mem_append.1 hp with hp|hp
     ·have:=hi p hp;omega
     ·rw[List.mem_singleton.1 hp];omega
structure IsEnt(l E:List zab)(P:List Nat):Prop where
 nodup:E.Nodup
 map:P.map (fun p=>E.getD p zh4)=l
 ord:ordL P=some E.length
theorem IsEnt.lt{l E:List zab}{P:List Nat}(h:IsEnt l E P):∀p∈P,p<E.length:=zsd P _ h.ord
theorem IsEnt.len{l E:List zab}{P:List Nat}(h:IsEnt l E P):P.length=l.length:=by rw[<-h.map,List.length_map]
theorem zt7{α:Type}{E:List α}{c d:α}{p:Nat}(h:p<E.length):(E++[c]).getD p d=E.getD p d:=by rw[List.getD_eq_getElem?_getD,List.getD_eq_getElem?_getD,List.getElem?_append_left h]
theorem zk9:∀l,IsEnt l (zgf l).1 (zgf l).2:=by
 refine zgg ?_ ?_
 ·exact⟨by simp[zgf],by simp[zgf],by simp[zgf,ordL]⟩
 ·intro l c h
  rw[zg2];obtain⟨h1,h2,h3⟩:=h;have hlt:=zsd _ _ h3;generalize zgf l=s at*;obtain⟨E,P⟩:=s;dsimp only at h1 h2 h3 hlt;unfold zgs;dsimp only;split
  ·rename_i hc
   have hi:E.idxOf c<E.length:=List.idxOf_lt_length_iff.2 hc;refine⟨h1,?_,?_⟩
   ·rw[List.map_append,h2]
    congr 1
    simp only[List.map_cons,List.map_nil];rw[List.getD_eq_getElem?_getD,List.getElem?_eq_getElem hi,List.getElem_idxOf hi];rfl
   ·rw[ze6,h3]
    unfold zen;dsimp only;rw[if_neg (by omega),if_neg (by omega)]
  ·rename_i hc
   refine⟨?_,?_,?_⟩
   ·rw[List.nodup_append]
    refine⟨h1,by simp,?_⟩;intro a ha b hb e;rw[List.mem_singleton.1 hb] at e;exact hc (e▸ha)
   ·rw[List.map_append]
    congr 1
    ·rw[<-h2]
     exact List.map_congr_left fun p hp=>zt7 (hlt p hp)
    ·simp
   ·rw[ze6,h3]
    unfold zen;dsimp only;rw[if_neg (by omega),if_pos rfl];simp
theorem z1m{E:List zab}(h:E.Nodup){p:Nat}(hp:p<E.length):E.idxOf (E.getD p zh4)=p:=by
 rw[List.getD_eq_getElem?_getD,List.getElem?_eq_getElem hp,Option.getD_some];have hi:E.idxOf E[p]<E.length:=List.idxOf_lt_length_iff.2 (List.getElem_mem hp);have:=List.getElem_idxOf hi;have hp':=List.pairwise_iff_getElem.1 h;rcases Nat.lt_trichotomy (E.idxOf E[p]) p with hlt|heq|hgt
 ·exact absurd this (hp' _ _ hi hp hlt)
 ·exact heq
 ·exact absurd this.symm (hp' _ _ hp hi hgt)
theorem IsEnt.uniq:∀{l E:List zab} {P:List Nat},IsEnt l E P->zgf l=(E,P):=by
 have key:∀P:List Nat,∀l E,IsEnt l E P->zgf l=(E,P):=by
  refine zgg ?_ ?_
  ·intro l E h
   have h1:=h.map;have h2:=h.ord;simp only[List.map_nil] at h1;subst h1;simp[ordL] at h2;have:E=[]:=List.length_eq_zero_iff.1 (by omega);subst this;rfl
  ·intro P p ih l E h
   obtain⟨h1,h2,h3⟩:=h;rw[List.map_append] at h2;simp only[List.map_cons,List.map_nil] at h2;rw[ze6] at h3;subst h2;cases hk:ordL P with
   |none=>rw[hk] at h3;simp[zen] at h3
   |some k=>
    rw[hk] at h3;have hlt:=zsd _ _ hk;unfold zen at h3;dsimp only at h3;rw[zg2];split at h3
    ·cases h3
    ·split at h3
     ·rename_i hpk
      injection h3 with h3;subst hpk;have e1:E=E.take p++[E.getD p zh4]:=by
       have hp:p<E.length:=by omega
       conv=>lhs;rw[<-List.take_append_drop p E,List.drop_eq_getElem_cons hp,List.drop_of_length_le (by omega)]
       rw[List.getD_eq_getElem?_getD,List.getElem?_eq_getElem hp];rfl
      have hl:(E.take p).length=p:=by rw[List.length_take];omega
      have hm:(P.map fun p=>E.getD p zh4)=P.map fun q=>(E.take p).getD q zh4:=by
       refine List.map_congr_left fun q hq=>?_
       have:=hlt q hq;conv=>lhs;rw[e1]
       exact zt7 (by omega)
      have hi:=ih (P.map fun p=>E.getD p zh4) (E.take p) ⟨h1.sublist (List.take_sublist _ _),hm.symm,by rw[hk,hl]⟩;rw[hi];have hn:E.getD p zh4∉E.take p:=by rw[e1,List.nodup_append] at h1;intro hm;exact h1.2.2 _ hm _ (by simp) rfl
      unfold zgs;dsimp only;rw[if_neg hn,hl,<-e1]
     ·rename_i h4 h5
      injection h3 with h3;have hp:p<E.length:=by omega
      have hi:=ih (P.map fun p=>E.getD p zh4) E ⟨h1,rfl,by rw[hk,h3]⟩;rw[hi];have hm:E.getD p zh4∈E:=by rw[List.getD_eq_getElem?_getD,List.getElem?_eq_getElem hp];exact List.getElem_mem hp
      unfold zgs;dsimp only;rw[if_pos hm,z1m h1 hp]
 intro l E P h;exact key P l E h
theorem ziz:∀l:List zab,∀c,c∈(zgf l).1↔c∈l:=by
 refine zgg ?_ ?_
 ·intro c;simp[zgf]
 ·intro l x ih c
  rw[zg2];unfold zgs;split
  ·rename_i hx
   have:=(ih x).1 hx;rw[ih c,List.mem_append,List.mem_singleton];constructor
   ·exact fun h=> .inl h
   ·rintro(h|rfl)
    ·exact h
    ·exact this
  ·dsimp only
   rw[List.mem_append,List.mem_append,ih c]
theorem zla:∀l:List zab,(zgf l).1.length<=l.length:=by
 refine zgg ?_ ?_
 ·simp[zgf]
 ·intro l x ih
  rw[zg2];unfold zgs;split
  ·simp;omega
  ·simp;omega
theorem z1n:∀l:List zab,(zgf l).1.length=l.length↔l.Nodup:=by
 refine zgg ?_ ?_
 ·simp[zgf]
 ·intro l x ih
  have hle:=zla l;rw[zg2];unfold zgs;split
  ·rename_i hx
   have hx:=(ziz l x).1 hx;constructor
   ·intro h
    simp only[List.length_append,List.length_cons,List.length_nil] at h;omega
   ·intro h
    rw[List.nodup_append] at h;exact absurd rfl (h.2.2 x hx x (by simp))
  ·rename_i hx
   have hx: ¬x∈l:=fun h=>hx ((ziz l x).2 h)
   simp only[List.length_append,List.length_cons,List.length_nil,Nat.add_right_cancel_iff];rw[ih,List.nodup_append];constructor
   ·intro h
    refine⟨h,by simp,?_⟩;intro a ha b hb e;rw[List.mem_singleton.1 hb] at e;exact hx (e▸ha)
   ·exact fun h=>h.1
end Go.Hm
set_option maxRecDepth 100000
namespace Go.Proofs.Y
open Go.RowKit Go.Hm Go.WideShapes Go.ChangeShapes
def zt9(w:World)(e:Ending)(w':World):Prop:=e= .returned (.bool true)/\Below w.heap.size w w'
section
variable{H:Type}{enc:TypeId × Value->H}{W:World}{base:Nat}{v:Value}{d:DataW H}{ps:List MemPlace}
end
open Go.RowKit Go.Hm
set_option maxRecDepth 100000 in
theorem qe8{b b':Bool}{n n':Int}{s s':ByteArray}{x x' y y':Int}(W:World):
 (binOp .neq 61 (.agg #[.bool b,.int .i64 n,.string s,.int .i64 x,.int .i64 y]) (.agg #[.bool b',.int .i64 n',.string s',.int .i64 x',.int .i64 y'])).run Tryz.prog W= .ok (.bool (!(b==b'&&n==n'&&s.toList==s'.toList&&x==x'&&y==y'))) W:=by
 by_cases h1:b=b'<;> by_cases h2:n=n'<;> by_cases h3:s.toList=s'.toList<;> by_cases h4:x=x'<;> by_cases h5:y=y';all_goals go_simp
end Go.Proofs.Y
namespace Go.Hm
open Go Go.RowKit
def zeb(x y:Int):Int:=if x<y then-1 else if y<x then 1 else 0
end Go.Hm
namespace Go.Proofs.Y
open Go.RowKit Go.Hm
set_option maxRecDepth 100000 in
theorem z57{w:World}{x:Int}:Calls Tryz.prog 198 #[.int .i64 x] w (zdk (.bool false) w):=by
 go_enter Tryz.func198,Tryz.ntmps198
 go_wp2
 go_ret
 exact⟨by simp,rfl⟩
set_option maxRecDepth 100000 in
theorem cmpI_any{w:World}{x y:Int}:Calls Tryz.prog 175 #[.int .i64 x,.int .i64 y] w (zdk (.int .i64 (zeb x y)) w):=by
 have P:=fun z:Int=>Hz (z57 (w:=w) (x:=z))
 have K1:=Hz (fun(h:x<y)=>show zeb x y= -1 by rw[zeb,if_pos h]);have K2:=Hz (fun(h:y<x)=>show zeb x y=1 by rw[zeb,if_neg (by omega),if_pos h]);have K3:=Hz (fun(h: ¬x<y) (h2: ¬y<x)=>show zeb x y=0 by rw[zeb,if_neg h,if_neg h2]);generalize zeb x y=O at*;by_cases h1:x<y
 ·have O1:=Hz (K1.out h1)
  clear K1 K2 K3;go_enter Tryz.func175,Tryz.ntmps175
  go_wp2_with (first|(go_at_call 198;refine((P _).out).mono ?_;rintro e w' ⟨rfl,rfl⟩))
  go_ret
  exact⟨by rw[O1.out];rfl,rfl⟩
 ·by_cases h2:y<x
  ·have O1:=Hz (K2.out h2)
   clear K1 K2 K3;go_enter Tryz.func175,Tryz.ntmps175
   go_wp2_with (first|(go_at_call 198;refine((P _).out).mono ?_;rintro e w' ⟨rfl,rfl⟩))
   go_ret
   exact⟨by rw[O1.out];rfl,rfl⟩
  ·have O1:=Hz (K3.out h1 h2)
   clear K1 K2 K3;go_enter Tryz.func175,Tryz.ntmps175
   go_wp2_with (first|(go_at_call 198;refine((P _).out).mono ?_;rintro e w' ⟨rfl,rfl⟩))
   go_ret
   exact⟨by rw[O1.out];rfl,rfl⟩
open Go.RowKit Go.Hm
def qft(x y:Int)(w:World)(e:Ending)(w':World):Prop:=∃a b,e= .returned (.complex .f64 a b)/\ztt x y a b/\New w w'
set_option maxRecDepth 100000 in
theorem zg4{w:World}{x y:Int}(hx:x.natAbs<9007199254740992)(hy:y.natAbs<9007199254740992):
 Calls Tryz.prog 220 #[.agg #[.int .i64 x,.int .i64 y]] w (qft x y w):=by
 obtain⟨W0,hW0⟩:∃W,W=w.alloc (.cells #[.int .i64 x,.int .i64 y] 59):=⟨_,rfl⟩;have b0:New w W0:=by rw[hW0];exact(Below.refl _ _).alloc (Nat.le_refl _) _
 have B0:Blk W0 w.heap.size 59 #[.int .i64 x,.int .i64 y]:=by rw[hW0];exact Blk.new _ _ _
 obtain⟨x0,x1⟩:=za7 B0;rw[hW0] at x0 x1;have R:=Hz (show ztt x y (floatOfInt .f64 x) (floatOfInt .f64 y) from⟨zun x hx,zun y hy⟩);clear B0 hx hy;go_enter Tryz.func220,Tryz.ntmps220
 go_wp2
 go_ret
 exact⟨_,_,rfl,R.out,by rw[<-hW0];exact b0⟩
set_option maxRecDepth 100000 in
theorem zzx{w:World}{x y:Int}(hx: -2097152<=x/\x<=2097152)(hy: -2097152<=y/\y<=2097152):
 Calls Tryz.prog 201 #[.agg #[.int .i64 x,.int .i64 y]] w (zak (.int .i64 (x*x+y*y)) w):=by
 obtain⟨W0,hW0⟩:∃W,W=w.alloc (.cells #[.int .i64 x,.int .i64 y] 59):=⟨_,rfl⟩;have b0:New w W0:=by rw[hW0];exact(Below.refl _ _).alloc (Nat.le_refl _) _
 have B0:Blk W0 w.heap.size 59 #[.int .i64 x,.int .i64 y]:=by rw[hW0];exact Blk.new _ _ _
 obtain⟨x0,x1⟩:=za7 B0;rw[hW0] at x0 x1;have P:=Hz (zg4 (w:=W0) (x:=x) (y:=y) (by omega) (by omega));have KN:=Hz (fun(a b:Nat) (h:ztt x y a b)=>z59 h hx hy);have HW:=Hz hW0;have HB:=Hz b0;clear B0 hx hy hW0 b0;go_enter Tryz.func201,Tryz.ntmps201
 go_wp2_with fail
 rw[<-HW.out];refine P.out.mono ?_;rintro e w1 ⟨a,b,rfl,hr,b1⟩;obtain⟨re,im,e1,e2⟩:=KN.out a b hr;have u:=z2d .f64 b;have m:=fun w:World=>run_complex_mul (P:=Tryz.prog) w 218 a b a (Op.negFloat .f64 b) re im e1
 have f:=fun w:World=>run_convert_float_int (P:=Tryz.prog) w 220 3 .f64 .i64 re _ (by kernel_rfl) (by kernel_rfl) e2
 clear x0 x1 e1 e2 hr P KN;go_wp2
 go_ret
 exact⟨rfl,New.trans HB.out b1⟩
end Go.Proofs.Y
namespace Go.Hm
open Go Go.RowKit
abbrev nm(l:List za1)(i:Nat):List Nat:=(l.getD i ([],0,false)).1
def zdm(a:List za1)(s:List Nat):Prop:=s.length=0\/100<s.length\/s∈a.map (·.1)
instance(a:List za1)(s:List Nat):Decidable (zdm a s):=by unfold zdm;exact inferInstance
def zhw(a:List za1)(s:List Nat)(t:Int):Int:=if zdm a s then 1 else if 0<=t/\t<=3 then 0 else 3
def zff(a:List za1):List za1->Int
 | []=>0
 |c::l=>if zhw a c.1 c.2.1=0 then zff (a++[c]) l else zhw a c.1 c.2.1
def zb5(l:List za1):Int:=if 64<l.length then 4 else zff [] l
theorem zop{l:List za1}(h:64<l.length):zb5 l=4:=by rw[zb5,if_pos h]
theorem zq9{l:List za1}(h: ¬64<l.length):zb5 l=zff (l.take 0) (l.drop 0):=by rw[zb5,if_neg h];rfl
theorem zoq(l:List za1)(k:Nat)(h:k<l.length):zff (l.take k) (l.drop k)=if zhw (l.take k) (nm l k) (l.getD k ([],0,false)).2.1=0 then zff (l.take (k+1)) (l.drop (k+1)) else zhw (l.take k) (nm l k) (l.getD k ([],0,false)).2.1:=by rw[zd6 l k ([],0,false) h,zff,zae l k ([],0,false) h]
theorem zra(l:List za1):zff (l.take l.length) (l.drop l.length)=0:=by rw[List.drop_length];rfl
theorem zor{l:List za1}{s:List Nat}{k:Nat}(hk:k<l.length):s∈(l.take (k+1)).map (·.1)↔s∈(l.take k).map (·.1)\/nm l k=s:=by rw[zae l k ([],0,false) hk,List.map_append,List.mem_append];simp[eq_comm,nm]
theorem zu6{l:List za1}{s:List Nat}{k:Nat}(hk:k<l.length):zdm (l.take (k+1)) s↔zdm (l.take k) s\/nm l k=s:=by
 unfold zdm;rw[zor hk];constructor
 ·rintro(h|h|h|h)
  ·exact .inl (.inl h)
  ·exact .inl (.inr (.inl h))
  ·exact .inl (.inr (.inr h))
  ·exact .inr h
 ·rintro((h|h|h)|h)
  ·exact .inl h
  ·exact .inr (.inl h)
  ·exact .inr (.inr (.inl h))
  ·exact .inr (.inr (.inr h))
end Go.Hm
namespace Go.Proofs.Y
open Go.RowKit Go.Hm
theorem qi0(a b:List Nat)(ha:∀x∈a,x<256)(hb:∀x∈b,x<256):((zac a).toList==(zac b).toList)=decide (a=b):=zhe ha hb
set_option maxRecDepth 100000 in
theorem zu7{w:World}{A:Option Addr}{n c:Nat}{L:List za1}{s:List Nat}{t:Int}{nu:Bool}(h:Reads w w.heap.size 3 A n (recs zhq L))(hL:∀x∈L,∀z∈x.1,z<256)(hs:∀z∈s,z<256)(hsl:s.length<=140737488351232)(hn:n<=4611686018427387903):
 Calls Tryz.prog 90 #[.slice A n c,.agg #[.string (zac s),.int .i64 t,.bool nu]] w (zak (.int .i64 (zhw L s t)) w):=by
 obtain rfl:=h.lenC;have z1:=za4 s;have K1:=Hz (fun(hh:zdm L s)=>show zhw L s t=1 by rw[zhw,if_pos hh]);have K2:=Hz (fun(hh: ¬zdm L s)=>show zhw L s t=if 0<=t/\t<=3 then 0 else 3 by rw[zhw,if_neg hh]);generalize zhw L s t=O at*;obtain⟨W0,hW0⟩:∃W,W=w.alloc (.cells #[.string (zac s),.int .i64 t,.bool nu] 70):=⟨_,rfl⟩;have b0:New w W0:=by rw[hW0];exact(Below.refl _ _).alloc (Nat.le_refl _) _
 have B0:Blk W0 w.heap.size 70 #[.string (zac s),.int .i64 t,.bool nu]:=by rw[hW0];exact Blk.new _ _ _
 obtain⟨x0,x1,x2⟩:=zad B0;rw[hW0] at x0 x1 x2;by_cases h0:s.length=0
 ·have O1:=Hz (K1.out (.inl h0))
  have e1:((s.length:Int)==0)=true:=by simp[h0]
  clear h0 K1 K2 B0 h;go_enter Tryz.func90,Tryz.ntmps90
  go_wp2
  go_ret
  exact⟨by rw[O1.out];rfl,by rw[<-hW0];exact b0⟩
 ·have e1:((s.length:Int)==0)=false:=beq_eq_false_iff_ne.2 (by omega)
  by_cases h1:100<s.length
  ·have O1:=Hz (K1.out (.inr (.inl h1)))
   have e2:decide (100<(s.length:Int))=true:=by simp;omega
   clear h0 K1 K2 B0 h;go_enter Tryz.func90,Tryz.ntmps90
   go_wp2
   go_ret
   exact⟨by rw[O1.out];rfl,by rw[<-hW0];exact b0⟩
  ·have e2:decide (100<(s.length:Int))=false:=by simp;omega
   have K1:=Hz (fun(hh:s∈L.map (·.1))=>K1.out (.inr (.inr hh)));have K2:=Hz (fun(hh:s∉L.map (·.1))=>K2.out (fun h'=>by rcases h' with h'|h'|h';exact h0 h';exact h1 h';exact hh h'));have r0:=Reads.later h b0;clear h0 h1 h;go_enter Tryz.func90,Tryz.ntmps90
   go_wp2
   rw[<-hW0];clear x0 x1 x2 hW0;go_loopw [19] (fun i wr=>∃k:Nat,i= .int .i64 (k:Int)/\k<=L.length/\New W0 wr/\Hid (s∉(L.take k).map (·.1))) (fun i _=>L.length-(intOf i).toNat)
   case atStart=>exact⟨0,rfl,by omega,New.refl _,Hz (by simp)⟩
   case round=>
    obtain⟨k,rfl,hk,hb,H⟩:=hrel;have B1:=B0.below hb B0.lt;obtain⟨x0,x1,x2⟩:=zad B1;by_cases hlt:k<L.length
    ·obtain⟨ad,rfl,hbk,c0,c1,c2⟩:=(Reads.later r0 hb).colT hlt
     have M:=Hz (zor (s:=s) hlt);have hq:=qi0 (nm L k) s (by rw[nm,List.getD_eq_getElem?_getD,List.getElem?_eq_getElem hlt];exact hL _ (List.getElem_mem hlt)) hs;have MM:=Hz (show nm L k=s->s∈L.map (·.1) from fun e=>by have:=(zor (s:=s) hlt).2 (.inr e);exact List.mem_of_mem_take (by rwa[List.map_take] at this))
     unfold nm at*;generalize(L.getD k ([],0,false)).1=s2 at*;generalize(L.getD k ([],0,false)).2.1=t2 at*;generalize(L.getD k ([],0,false)).2.2=n2 at*;have X:=Hz (zad (B1.alloc (.cells #[.string (zac s2),.int .i64 t2,.bool n2] 70)));have Y:=Hz (zad (Blk.new wr 70 #[.string (zac s2),.int .i64 t2,.bool n2]));have hiz:(k:Int)<(L.length:Int):=by omega
     have b1:New W0 (wr.alloc (.cells #[.string (zac s2),.int .i64 t2,.bool n2] 70)):=Below.alloc hb hb.size _;obtain⟨q0,q1,q2⟩:=X.out;obtain⟨p0,p1,p2⟩:=Y.out;by_cases he:s2=s
     ·rw[decide_eq_true he] at hq
      have O1:=Hz (K1.out (MM.out he));clear he x0 x1 x2;go_wp2
      go_ret
      exact⟨by rw[O1.out];rfl,New.trans b0 b1⟩
     ·rw[decide_eq_false he] at hq
      have H2:=Hz (show s∉(L.take (k+1)).map (·.1) from fun hh=>by
       rcases M.out.1 hh with hh|hh
       ·exact H.out hh
       ·exact he hh)
      clear he x0 x1 x2;go_wp2
      go_roundw
      case rel=>exact⟨k+1,by go_num,by omega,b1,H2⟩
      case measure=>simp[intOf];omega
    ·obtain rfl:k=L.length:=by omega
     have H2:=H.out;rw[List.take_length] at H2;have O1:=Hz (K2.out H2);clear H H2 K1 K2;go_wp2
     all_goals go_ret
     all_goals
      simp only[beq_iff_eq,beq_eq_false_iff_ne,ne_eq] at*;refine⟨?_,New.trans b0 hb⟩;rw[O1.out];first
       |(rw[if_pos (by omega)];rfl)
       |(rw[if_neg (by omega)];rfl)
set_option maxRecDepth 100000 in
theorem zm6{w:World}{A:Option Addr}{n c:Nat}{L:List za1}(h:Reads w w.heap.size 3 A n (recs zhq L))(hL:∀x∈L,(∀z∈x.1,z<256)/\x.1.length<=140737488351232)(hc:n<=c)(hn:n<=4611686018427387903):
 Calls Tryz.prog 50 #[.slice A n c] w (zak (.int .i64 (zb5 L)) w):=by
 obtain rfl:=h.lenC;by_cases hm:64<L.length
 ·rw[zop hm]
  go_enter Tryz.func50,Tryz.ntmps50
  go_wp2
  go_ret
  exact⟨rfl,New.refl _⟩
 ·have HO:=Hz (zq9 hm)
  generalize zb5 L=O at*;go_enter Tryz.func50,Tryz.ntmps50
  go_wp2
  go_loopw [11] (fun i wr=>∃k:Nat,i= .int .i64 (k:Int)/\k<=L.length/\New w wr/\Hid (O=zff (L.take k) (L.drop k))) (fun i _=>L.length-(intOf i).toNat)
  case atStart=>exact⟨0,rfl,by omega,New.refl _,HO⟩
  case round=>
   obtain⟨k,rfl,hk,hb,H⟩:=hrel;by_cases hlt:k<L.length
   ·have r1:=Reads.later h hb
    obtain⟨ad,rfl,hbk,c0,c1,c2⟩:=r1.colT hlt;have hx:(L.getD k ([],0,false))∈L:=by rw[List.getD_eq_getElem?_getD,List.getElem?_eq_getElem hlt];exact List.getElem_mem hlt
    obtain⟨y1,y2⟩:=hL _ hx;have r2:=r1.take (k:=k) (by omega);rw[zt6 (f:=zhq) (sz:=3) (fun _=>rfl) L k (by omega)] at r2;have S:=H.out;rw[zoq L k hlt] at S;have P:=fun(W:World) (hW:New wr W)=>zu7 (c:=c) (t:=(L.getD k ([],0,false)).2.1) (nu:=(L.getD k ([],0,false)).2.2) (Reads.later r2 hW) (fun x hx=>(hL x (List.mem_of_mem_take hx)).1) y1 y2 (by omega)
    have P:=Hz P;generalize hck:zhw (L.take k) (L.getD k ([],0,false)).1 (L.getD k ([],0,false)).2.1=ck at*;have HS:=Hz S;generalize(L.getD k ([],0,false)).1=s2 at*;generalize(L.getD k ([],0,false)).2.1=t2 at*;generalize(L.getD k ([],0,false)).2.2=n2 at*;clear S hck H hx y1 y2 r1 r2;have hiz:(k:Int)<(L.length:Int):=by omega
    have hiz2:(k:Int)<=(c:Int):=by omega
    obtain⟨W1,hW1⟩:∃W,W=wr.alloc (.cells #[.string (zac s2),.int .i64 t2,.bool n2] 70):=⟨_,rfl⟩;have b1:New wr W1:=by rw[hW1];exact(Below.refl _ _).alloc (Nat.le_refl _) _
    have Y:Blk W1 wr.heap.size 70 #[.string (zac s2),.int .i64 t2,.bool n2]:=by rw[hW1];exact Blk.new _ _ _
    go_wp2_with fail
    rw[<-hW1];clear hW1;refine zam New [(true,0),(true,1),(true,2),(true,3),(false,4),(true,5)]
     New.refl New.trans (by kernel_rfl) (by kernel_rfl) (by kernel_rfl) (by kernel_rfl) ?_
    have hU:=New.trans b1 (New.drew W1);have hV:=New.refl W1.drew;repeat(first
     |(refine za8 rfl rfl (fun K hK=>?_);go_simp
       (with_reducible refine(P.out _ hU).mono ?_)
       rintro e w9 ⟨rfl,b9⟩;refine hK _ _ b9 ?_;clear hK;replace hU:=New.trans hU b9;replace hV:=New.trans hV b9)
     |(refine zaq rfl rfl (v:=?_) (fun W hW=>?_) ?_;rotate_left;(obtain⟨x0,x1,x2⟩:=zad (Y.below (New.trans (New.drew W1) (New.trans hV hW)) Y.lt);go_simp<;> with_reducible rfl);simp only[Act.put,List.setIfInBounds_toArray,List.set_cons_zero,List.set_cons_succ]))
    refine zb2 ?_;clear Y b1 P;by_cases hz:ck=0
    ·have HS2:=Hz (show O=zff (L.take (k+1)) (L.drop (k+1)) by rw[HS.out,if_pos hz])
     subst hz;go_wp2
     go_roundw
     case rel=>exact⟨k+1,by go_num,by omega,New.trans hb hU,HS2⟩
     case measure=>simp[intOf];omega
    ·have HS2:=Hz (show O=ck by rw[HS.out,if_neg hz])
     have e1:(ck != 0)=true:=by simpa using hz
     clear hz;go_wp2
     go_ret
     exact⟨by rw[HS2.out];rfl,New.trans hb hU⟩
   ·obtain rfl:k=L.length:=by omega
    have HS2:=Hz (show O=0 by rw[H.out,zra]);go_wp2
    go_ret
    exact⟨by rw[HS2.out];rfl,hb⟩
end Go.Proofs.Y
namespace Go.Hm
open Go Go.RowKit
section
variable{P:Program}{o:Oper}{a:Act}{Q:Exit->Act->World->Prop}{K:Act->World->Prop}
theorem z7n{w:World}{t e:TypeId}{z:Value}{sz bytes:Nat}(E:ElT P t e z sz bytes)(s x:Operand)
 (ho:o.op= .call {callee:= .builtin .append,args:= #[s,x],argTypes:= #[t,t]})
 {W:World}{B base n m c:Nat}{v:Value}{xs news:List Value}{A:Option Addr}(hown:w.ownsRow base e sz v n xs)(hr:Reads w w.heap.size sz A m news)(hs:a.eval s=v)(hx:a.eval x= .slice A m c)
 (hb:Below B W w)(hbB:B<=base)(hbase:base<=w.heap.size)(h1:∀u∈news,u.oneCell'=true)
 (hn:(n+m)*bytes<=140737488355328)(hm:n+m<=maxLen)
 (h:∀A' c' w',n+m<=c'->c'<=maxLen->w'.ownsRow base e sz (.slice A' (n+m) c') (n+m) (xs++news)->w.grownBy w' v.ownBlock->Below B W w'->K (a.put o.dst (.slice A' (n+m) c')) w'):
 Oper.wp P o a w K Q:=by
 obtain⟨i,hi,hz0,hz1,hz2⟩:=info_parts E.hi;rcases A with _|ad
 ·have hm0:m=0:=by
   rcases Nat.eq_zero_or_pos m with h0|h0
   ·exact h0
   ·obtain⟨ad,h',_⟩:=hr.2 h0
    cases h'
  subst hm0;have hn0:news=[]:=List.eq_nil_of_length_eq_zero (by have:=hr.1;omega);subst hn0;have hrun:∀ty,(Builtin.append_ #[t,t] ty #[v,.slice none 0 c]).run P w= .ok v w:=by
   intro ty;rcases hown.2 with⟨rfl,hx0⟩|⟨g,cap,cur,rfl,_,_,hnc,_⟩
   ·simp[Builtin.append_,run_underlying E.ht,sizeOf,typeInfo,hi,Builtin.lenOf,Builtin.firstCells]
   ·simp[Builtin.append_,run_underlying E.ht,sizeOf,typeInfo,hi,Builtin.lenOf,Builtin.firstCells,hnc,storeCells]
  obtain⟨A',c',rfl,hc1,hc2⟩:=zcl hown;unfold Oper.wp execOp;simp only[ho,resolve,invoke,builtin,Sem.run_bind,Sem.run_pure,Result.andThen_ok,List.map_toArray,List.map_cons,List.map_nil,hs,hx,hrun];exact h A' c' w hc1 hc2 (by simpa using hown) (World.grownBy.refl w _) hb
 ·have hl:news.length=m*sz:=hr.1
  have hcells:∀j u,news[j]? =some u->w.cell? (ad.add j)=some u:=by
   intro j u hu;rcases Nat.eq_zero_or_pos m with h0|h0
   ·subst h0
    have hn:news=[]:=List.eq_nil_of_length_eq_zero (by omega);subst hn;simp at hu
   ·obtain⟨ad',h',_,hc⟩:=hr.2 h0
    injection h' with h';subst h';exact hc j u hu
  obtain⟨v',w',hr',hown',hg,_,_⟩:=run_append_own_at (P:=P) w base t o.type e i z sz bytes E.ht hi hz0 hz1 hz2 E.hz E.hs v n xs hown ad m c news hl hcells h1 hm hn hbase;obtain⟨A',c',rfl,hc1,hc2⟩:=zcl hown';unfold Oper.wp execOp;simp only[ho,resolve,invoke,builtin,Sem.run_bind,Sem.run_pure,Result.andThen_ok,List.map_toArray,List.map_cons,List.map_nil,hs,hx,hr'];exact h A' c' w' hc1 hc2 hown' hg (hb.grown hg (Nat.le_trans hbB hbase) (fun k hk=>by have:=(World.ownsRow.lt hown k hk).1;omega))
end
def zmp(v:Value):List Nat:=match v.ownBlock with|some g=>[g]|none=>[]
theorem Turns.row{w w':World}{v:Value}(h:w.grownBy w' v.ownBlock):Turns (zmp v) w w':=by
 unfold zmp;cases e:v.ownBlock with
 |none=>rw[e] at h;exact Turns.of_none h
 |some g=>rw[e] at h;exact Turns.of_far h (by simp)
theorem z7o{w:World}{base sz n:Nat}{e:TypeId}{v:Value}{xs:List Value}(h:w.ownsRow base e sz v n xs):∀x∈zmp v,base<=x/\x<w.heap.size:=by
 intro x hx;unfold zmp at hx;cases e:v.ownBlock with
 |none=>rw[e] at hx;simp at hx
 |some g=>rw[e] at hx;simp at hx;subst hx;exact World.ownsRow.lt h _ e
theorem ziq{w:World}{base sz n:Nat}{e t:TypeId}{v:Value}{xs:List Value}{g:Nat}{cs:Array Value}(h:w.ownsRow base e sz v n xs)(hg:Blk w g t cs)(hne:e≠t):g∉zmp v:=by
 intro hx;unfold zmp at hx;cases e':v.ownBlock with
 |none=>rw[e'] at hx;simp at hx
 |some g'=>rw[e'] at hx;simp at hx;subst hx;exact zao h hg hne e'
theorem z7p{w w':World}{base sz n:Nat}{e:TypeId}{v:Value}{xs:List Value}{T:List Nat}(h:w.ownsRow base e sz v n xs)(k:Turns T w w')(hT:∀x∈T,v.ownBlock≠some x):w'.ownsRow base e sz v n xs:=by
 refine⟨h.1,?_⟩;rcases h.2 with hn|⟨g,cap,cur,rfl,hbg,hgg,rest⟩
 ·exact .inl hn
 ·refine .inr ⟨g,cap,cur,rfl,hbg,?_,rest⟩
  rw[k.block g (Array.getElem?_eq_some_iff.1 hgg).1 (fun hm=>hT g hm rfl)];exact hgg
theorem z7q{w:World}{base base2 sz sz2 n n2:Nat}{e e2:TypeId}{v v2:Value}{xs xs2:List Value}(h:w.ownsRow base e sz v n xs)(h2:w.ownsRow base2 e2 sz2 v2 n2 xs2)(hne:e≠e2):∀x∈zmp v2,v.ownBlock≠some x:=by
 intro x hx;unfold zmp at hx;cases e':v2.ownBlock with
 |none=>rw[e'] at hx;simp at hx
 |some g=>
  rw[e'] at hx;simp at hx;subst hx;rcases h2.2 with⟨rfl,_⟩|⟨g',cap,cur,rfl,_,hh,_⟩
  ·simp[Value.ownBlock] at e'
  ·have:g'=x:=by simpa[Value.ownBlock] using e'
   subst this;exact zao h hh hne
open Go Go.RowKit
section
variable{P:Program}{ops:Array Oper}{rest:List Oper}{o:Oper}{a:Act}{Q:Exit->Act->World->Prop}
theorem qda(z:Value)(hz1:z.oneCell'=true)(n:Nat):madeCells z.cells n=(List.replicate n z).toArray:=by
 have hzc:z.cells= #[z]:=by
  revert hz1;unfold Value.oneCell' Value.cells
  cases z<;> simp
 rw[hzc];apply Array.toList_inj.1;rw[toList_madeCells_one]
theorem z8w{w:World}{t e:TypeId}{z:Value}{bytes:Nat}(E:ElT P t e z 1 bytes){kl kc:IntKind}(n:Nat)(hz1:z.oneCell'=true)(hn:n*bytes<=140737488355328)(hm:n<=maxLen):
 (Instr.makeSlice t (.int kl (n:Int)) (.int kc (n:Int))).run P w= .ok (.slice (some ⟨w.heap.size,0,none⟩) n n) (w.alloc (.cells (List.replicate n z).toArray e)):=by
 obtain⟨i,hi,hz0,hs1,hb1⟩:=info_parts E.hi;have hmC:(n:Int)<=9223372036854775807:=by have h:=hm;simp only[maxLen] at h;omega
 have hbC:(i.bytes:Int)*(n:Int)<=281474976710656:=by
  have h:((i.bytes*n:Nat):Int)<=281474976710656:=by rw[hb1,Nat.mul_comm];omega
  rwa[Int.natCast_mul] at h
 have hrun:=run_make (P:=P) w t e i z E.ht hi hz0 kl kc (n:Int) (n:Int) (by omega) (by omega) hbC hmC;rw[Int.toNat_natCast,hs1,Nat.mul_one,qda z hz1] at hrun;exact hrun
theorem zry{w:World}{t e:TypeId}{z:Value}{bytes:Nat}(E:ElT P t e z 1 bytes)(hgd:o.guard=none)(lo co:Operand)(ho:o.op=Op.makeSlice t lo co)
 {kl kc:IntKind}{L C:Int}(n:Nat)(hl:a.eval lo= .int kl L)(hc:a.eval co= .int kc C)(hL:L=(n:Int))(hC:C=(n:Int))
 (hz1:z.oneCell'=true)(hn:n*bytes<=140737488355328)(hm:n<=maxLen)
 (h:∀w',Blk w' w.heap.size e (List.replicate n z).toArray->New w w'->w'.heap.size=w.heap.size+1->wpList P ops Q rest (a.put o.dst (.slice (some ⟨w.heap.size,0,none⟩) n n)) w'):
 wpList P ops Q (o::rest) a w:=by
 subst hL hC;have hrun:=z8w (w:=w) E (kl:=kl) (kc:=kc) n hz1 hn hm;refine wpList_plain hgd fun K hK=>?_
 unfold Oper.wp;simp[execOp,ho,hl,hc,hrun,Result.andThen];exact hK _ _ (h _ (by simpa using Blk.new w e (List.replicate n z).toArray) ((Below.refl _ _).alloc (Nat.le_refl _) _) (by simp))
theorem zmj{w:World}{K:Act->World->Prop}{t e:TypeId}{z:Value}{bytes:Nat}(E:ElT P t e z 1 bytes)(lo co:Operand)(ho:o.op=Op.makeSlice t lo co)
 {kl kc:IntKind}{L C:Int}(n:Nat)(hl:a.eval lo= .int kl L)(hc:a.eval co= .int kc C)(hL:L=(n:Int))(hC:C=(n:Int))
 (hz1:z.oneCell'=true)(hn:n*bytes<=140737488355328)(hm:n<=maxLen)
 (h:∀w',Blk w' w.heap.size e (List.replicate n z).toArray->New w w'->w'.heap.size=w.heap.size+1->K (a.put o.dst (.slice (some ⟨w.heap.size,0,none⟩) n n)) w'):
 o.wp P a w K Q:=by
 subst hL hC;have hrun:=z8w (w:=w) E (kl:=kl) (kc:=kc) n hz1 hn hm;unfold Oper.wp;simp[execOp,ho,hl,hc,hrun,Result.andThen];exact h _ (by simpa using Blk.new w e (List.replicate n z).toArray) ((Below.refl _ _).alloc (Nat.le_refl _) _) (by simp)
theorem z3n{w:World}{ty t:TypeId}{g i:Nat}{u:Value}{cs:Array Value}(hB:Blk w g t cs)(hlt:i<cs.size)(hi:(P.info? ty).map (·.size)=some 1)(h1:u.oneCell'=true):
 (storeVar ty ⟨g,i,none⟩ u).run P w= .ok () (w.setCell ⟨g,i,none⟩ u):=by
 have hc:u.cells= #[u]:=by cases u<;> first|rfl|cases h1
 have:=run_storeCells_cells (P:=P) g i [u] 0 w (fun j hj=>by
  obtain rfl:j=0:=by simpa using hj
  rw[hB.cell,Nat.add_zero,Array.getElem?_eq_getElem hlt];rfl) (fun j hj=>hB.frozen _) (fun v hv=>by simp at hv;subst hv;exact h1)
 cases hq:P.info? ty with
 |none=>simp[hq] at hi
 |some x=>
  have hs:x.size=1:=by simpa[hq] using hi
  simp only[Nat.add_zero] at this;simp[storeVar,sizeOf,typeInfo,hq,hc,hs,this];rfl
theorem ziu{w:World}{K:Act->World->Prop}(ty:TypeId)(x y:Operand)(ho:o.op= .store ty x y)
 (g i:Nat)(u:Value)(hx:a.eval x= .pointer (some ⟨g,i,none⟩))(hy:a.eval y=u){t:TypeId}{cs:Array Value}(hB:Blk w g t cs)(hlt:i<cs.size)(hi:(P.info? ty).map (·.size)=some 1)(h1:u.oneCell'=true)
 (h:∀W,Blk W g t (cs.setIfInBounds i u)->w.grownBy W (some g)->W.heap.size=w.heap.size->K (a.put o.dst undef) W):o.wp P a w K Q:=by
 unfold Oper.wp execOp;simp only[ho,hx,hy,Instr.storeAt,Instr.sureAddr,Sem.run_bind,Sem.run_pure,Result.andThen_ok,z3n hB hlt hi h1];refine h _ (hB.set_ i u) ⟨rfl,rfl,rfl,by simp[World.setCell],fun k _ hne=>Below.heap_setCell _ _ _ _ (fun e=>hne (by rw[e]))⟩ (by simp[World.setCell])
theorem zfq{w:World}(hgd:o.guard=none)(ty:TypeId)(x y:Operand)(ho:o.op= .store ty x y)
 (g i:Nat)(u:Value)(hx:a.eval x= .pointer (some ⟨g,i,none⟩))(hy:a.eval y=u){t:TypeId}{cs:Array Value}(hB:Blk w g t cs)(hlt:i<cs.size)(hi:(P.info? ty).map (·.size)=some 1)(h1:u.oneCell'=true)
 (h:∀W,Blk W g t (cs.setIfInBounds i u)->w.grownBy W (some g)->W.heap.size=w.heap.size->wpList P ops Q rest (a.put o.dst undef) W):wpList P ops Q (o::rest) a w:=
 wpList_plain hgd fun _ hK=>ziu ty x y ho g i u hx hy hB hlt hi h1 (fun W b g s=>hK _ _ (h W b g s))
end
open Go Go.RowKit
section
variable{P:Program}{o:Oper}{a:Act}{Q:Exit->Act->World->Prop}{K:Act->World->Prop}
theorem z01{w:World}{t e:TypeId}{z:Value}{sz bytes:Nat}(E:ElT P t e z sz bytes)(s x:Operand)
 (ho:o.op= .call {callee:= .builtin .append,args:= #[s,x],argTypes:= #[t,t]})
 {W:World}{B base n m c:Nat}{v:Value}{xs news:List Value}{A:Option Addr}(hown:w.ownsRow base e sz v n xs)(hr:Reads w w.heap.size sz A m news)(hs:a.eval s=v)(hx:a.eval x= .slice A m c)
 (hb:Below B W w)(hbB:B<=base)(hbase:base<=w.heap.size)(h1:∀u∈news,u.oneCell'=true)
 (hn:(n+m)*bytes<=140737488355328)(hm:n+m<=maxLen)
 (h:∀A' c' w',n+m<=c'->c'<=maxLen->w'.ownsRow base e sz (.slice A' (n+m) c') (n+m) (xs++news)->w.grownBy w' v.ownBlock->Below B W w'->(Value.ownBlock (.slice A' (n+m) c')=v.ownBlock\/ ∃g,Value.ownBlock (.slice A' (n+m) c')=some g/\w.heap.size<=g)->K (a.put o.dst (.slice A' (n+m) c')) w'):
 Oper.wp P o a w K Q:=by
 obtain⟨i,hi,hz0,hz1,hz2⟩:=info_parts E.hi;rcases A with _|ad
 ·have hm0:m=0:=by
   rcases Nat.eq_zero_or_pos m with h0|h0
   ·exact h0
   ·obtain⟨ad,h',_⟩:=hr.2 h0
    cases h'
  subst hm0;have hn0:news=[]:=List.eq_nil_of_length_eq_zero (by have:=hr.1;omega);subst hn0;have hrun:∀ty,(Builtin.append_ #[t,t] ty #[v,.slice none 0 c]).run P w= .ok v w:=by
   intro ty;rcases hown.2 with⟨rfl,hx0⟩|⟨g,cap,cur,rfl,_,_,hnc,_⟩
   ·simp[Builtin.append_,run_underlying E.ht,sizeOf,typeInfo,hi,Builtin.lenOf,Builtin.firstCells]
   ·simp[Builtin.append_,run_underlying E.ht,sizeOf,typeInfo,hi,Builtin.lenOf,Builtin.firstCells,hnc,storeCells]
  obtain⟨A',c',rfl,hc1,hc2⟩:=zcl hown;unfold Oper.wp execOp;simp only[ho,resolve,invoke,builtin,Sem.run_bind,Sem.run_pure,Result.andThen_ok,List.map_toArray,List.map_cons,List.map_nil,hs,hx,hrun];exact h A' c' w hc1 hc2 (by simpa using hown) (World.grownBy.refl w _) hb (.inl rfl)
 ·have hl:news.length=m*sz:=hr.1
  have hcells:∀j u,news[j]? =some u->w.cell? (ad.add j)=some u:=by
   intro j u hu;rcases Nat.eq_zero_or_pos m with h0|h0
   ·subst h0
    have hn:news=[]:=List.eq_nil_of_length_eq_zero (by omega);subst hn;simp at hu
   ·obtain⟨ad',h',_,hc⟩:=hr.2 h0
    injection h' with h';subst h';exact hc j u hu
  obtain⟨v',w',hr',hown',hg,_,hat⟩:=run_append_own_at (P:=P) w base t o.type e i z sz bytes E.ht hi hz0 hz1 hz2 E.hz E.hs v n xs hown ad m c news hl hcells h1 hm hn hbase;obtain⟨A',c',rfl,hc1,hc2⟩:=zcl hown';unfold Oper.wp execOp;simp only[ho,resolve,invoke,builtin,Sem.run_bind,Sem.run_pure,Result.andThen_ok,List.map_toArray,List.map_cons,List.map_nil,hs,hx,hr'];exact h A' c' w' hc1 hc2 hown' hg (hb.grown hg (Nat.le_trans hbB hbase) (fun k hk=>by have:=(World.ownsRow.lt hown k hk).1;omega)) (hat.imp id (fun e=>⟨_,e,Nat.le_refl _⟩))
end
end Go.Hm
