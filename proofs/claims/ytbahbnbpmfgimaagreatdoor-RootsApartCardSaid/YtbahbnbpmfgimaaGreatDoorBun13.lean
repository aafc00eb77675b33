/- Merged. -/
import Derived.Test.YtbahbnbpmfgimaaGreatDoorBun11
import Derived.Test.YtbahbnbpmfgimaaGreatDoorBun12
set_option maxHeartbeats 2000000
namespace Go.Proofs.Y
open Go.RowKit Go.Hm
def wrI(x:Int):Int:=IntKind.i64.wrap x
theorem qh6(x:Int):wrI x=(x+9223372036854775808)%18446744073709551616-9223372036854775808:=by unfold wrI;rw[IntKind.wrap_i64]
def zi9(x:Int):Prop:= -9223372036854775808<=x/\x<=9223372036854775807
theorem qh7(x:Int):zi9 (wrI x):=by rw[qh6];unfold zi9;omega
theorem zov{x:Int}(h:zi9 x):zig x<18446744073709551616:=by unfold zi9 at h;unfold zig;split<;> omega
def zd9:List Int->List Int
 |x::y::l=>wrI (y-x)::zd9 (y::l)
 |_=>[]
theorem zja:∀l:List Int,(zd9 l).length=l.length-1
 | []=>rfl
 | [_]=>rfl
 |x::y::l=>by
  have:=zja (y::l);rw[zd9,List.length_cons,this];simp
theorem zup:∀(l:List Int) (k:Nat),k+1<l.length->(zd9 l).getD k 0=wrI (l.getD (k+1) 0-l.getD k 0)
 | [],k,h=>by simp at h
 | [_],k,h=>by simp at h
 |x::y::l,0,h=>rfl
 |x::y::l,k+1,h=>by
  have:=zup (y::l) k (by simpa using h);rw[zd9,List.getD_cons_succ,this];rfl
theorem zkr:∀(l:List Int),∀s∈zd9 l,zi9 s
 | [],_,h=>by simp[zd9] at h
 | [_],_,h=>by simp[zd9] at h
 |x::y::l,s,h=>by
  rw[zd9] at h;rcases List.mem_cons.1 h with rfl|h
  ·exact qh7 _
  ·exact zkr (y::l) s h
def zg5(l:List Int):Nat->Int
 |0=>l.getD 0 0
 |k+1=>min (zg5 l k) (l.getD (k+1) 0)
def leastD(l:List Int):Int:=zg5 l (l.length-1)
theorem zuq(l:List Int):∀k i,i<=k->zg5 l k<=l.getD i 0
 |0,i,h=>by
  obtain rfl:i=0:=by omega
  exact Int.le_refl _
 |k+1,i,h=>by
  rw[zg5];rcases Nat.lt_or_ge i (k+1) with e|e
  ·have:=zuq l k i (by omega)
   omega
  ·obtain rfl:i=k+1:=by omega
   omega
theorem zur(l:List Int):∀k,∃i,i<=k/\zg5 l k=l.getD i 0
 |0=>⟨0,Nat.le_refl _,rfl⟩
 |k+1=>by
  obtain⟨i,hi,e⟩:=zur l k;rw[zg5];rcases Int.le_total (zg5 l k) (l.getD (k+1) 0) with h|h
  ·exact⟨i,by omega,by rw[Int.min_eq_left h,e]⟩
  ·exact⟨k+1,Nat.le_refl _,by rw[Int.min_eq_right h]⟩
theorem zik{l:List Int}{i:Nat}(h:i<l.length):l.getD i 0∈l:=by rw[List.getD_eq_getElem?_getD,List.getElem?_eq_getElem h];exact List.getElem_mem h
theorem z6h{l:List Int}(h:∀x∈l,zi9 x){k:Nat}(hk:k<l.length):zi9 (zg5 l k):=by obtain⟨i,hi,e⟩:=zur l k;rw[e];exact h _ (zik (by omega))
theorem zow{l:List Int}(h:∀x∈l,zi9 x)(hl:0<l.length):zi9 (leastD l):=z6h h (by omega)
theorem zus{l:List Int}{x:Int}(h:x∈l):leastD l<=x:=by obtain⟨i,hi,rfl⟩:=List.getElem_of_mem h;have:=zuq l (l.length-1) i (by omega);rw[List.getD_eq_getElem?_getD,List.getElem?_eq_getElem hi] at this;exact this
def zfc(l:List Int):List Nat:=l.map fun s=>(s-leastD l).toNat
theorem z6i(l:List Int):(zfc l).length=l.length:=by simp[zfc]
theorem zss{l:List Int}(h:∀x∈l,zi9 x):∀m∈zfc l,m<=18446744073709551615:=fun m hm=>by obtain⟨s,hs,rfl⟩:=List.mem_map.1 hm;have h1:=h s hs;have h2:=zow h (List.length_pos_of_mem hs);have h3:=zus hs;unfold zi9 at h1 h2;omega
def blockD(l:List Int):List Nat:=vp (zig (leastD l))++(wid (zfc l)::low (pk (wid (zfc l)) (zfc l)) ((wid (zfc l)*l.length+7)/8))
theorem zq4{l:List Int}(h:∀x∈l,zi9 x)(hl:0<l.length)(hl2:l.length<=32):(blockD l).length<=268:=by have h1:=zap (zov (zow h hl));have h2:=zop _ (zss h);have h3:wid (zfc l)*l.length<=64*32:=Nat.mul_le_mul h2 hl2;unfold blockD;rw[List.length_append,List.length_cons,za6];omega
def blk(s:List Int)(k:Nat):List Int:=(s.drop (k*32)).take 32
theorem zst(s:List Int)(k:Nat):(blk s k).length=min 32 (s.length-k*32):=by simp[blk]
theorem zzv{s:List Int}(h:∀x∈s,zi9 x)(k:Nat):∀x∈blk s k,zi9 x:=fun x hx=>h x (List.mem_of_mem_drop (List.mem_of_mem_take hx))
def zco(s:List Int)(K:Nat):List Nat:=(List.range K).flatMap fun k=>blockD (blk s k)
theorem zks(s:List Int):zco s 0=[]:=rfl
theorem zkt(s:List Int)(k:Nat):zco s (k+1)=zco s k++blockD (blk s k):=by unfold zco;rw[List.range_succ,List.flatMap_append];simp
def nblk(n:Nat):Nat:=(n+31)/32
theorem zil{s:List Int}(h:∀x∈s,zi9 x):∀k,k<=nblk s.length->(zco s k).length<=268*k
 |0,_=>by simp[zks]
 |k+1,hk=>by
  have ih:=zil h k (by omega);unfold nblk at hk;have:=zq4 (zzv h k) (by rw[zst];omega) (by rw[zst];omega);rw[zkt,List.length_append];omega
def zut(l:List Int):Option (List Nat):=
 if 65536<l.length then none else if l.length=0 then some [] else some (vp (zig (l.getD 0 0))++zco (zd9 l) (nblk (l.length-1)))
theorem qbt{l:List Int}{b:List Nat}(h:zut l=some b):l.length<=65536:=by
 unfold zut at h;split at h
 ·cases h
 ·omega
theorem zku{l:List Int}{b:List Nat}(hl:∀x∈l,zi9 x)(h:zut l=some b):b.length<=600000:=by
 have h0:=qbt h;unfold zut at h;rw[if_neg (by omega)] at h;split at h
 ·injection h with h
  subst h;simp
 ·injection h with h
  subst h;have h1:=zap (zov (hl _ (zik (show 0<l.length by omega))));have h2:=zil (zkr l) (nblk (l.length-1)) (by rw[zja];exact Nat.le_refl _);unfold nblk at h2⊢;rw[List.length_append];omega
structure IsDel(b:List Nat)(n:Int)(o:Option (List Int)):Prop where
 sound:∀l,o=some l->(l.length:Int)=n/\zut l=some b/\ ∀x∈l,zi9 x
 compl:∀l,(∀x∈l,zi9 x)->(l.length:Int)=n->zut l=some b->o=some l
theorem IsDel.uniq{b:List Nat}{n:Int}{o p:Option (List Int)}(h:IsDel b n o)(k:IsDel b n p):o=p:=by
 cases o with
 |some l=>obtain⟨a,b,c⟩:=h.sound l rfl;exact(k.compl l c a b).symm
 |none=>
  cases p with
  |none=>rfl
  |some l=>obtain⟨a,b,c⟩:=k.sound l rfl;exact h.compl l c a b
open Go.RowKit Go.Hm
def CurS(w:World)(g:Nat)(S:St):Prop:=Cur w g (S.getD []) S.isNone
section
variable{w w':World}{g:Nat}{S:St}
theorem CurS.lt(h:CurS w g S):g<w.heap.size:=Cur.lt h
theorem CurS.below(h:CurS w g S)(hb:Below w.heap.size w w'):CurS w' g S:=Cur.below h hb
theorem CurS.keep{g':Nat}{t:TypeId}{cs:Array Value}(h:CurS w g S)(hg:w.grownBy w' (some g'))(hT:Blk w g' t cs)(hne:g≠g')(ht:5≠t):CurS w' g S:=Cur.keep h hg hT hne ht
theorem CurS.blk(h:CurS w g S):∃cs,Blk w g 180 cs:=Cur.blk h
theorem CurS.push{e:TypeId}{base:Nat}{v:Value}{xs:List Value}(h:CurS w g S)(o:Own w base e v xs)(hg:w.grownBy w' v.ownBlock)(he1:e≠180)(he2:5≠e):CurS w' g S:=by
 cases hv:v.ownBlock with
 |none=>
  rw[hv] at hg;exact h.below ((Turns.of_none (T:=[]) hg).new (by simp))
 |some g'=>
  obtain⟨cs,hB⟩:=o.row g' hv;rw[hv] at hg;obtain⟨cs2,hC⟩:=h.blk;exact h.keep hg hB (fun e'=>by subst e';exact Blk.ne_ hB hC he1 rfl) he2
theorem CurS.ok(h:CurS w g S):S.ok:=by intro l e;subst e;exact Cur.lt8 h
theorem CurS.of{l:List Nat}(h:Cur w g l false):CurS w g (some l):=h
theorem CurS.len(h:CurS w g S):(S.getD []).length<=9223372036854775807:=by have:=Cur.len h;unfold maxLen at this;omega
end
def z6w(e0:Ending)(g:Nat)(S:St)(w:World)(e:Ending)(w':World):Prop:=e=e0/\CurS w' g S/\w.grownBy w' (some g)
theorem zo2{w:World}{g:Nat}{S:St}(h:CurS w g S):Calls Tryz.prog 116 #[.pointer (some ⟨g,0,none⟩)] w (z6w (.returned (.tuple #[])) g none w):=zhs h
theorem qei{w:World}{g:Nat}{S:St}(h:CurS w g S):Calls Tryz.prog 98 #[.pointer (some ⟨g,0,none⟩)] w (zsl S.isNone w):=zj3 h
theorem zk3{w:World}{g:Nat}{S:St}(h:CurS w g S):Calls Tryz.prog 100 #[.pointer (some ⟨g,0,none⟩)] w (zsl (qbo S) w):=by
 have:=qf1 h;have e:qbo S=(!S.isNone&&(S.getD []).isEmpty):=by
  cases S with
  |none=>rfl
  |some l=>cases l<;> simp[qbo]
 rw[e];exact this
theorem qjs{w:World}{g:Nat}{S:St}(h:CurS w g S):Calls Tryz.prog 168 #[.pointer (some ⟨g,0,none⟩)] w (zsk (S.getD []) w):=qbc h
theorem ziq{w:World}{g:Nat}{S:St}(h:CurS w g S):Calls Tryz.prog 137 #[.pointer (some ⟨g,0,none⟩)] w (z6w (.returned (.int .u8 ((zcc S).1:Int))) g (zcc S).2 w):=by
 cases S with
 |none=>exact zni h (.inl rfl)
 |some l=>
  cases l with
  |nil=>exact zni h (.inr (by simp))
  |cons b r=>exact zzr h
def qjt(x:List Nat)(g:Nat)(S:St)(w:World)(e:Ending)(w':World):Prop:=
 ∃A n c,e= .returned (.slice A n c)/\n=x.length/\Own w' w.heap.size 5 (.slice A n c) (zao .u8 x)/\CurS w' g S/\w.grownBy w' (some g)
theorem zo3{w:World}{g:Nat}{n:Int}{S:St}(h:CurS w g S)(h0: -9223372036854775808<=n)(h1:n<=140737488355328):Calls Tryz.prog 136 #[.pointer (some ⟨g,0,none⟩),.int .i64 n] w (qjt (zer n S).1 g (zer n S).2 w):=by
 rcases ze4 n S with hc|⟨l,rfl,h2,h3,hc⟩
 ·rw[hc]
  have hb:S.isNone=true\/n<0\/((S.getD []).length:Int)<n:=by
   unfold zer at hc;cases S with
   |none=>exact .inl rfl
   |some l=>
    simp only at hc;split at hc
    ·simp at hc
    ·rename_i hh
     simp only[Option.getD_some];omega
  refine(qbg h hb h0 (by omega)).mono ?_;rintro e w' ⟨rfl,k1,k2⟩;exact⟨none,0,0,rfl,rfl,Own.nil_,k1,k2⟩
 ·rw[hc]
  obtain⟨m,rfl⟩:=Int.eq_ofNat_of_zero_le h2;simp only[Int.toNat_natCast];have hm:m<=l.length:=by omega
  refine(z55 (l:=l) (n:=m) h hm (by omega)).mono ?_;rintro e w' ⟨A,c,rfl,k1,k2,k3⟩;exact⟨A,m,c,rfl,by rw[List.length_take];omega,k1,k2,k3⟩
theorem zz0{w:World}{g:Nat}{S:St}(h:CurS w g S):Calls Tryz.prog 117 #[.pointer (some ⟨g,0,none⟩)] w (z6w (.returned (.int .u64 ((zqe S).1:Int))) g (zqe S).2 w):=by
 rcases hc:zqe S with⟨v,T⟩;have hok:=h.ok;cases S with
 |none=>
  simp only[zqe,Prod.mk.injEq] at hc;obtain⟨rfl,rfl⟩:=hc;exact z6v h (.inl rfl)
 |some l=>
  simp only[zqe] at hc;split at hc
  ·rename_i N r hg
   obtain⟨h1,h2⟩:=zxl (hok l rfl) hg;simp only[Prod.mk.injEq] at hc;obtain⟨rfl,rfl⟩:=hc;subst h1;exact zxv h h2
  ·rename_i hg
   simp only[Prod.mk.injEq] at hc;obtain⟨rfl,rfl⟩:=hc;exact z6v h (.inr (qf6 hg))
theorem zdw{w:World}{g:Nat}{m:Int}{S:St}(h:CurS w g S)(hm0: -9223372036854775808<=m)(hm:m<=9223372036854775807):Calls Tryz.prog 97 #[.pointer (some ⟨g,0,none⟩),.int .i64 m] w (z6w (.returned (.int .i64 ((lenS m S).1:Int))) g (lenS m S).2 w):=by
 have hok:=h.ok;by_cases hg:∃N r,S=some (vp N++r)/\(N:Int)<=m
 ·obtain⟨N,r,rfl,hN⟩:=hg
  rw[zdv N r hN hm];exact qgi h hN hm
 ·have e:lenS m S=(0,none):=by
   rcases zdf m S hok with h1|⟨N,r,h1,h2,_,_⟩
   ·exact h1
   ·exact absurd ⟨N,r,h1,h2⟩ hg
  rw[e];refine qic h ?_ hm0 hm;cases S with
  |none=>exact .inl rfl
  |some l=>
   refine .inr fun N r hl=>?_
   simp only[Option.getD_some] at hl;subst hl;rcases Int.lt_or_le m N with h1|h1
   ·exact h1
   ·exact absurd ⟨N,r,rfl,h1⟩ hg
open Go.RowKit Go.Hm
def encP(p:List Nat):List Nat:=
 if 4<=st p then vp (2*p.length)++vp (p.getD 0 0) else vp (2*p.length+1)++(wid p::low (pk (wid p) p) ((wid p*p.length+7)/8))
def zz5(l:List Nat):List Nat:=(pcs l).flatMap encP
theorem zxy{l:List Nat}(h:∀x∈l,x<=18446744073709551615){p:List Nat}(hp:p∈pcs l):(∀x∈p,x<=18446744073709551615)/\p.length<=l.length:=by have hf:=zz4 l;refine⟨fun x hx=>h x (by rw[<-hf];exact List.mem_flatten.2 ⟨p,hp,hx⟩),?_⟩;rw[<-hf];obtain⟨a,b,e⟩:=List.append_of_mem hp;rw[e,List.flatten_append,List.flatten_cons,List.length_append,List.length_append];omega
def IsDec(b:List Nat)(n:Int)(o:Option (List Nat)):Prop:=
 ∀l,o=some l↔((l.length:Int)=n/\l.length<=65536/\(∀x∈l,x<=18446744073709551615)/\zz5 l=b)
open Go.RowKit Go.Hm
theorem zo6{w:World}{A:Option Addr}{c:Nat}{L:List Nat}(h:Reads w w.heap.size 1 A L.length (zao .u64 L))(hn:L.length<=9223372036854775806):
 Calls Tryz.prog 207 #[.slice A L.length c] w (zal (.int .i64 (st L:Nat)) w):=by
 go_enter Tryz.func207,Tryz.ntmps207
 go_wp2
 go_loopw [3] (fun i wr=>∃k:Nat,k<=L.length/\i= .int .i64 (k:Int)/\Hid (∀j,j<k->L.getD j 0=L.getD 0 0)/\Below w.heap.size w wr) (fun i _=>L.length-(intOf i).toNat)
 case atStart=>exact⟨0,by omega,rfl,Hz (fun j hj=>by omega),Below.refl _ _⟩
 case round=>
  obtain⟨k,hk,rfl,hT,hb⟩:=hrel;by_cases hlt:k<L.length
  ·obtain⟨ad,rfl,hbk,hcell⟩:=(h.below hb).num hlt
   obtain⟨ad',e',hbk',hcell'⟩:=(h.below hb).num (i:=0) (by omega);injection e' with e';subst e';rw[zfy] at hcell';have h0:(0:Int)<(L.length:Int):=by omega
   by_cases he:L.getD k 0=L.getD 0 0
   ·have HT:=Hz (show∀j,j<k+1->L.getD j 0=L.getD 0 0 from fun j hj=>by
     by_cases hjk:j=k
     ·rw[hjk];exact he
     ·exact hT.out j (by omega))
    rw[he] at hcell;clear he hT;generalize L.getD 0 0=y at*;go_wp2
    go_quiet (fail)
    go_wp2
    go_roundw
    case rel=>exact⟨k+1,by omega,by go_num,HT,below_drewN hb _⟩
    case measure=>simp[intOf];omega
   ·have hst:=Hz (show st L=k from qb6 (by omega) hT.out (.inr he))
    have hbe:(((L.getD k 0:Nat):Int)==((L.getD 0 0:Nat):Int))=false:=by rw[beq_eq_false_iff_ne];omega
    clear he hT;generalize L.getD k 0=y at*;generalize L.getD 0 0=z at*;go_wp2
    go_quiet (fail)
    go_wp2
    go_ret
    exact⟨by rw[hst.out];simp,below_drewN hb _⟩
  ·obtain rfl:k=L.length:=by omega
   have hst:=Hz (show st L=L.length from qb6 (by omega) hT.out (.inl rfl));clear hT;go_wp2
   go_quiet (fail)
   go_wp2
   go_ret
   exact⟨by rw[hst.out];simp,below_drewN hb _⟩
theorem z64{w:World}{A:Option Addr}{c:Nat}{L:List Nat}(h:Reads w w.heap.size 1 A L.length (zao .u64 L))(hn:L.length<=9223372036854775806):
 Calls Tryz.prog 191 #[.slice A L.length c] w (zal (.bool (decide (4<=st L))) w):=by
 have S:=Hz (zo6 (c:=c) h hn);generalize st L=s at*;clear h;go_enter Tryz.func191,Tryz.ntmps191
 go_wp2_with fail
 refine S.out.mono ?_;rintro e w1 ⟨rfl,b1⟩;by_cases h4:4<=s
 ·have d:decide ((4:Int)<=(s:Int))=true:=decide_eq_true (by omega)
  rw[decide_eq_true h4];go_wp2
  go_ret
  exact⟨by simp[h4],b1⟩
 ·have d:decide ((4:Int)<=(s:Int))=false:=decide_eq_false (by omega)
  rw[decide_eq_false h4];go_wp2
  go_ret
  exact⟨by simp;omega,b1⟩
open Go.RowKit Go.Hm
theorem z3q(a b:List Nat)(ha:∀x∈a,x<256)(hb:∀x∈b,x<256)(hla:a.length<=9223372036854775806)(hlb:b.length<=9223372036854775806)(w:World):
 Calls Tryz.prog 201 #[.string (zad a),.string (zad b)] w (DrewPost (.int .i64 (shr a b)) w):=by
 have z1:=zbn a;have z2:=zbn b;go_enter Tryz.func201,Tryz.ntmps201
 go_wp2
 go_loopw [5] (fun n wr=>∃k m:Nat,n= .int .i64 (k:Int)/\k<=a.length/\k<=b.length/\a.take k=b.take k/\wr=w.drewN m) (fun n _=>a.length-(intOf n).toNat)
 case atStart=>exact⟨0,0,rfl,by omega,by omega,rfl,rfl⟩
 case round=>
  obtain⟨k,m,rfl,h1,h2,h3,rfl⟩:=hrel;have S0:=qej a b k h1 h2 h3;have H3:=Hz h3;clear h3;by_cases ka:k=a.length
  ·have S:=Hz (S0 (.inl ka))
   have d1:decide (k<a.length)=false:=by simp;omega
   clear ka S0;go_wp2
   go_quiet (fail)
   go_wp2
   go_ret
   exact⟨by rw[S.out];rfl,_,zn6 _ _ _⟩
  ·by_cases kb:k=b.length
   ·have S:=Hz (S0 (.inr (.inl kb)))
    have d1:decide (k<a.length)=true:=by simp;omega
    have d2:decide (k<b.length)=false:=by simp;omega
    clear ka kb S0;go_wp2
    go_quiet (fail)
    go_wp2
    go_ret
    exact⟨by rw[S.out];rfl,_,zn6 _ _ _⟩
   ·have i1:=z4t qd9 a ha k (by omega)
    have i2:=z4t qd9 b hb k (by omega);have d1:decide (k<a.length)=true:=by simp;omega
    have d2:decide (k<b.length)=true:=by simp;omega
    have t1:=zac a k 0 (by omega);have t2:=zac b k 0 (by omega);by_cases e:a.getD k 0=b.getD k 0
    ·have H4:=Hz (show a.take (k+1)=b.take (k+1) by rw[t1,t2,H3.out,e])
     rw[e] at i1;clear t1 t2 e S0;generalize b.getD k 0=y at*;go_wp2
     go_quiet (fail)
     go_wp2
     go_roundw
     case rel=>exact⟨k+1,_,by go_num,by omega,by omega,H4.out,rfl⟩
     case measure=>simp[intOf];omega
    ·have S:=Hz (S0 (.inr (.inr e)))
     have d3:(((a.getD k 0:Nat):Int)==((b.getD k 0:Nat):Int))=false:=by rw[beq_eq_false_iff_ne];omega
     clear t1 t2 e S0;generalize a.getD k 0=x at*;generalize b.getD k 0=y at*;go_wp2
     go_quiet (fail)
     go_wp2
     go_ret
     exact⟨by rw[S.out];rfl,_,zn6 _ _ _⟩
theorem z8u{w:World}{A:Option Addr}{n c:Nat}{L:List (List Nat)}(h:Reads w w.heap.size 1 A n (zqx L))(hL:∀s∈L,s.length<=140737488351232)(hn:n<=9223372036854775806):
 Calls Tryz.prog 200 #[.slice A n c] w (zdl (.bool (qad L)) w):=by
 obtain rfl:=h.lenT;by_cases h0:65536<L.length
 ·have F:=Hz (qce h0)
  go_enter Tryz.func200,Tryz.ntmps200
  go_wp2
  go_ret
  exact⟨by rw[F.out];rfl,rfl⟩
 ·have d0:decide (65536<(L.length:Int))=false:=by simp;omega
  go_enter Tryz.func200,Tryz.ntmps200
  go_wp2
  go_loop [3,11] (fun a i=>∃k q:Nat,k<=L.length/\i= .int .i64 (k:Int)/\a= .int .i64 (q:Int)/\q<=16777216/\Hid (q=zt0 (L.take k)/\ ∀s∈L.take k,s.length<=65536)) (fun _ i=>L.length-(intOf i).toNat)
  case atStart=>exact⟨0,0,by omega,rfl,rfl,by omega,Hz ⟨rfl,by simp⟩⟩
  case round=>
   obtain⟨k,q,hk,rfl,rfl,hq,H⟩:=hrel;by_cases hlt:k<L.length
   ·obtain⟨ad,rfl,hb,hcell⟩:=h.str hlt
    have hs:=zn5 hL hlt;have T:=zac L k [] hlt;have F1:=Hz (qcf hlt);have F2:=Hz (qcg (l:=L) (k:=k+1));rw[T] at F2;have HT:=Hz T;clear T;generalize L.getD k []=s at*;have z:=zbn s;generalize hls:s.length=ls at*;have HL:=Hz hls;clear hls;by_cases h1:65536<ls
    ·have F:=Hz (F1.out h1)
     clear F1 F2;go_wp2
     go_ret
     exact⟨by rw[F.out];rfl,rfl⟩
    ·have d1:decide (65536<(ls:Int))=false:=by simp;omega
     by_cases h2:16777216<q+ls
     ·have F:=Hz (F2.out (by rw[zu2,<-H.out.1,HL.out];exact h2))
      clear F1 F2;go_wp2
      go_ret
      exact⟨by rw[F.out];rfl,rfl⟩
     ·have d2:decide (16777216<(q:Int)+(ls:Int))=false:=by simp;omega
      go_wp2
      go_round
      case rel=>exact⟨k+1,q+ls,by omega,by go_num,by go_num,by omega,Hz ⟨by rw[HT.out,zu2,<-H.out.1,HL.out],fun x hx=>by
       rw[HT.out,List.mem_append,List.mem_singleton] at hx;rcases hx with hx|rfl
       ·exact H.out.2 x hx
       ·rw[HL.out];omega⟩⟩
      case measure=>simp[intOf];omega
   ·obtain rfl:k=L.length:=by omega
    have F:=Hz (qch (l:=L) (by omega) (by have:=H.out.2;rwa[List.take_length] at this) (by have:=H.out.1;rw[List.take_length] at this;omega));go_wp2
    go_ret
    exact⟨by rw[F.out];rfl,rfl⟩
theorem z8v{w:World}{A:Option Addr}{n c:Nat}{L:List (List Nat)}(h:Reads w w.heap.size 1 A n (zqx L))(h8:∀s∈L,∀x∈s,x<256)(hf:qad L=true):
 Calls Tryz.prog 182 #[.slice A n c] w (OptB (some (zx5 [] L)) w):=by
 obtain rfl:=h.lenT;obtain⟨hn,hl,hsum⟩:=(zje L).1 hf;have F:=Hz (z8u (c:=c) h (fun s hs=>by have:=hl s hs;omega) (by omega));rw[hf] at F;have HSUM:=Hz hsum;have HF:=Hz hf;clear hf hsum;go_enter Tryz.func182,Tryz.ntmps182
 go_wp2_with (go_at_call 200;refine F.out.mono ?_;rintro e w1 ⟨rfl,rfl⟩)
 go_loopw [4,5,14] (fun v a i wr=>∃(k:Nat) (A:Option Addr) (m c:Nat),i= .int .i64 (k:Int)/\k<=L.length/\a= .string (zad (zqo [] (L.take k)))/\v= .slice A m c/\Own wr w.heap.size 5 (.slice A m c) (zao .u8 (zx5 [] (L.take k)))/\Below w.heap.size w wr) (fun _ _ i _=>L.length-(intOf i).toNat)
 case atStart=>exact⟨0,_,_,_,rfl,by omega,rfl,rfl,Own.nil_,Below.refl _ _⟩
 case round=>
  obtain⟨k,A5,m5,c5,rfl,hk,rfl,rfl,o5,b5⟩:=hrel;have z5:=b5.size;by_cases hlt:k<L.length
  ·obtain⟨ad,rfl,hb,hcell⟩:=(h.below b5).str hlt
   have q5:=o5.len;rw[zaa] at q5;have q6:=zz8 [] (L.take k) (fun s hs=>hl s (List.mem_of_mem_take hs));have q7:=zu1 L k;have q8:=HSUM.out;rw[<-q5,List.length_take] at q6;have qm:m5<=20*65536+16777216:=by omega
   have T:=Hz (zac L k [] hlt);have a8:=zu3 (Q:=fun s=>∀x∈s,x<256) (a:=[]) (L.take k) (by simp) (fun s hs=>h8 s (List.mem_of_mem_take hs));have al:=zu3 (Q:=fun s=>s.length<=65536) (a:=[]) (L.take k) (by simp) (fun s hs=>hl s (List.mem_of_mem_take hs));have s8:=zn5 (Q:=fun s=>∀x∈s,x<256) h8 hlt;have sl:=zn5 (Q:=fun s=>s.length<=65536) hl hlt;have SN:=Hz (z7c [] (L.getD k []) (L.take k));have LS:=Hz (z2r [] (L.getD k []) (L.take k));clear q5 q6 q7 q8;generalize L.getD k []=s at*;generalize zqo [] (L.take k)=a at*;have k1:=zo8 a s;have k2:=zir a s;have z1:=zbn s;have SH:=Hz (z3q a s a8 s8 (by omega) (by omega) wr);have FP:=Hz (show fpiece a s=vp (shr a s)++vp (s.length-shr a s)++s.drop (shr a s) from rfl);have i3:=qaj qd9 s (shr a s) k2;have d8:∀x∈s.drop (shr a s),x<256:=fun x hx=>s8 x (List.mem_of_mem_drop hx)
   have dl:(s.drop (shr a s)).length<=65536:=by rw[List.length_drop];omega
   have v1:=zap (n:=shr a s) (by omega);have v2:=zap (n:=s.length-shr a s) (by omega);have hq:(s.length:Int)-(shr a s:Int)=((s.length-shr a s:Nat):Int):=by omega
   generalize shr a s=j at*;generalize s.length-j=p at*;generalize s.drop j=r at*;have V1:=Hz v1;have V2:=Hz v2;have DL:=Hz dl;clear v1 v2 dl;go_wp2_with (first
    |(go_at_call 201;refine SH.out.mono ?_;intro e w6 hh;obtain⟨rfl,b6⟩:=hh.new;clear hh
      have b06:=zgy b5 b6 (Nat.le_refl _);have o6:=o5.later b6;have P6:=Hz (zc0 none 0 0 [] j w6 Reads.none_ (by omega) (by omega)))
    |(go_at_call 111;(with_reducible refine P6.out.mono ?_);rintro e w7 ⟨A7,n7,c7,rfl,k7,b7⟩
      rw[List.nil_append] at k7;have b07:=zgy b06 b7 (Nat.le_refl _);have o7:=o6.later b7;have q7:n7<=10:=by have:=k7.len;rw[zaa] at this;have:=V1.out;omega
      have r7:=k7.reads)
    |(refine zam elB rfl (.tmp 21) (.tmp 24) rfl (W:=w) (B:=w.heap.size) o7 r7 rfl rfl b07 (Nat.le_refl _) (by have:=b07.size;omega) (by omega) (by simp only[maxLen];omega) ?_
      intro A8 c8 w8 _ _ o8 _ b08 _;have P8:=Hz (zc0 none 0 0 [] p w8 Reads.none_ (by omega) (by omega)))
    |(go_at_call 111;(with_reducible refine P8.out.mono ?_);rintro e w9 ⟨A9,n9,c9,rfl,k9,b9⟩
      rw[List.nil_append] at k9;have b09:=zgy b08 b9 (Nat.le_refl _);have o9:=o8.later b9;have q9:n9<=10:=by have:=k9.len;rw[zaa] at this;have:=V2.out;omega
      have r9:=k9.reads)
    |(refine zam elB rfl (.tmp 26) (.tmp 32) rfl (W:=w) (B:=w.heap.size) o9 r9 rfl rfl b09 (Nat.le_refl _) (by have:=b09.size;omega) (by omega) (by simp only[maxLen];omega) ?_
      intro A10 c10 w10 _ _ o10 _ b010 _)
    |(refine zd7 elB qd9 rfl (.tmp 34) (.tmp 37) rfl (W:=w) (B:=w.heap.size) o10 d8 rfl rfl b010 (Nat.le_refl _) (by have:=b010.size;omega) (by have:=DL.out;omega) ?_
      intro A11 c11 w11 _ _ o11 _ b011))
   go_roundw
   case rel=>exact⟨k+1,_,_,_,by go_num,by omega,by rw[T.out,LS.out],rfl,by rw[T.out,SN.out,FP.out,<-List.append_assoc,<-List.append_assoc];exact o11,b011⟩
   case measure=>simp[intOf];omega
  ·obtain rfl:k=L.length:=by omega
   rw[List.take_length] at o5;go_wp2
   go_ret2
   exact⟨_,_,_,rfl,o5,b5⟩
theorem qdf{w:World}{A:Option Addr}{n c:Nat}{L:List (List Nat)}(h:Reads w w.heap.size 1 A n (zqx L))(h8:∀s∈L,∀x∈s,x<256)(hL:∀s∈L,s.length<=140737488351232)(hn:n<=9223372036854775806):
 Calls Tryz.prog 182 #[.slice A n c] w (OptB (qek L) w):=by
 unfold qek;by_cases hf:qad L=true
 ·rw[if_pos hf]
  exact z8v h h8 hf
 ·rw[if_neg hf]
  have F:=Hz (z8u (c:=c) h hL hn);rw[Bool.eq_false_iff.2 hf] at F;clear hf;go_enter Tryz.func182,Tryz.ntmps182
  go_wp2_with (go_at_call 200;refine F.out.mono ?_;rintro e w1 ⟨rfl,rfl⟩)
  go_ret2
  exact⟨rfl,Below.refl _ _⟩
open Go.RowKit Go.Hm
def Rd(w:World)(gr gc:Nat)(a:List Nat)(room:Int):Prop:=Blk w gr 261 #[.pointer (some ⟨gc,0,none⟩),.string (zad a),.int .i64 room]
theorem Rd.cells{w:World}{gr gc:Nat}{a:List Nat}{room:Int}(h:Rd w gr gc a room):w.cell? ⟨gr,0,none⟩=some (.pointer (some ⟨gc,0,none⟩))/\w.cell? ⟨gr,1,none⟩=some (.string (zad a))/\w.cell? ⟨gr,2,none⟩=some (.int .i64 room):=
 ⟨by rw[Blk.cell h 0];rfl,by rw[Blk.cell h 1];rfl,by rw[Blk.cell h 2];rfl⟩
theorem Rd.far{w w':World}{gr gc:Nat}{a:List Nat}{room:Int}(h:Rd w gr gc a room)(hW:Far gc w w')(hne:gr≠gc):Rd w' gr gc a room:=Blk.grown h hW (by simpa using hne)
theorem Rd.below{w w':World}{gr gc:Nat}{a:List Nat}{room:Int}(h:Rd w gr gc a room)(hW:New w w'):Rd w' gr gc a room:=Blk.below h hW (Blk.lt h)
end Go.Proofs.Y
namespace Go.Hm
open Go Go.RowKit
def zc5(m:Nat)(r:Int)(D:List zex):Int:=if 65536<r then 4 else if r<0\/D.length≠m then 2 else if∃d∈D,((d.2.2.length:Nat):Int)≠r then 2 else 0
theorem Reads.colD{w:World}{B n i:Nat}{A:Option Addr}{l:List zex}(h:Reads w B 1 A n (recs zk2 l))(hi:i<n):
 ∃ad,A=some ad/\ad.block<B/\w.cell? (ad.add i)=some (.slice (l.getD i (none,0,[])).1 (l.getD i (none,0,[])).2.2.length (l.getD i (none,0,[])).2.1):=by
 obtain⟨ad,h1,h2,_,h3⟩:=h.rec_ (f:=zk2) (sz:=1) (fun _=>rfl) (none,0,[]) hi (by omega);have:=h3 0 _ rfl;rw[Nat.mul_one] at this;exact⟨ad,h1,h2,this⟩
theorem Reads.lenD{w:World}{B n:Nat}{A:Option Addr}{l:List zex}(h:Reads w B 1 A n (recs zk2 l)):n=l.length:=h.lenR (f:=zk2) (sz:=1) (fun _=>rfl) (by omega)
end Go.Hm
namespace Go.Proofs.Y
open Go.RowKit Go.Hm
set_option maxRecDepth 100000 in
theorem z83{w:World}{Ac:Option Addr}{nc cc:Nat}{r:Int}{Ad:Option Addr}{nd cd:Nat}{D:List zex}(h:Reads w w.heap.size 1 Ad nd (recs zk2 D))(hn:nd<=4611686018427387903):
 Calls Tryz.prog 82 #[.agg #[.slice Ac nc cc,.int .i64 r,.slice Ad nd cd]] w (zal (.int .i64 (zc5 nc r D)) w):=by
 obtain rfl:=h.lenD;have K1:=Hz (fun(hh:65536<r)=>show zc5 nc r D=4 by rw[zc5,if_pos hh]);have K2:=Hz (fun(hh: ¬65536<r) (h2:r<0\/D.length≠nc)=>show zc5 nc r D=2 by rw[zc5,if_neg hh,if_pos h2]);have K3:=Hz (fun(hh: ¬65536<r) (h2: ¬(r<0\/D.length≠nc)) (d:zex) (hd:d∈D) (h3:((d.2.2.length:Nat):Int)≠r)=>show zc5 nc r D=2 by rw[zc5,if_neg hh,if_neg h2,if_pos ⟨d,hd,h3⟩]);have K4:=Hz (fun(hh: ¬65536<r) (h2: ¬(r<0\/D.length≠nc)) (h3:∀d∈D,((d.2.2.length:Nat):Int)=r)=>show zc5 nc r D=0 by rw[zc5,if_neg hh,if_neg h2,if_neg (fun⟨d,hd,h4⟩=>h4 (h3 d hd))]);generalize zc5 nc r D=O at*;obtain⟨W0,hW0⟩:∃W,W=w.alloc (.cells #[.slice Ac nc cc,.int .i64 r,.slice Ad D.length cd] 56):=⟨_,rfl⟩;have b0:New w W0:=by rw[hW0];exact(Below.refl _ _).alloc (Nat.le_refl _) _
 have B0:Blk W0 w.heap.size 56 #[.slice Ac nc cc,.int .i64 r,.slice Ad D.length cd]:=by rw[hW0];exact Blk.new _ _ _
 obtain⟨x0,x1,x2⟩:=zan B0;rw[hW0] at x0 x1 x2;by_cases h0:65536<r
 ·have O1:=Hz (K1.out h0)
  clear K1 K2 K3 K4 B0 h;go_enter Tryz.func82,Tryz.ntmps82
  go_wp2
  go_ret
  exact⟨by rw[O1.out];rfl,by rw[<-hW0];exact b0⟩
 ·by_cases h1:r<0\/D.length≠nc
  ·have O1:=Hz (K2.out h0 h1)
   clear K1 K2 K3 K4 B0 h;by_cases h2:r<0
   ·go_enter Tryz.func82,Tryz.ntmps82
    go_wp2
    go_ret
    exact⟨by rw[O1.out];rfl,by rw[<-hW0];exact b0⟩
   ·have e1:((D.length:Int) != (nc:Int))=true:=by simp;omega
    clear h1;go_enter Tryz.func82,Tryz.ntmps82
    go_wp2
    go_ret
    exact⟨by rw[O1.out];rfl,by rw[<-hW0];exact b0⟩
  ·have K5:=Hz (K3.out h0 h1)
   have K6:=Hz (K4.out h0 h1);obtain⟨h2,h3⟩: ¬r<0/\D.length=nc:=by omega
   subst h3;have r0:=Reads.later h b0;clear h1 K1 K2 K3 K4 h;go_enter Tryz.func82,Tryz.ntmps82
   go_wp2
   rw[<-hW0];clear x0 x1 x2 hW0;go_loopw [23] (fun i wr=>∃k:Nat,i= .int .i64 (k:Int)/\k<=D.length/\New W0 wr/\Hid (∀d∈D.take k,((d.2.2.length:Nat):Int)=r)) (fun i _=>D.length-(intOf i).toNat)
   case atStart=>exact⟨0,rfl,by omega,New.refl _,Hz (by simp)⟩
   case round=>
    obtain⟨k,rfl,hk,hb,H⟩:=hrel;obtain⟨x0,x1,x2⟩:=zan (B0.below hb B0.lt);by_cases hlt:k<D.length
    ·obtain⟨ad,rfl,hbk,c0⟩:=(Reads.later r0 hb).colD hlt
     have hx:(D.getD k (none,0,[]))∈D:=by rw[List.getD_eq_getElem?_getD,List.getElem?_eq_getElem hlt];exact List.getElem_mem hlt
     have M1:=Hz (fun hh=>K5.out _ hx hh);have M2:=Hz (fun(hh:((((D.getD k (none,0,[])).2.2.length:Nat):Int)=r))=>show∀d∈D.take (k+1),((d.2.2.length:Nat):Int)=r by
      intro d hd;rw[zac D k (none,0,[]) hlt,List.mem_append] at hd;rcases hd with hd|hd
      ·exact H.out d hd
      ·obtain rfl:=List.mem_singleton.1 hd
       exact hh)
     clear hx;generalize(D.getD k (none,0,[])).1=aA at*;generalize(D.getD k (none,0,[])).2.2.length=m at*;generalize(D.getD k (none,0,[])).2.1=cA at*;have hiz:(k:Int)<(D.length:Int):=by omega
     by_cases he:(m:Int)=r
     ·have M3:=Hz (M2.out he)
      subst he;clear M1 M2;go_wp2
      go_roundw
      case rel=>exact⟨k+1,by go_num,by omega,hb,M3⟩
      case measure=>simp[intOf];omega
     ·have M3:=Hz (M1.out he)
      have e1:((m:Int) != r)=true:=by simpa using he
      clear M1 M2 he;go_wp2
      go_ret
      exact⟨by rw[M3.out];rfl,New.trans b0 hb⟩
    ·obtain rfl:k=D.length:=by omega
     have H2:=H.out;rw[List.take_length] at H2;have O1:=Hz (K6.out H2);clear H H2 K5 K6;go_wp2
     go_ret
     exact⟨by rw[O1.out];rfl,New.trans b0 hb⟩
end Go.Proofs.Y
