/- Merged. -/
import Derived.Test.YtmgfkpnghlmheaaGreatBun11
import Derived.Test.YtmgfkpnghlmheaaGreatBun13
import Derived.Test.YtmgfkpnghlmheaaGreatBun14
set_option maxHeartbeats 4000000
namespace Go.Proofs.Y
open Go.RowKit Go.Hm
def wrI(x:Int):Int:=IntKind.i64.wrap x
theorem zyt(x:Int):wrI x=(x+9223372036854775808)%18446744073709551616-9223372036854775808:=by unfold wrI;rw[IntKind.wrap_i64]
def zew(x:Int):Prop:= -9223372036854775808<=x/\x<=9223372036854775807
theorem qdr(x:Int):zew (wrI x):=by rw[zyt];unfold zew;omega
theorem qg2{x:Int}(h:zew x):wrI x=x:=by rw[zyt];unfold zew at h;omega
theorem qaa{x y:Int}(h:zew y):wrI (x+wrI (y-x))=y:=by rw[zyt,zyt];unfold zew at h;omega
theorem zjp{x:Int}(h:zew x):zig x<18446744073709551616:=by unfold zew at h;unfold zig;split<;> omega
theorem zyu{n:Nat}(h:n<18446744073709551616):zew (zag n):=by unfold zew zag;split<;> omega
def zdq:List Int->List Int
 |x::y::l=>wrI (y-x)::zdq (y::l)
 |_=>[]
theorem zea:∀l:List Int,(zdq l).length=l.length-1
 | []=>rfl
 | [_]=>rfl
 |x::y::l=>by
  have:=zea (y::l);rw[zdq,List.length_cons,this];simp
theorem zt2:∀(l:List Int) (k:Nat),k+1<l.length->(zdq l).getD k 0=wrI (l.getD (k+1) 0-l.getD k 0)
 | [],k,h=>by simp at h
 | [_],k,h=>by simp at h
 |x::y::l,0,h=>rfl
 |x::y::l,k+1,h=>by
  have:=zt2 (y::l) k (by simpa using h);rw[zdq,List.getD_cons_succ,this];rfl
theorem zgy:∀(l:List Int),∀s∈zdq l,zew s
 | [],_,h=>by simp[zdq] at h
 | [_],_,h=>by simp[zdq] at h
 |x::y::l,s,h=>by
  rw[zdq] at h;rcases List.mem_cons.1 h with rfl|h
  ·exact qdr _
  ·exact zgy (y::l) s h
def zfb(x:Int):List Int->List Int
 | []=>[]
 |s::l=>wrI (x+s)::zfb (wrI (x+s)) l
theorem zqp:∀(l:List Int) (x:Int),(∀y∈l,zew y)->zfb x (zdq (x::l))=l
 | [],_,_=>rfl
 |y::l,x,h=>by
  rw[zdq,zfb,qaa (h y (by simp)),zqp l y (fun z hz=>h z (by simp[hz]))]
theorem zkk:∀(l:List Int) (x:Int),(zfb x l).length=l.length
 | [],_=>rfl
 |s::l,x=>by rw[zfb,List.length_cons,List.length_cons,zkk l]
theorem zyv:∀(l:List Int) (x:Int),∀y∈zfb x l,zew y
 | [],_,_,h=>by simp[zfb] at h
 |s::l,x,y,h=>by
  rw[zfb] at h;rcases List.mem_cons.1 h with rfl|h
  ·exact qdr _
  ·exact zyv l _ y h
def zie(d:Int)(l:List Int):Int:=l.getLast?.getD d
theorem zqq(d x:Int)(l:List Int):zie d (x::l)=zie x l:=by unfold zie;rw[List.getLast?_cons];rfl
theorem qab{l:List Int}(h:0<l.length)(d:Int):zie d l=l.getD (l.length-1) 0:=by unfold zie;rw[List.getLast?_eq_getElem?,List.getD_eq_getElem?_getD,List.getElem?_eq_getElem (by omega)];rfl
theorem zn8:∀(a b:List Int) (x:Int),zfb x (a++b)=zfb x a++zfb (zie x (zfb x a)) b
 | [],b,x=>rfl
 |s::a,b,x=>by
  rw[List.cons_append,zfb,zfb,zn8 a b,List.cons_append,zqq]
theorem z04(a:List Int)(s x:Int):zfb x (a++[s])=zfb x a++[wrI (zie x (zfb x a)+s)]:=by rw[zn8];rfl
def zgz(l:List Int):Nat->Int
 |0=>l.getD 0 0
 |k+1=>min (zgz l k) (l.getD (k+1) 0)
def leastD(l:List Int):Int:=zgz l (l.length-1)
theorem zt3(l:List Int):∀k i,i<=k->zgz l k<=l.getD i 0
 |0,i,h=>by
  obtain rfl:i=0:=by omega
  exact Int.le_refl _
 |k+1,i,h=>by
  rw[zgz];rcases Nat.lt_or_ge i (k+1) with e|e
  ·have:=zt3 l k i (by omega)
   omega
  ·obtain rfl:i=k+1:=by omega
   omega
theorem zt4(l:List Int):∀k,∃i,i<=k/\zgz l k=l.getD i 0
 |0=>⟨0,Nat.le_refl _,rfl⟩
 |k+1=>by
  obtain⟨i,hi,e⟩:=zt4 l k;rw[zgz];rcases Int.le_total (zgz l k) (l.getD (k+1) 0) with h|h
  ·exact⟨i,by omega,by rw[Int.min_eq_left h,e]⟩
  ·exact⟨k+1,Nat.le_refl _,by rw[Int.min_eq_right h]⟩
theorem zg0{l:List Int}{i:Nat}(h:i<l.length):l.getD i 0∈l:=by rw[List.getD_eq_getElem?_getD,List.getElem?_eq_getElem h];exact List.getElem_mem h
theorem z4f{l:List Int}(h:∀x∈l,zew x){k:Nat}(hk:k<l.length):zew (zgz l k):=by obtain⟨i,hi,e⟩:=zt4 l k;rw[e];exact h _ (zg0 (by omega))
theorem zkl{l:List Int}(h:∀x∈l,zew x)(hl:0<l.length):zew (leastD l):=z4f h (by omega)
theorem zn9{l:List Int}{x:Int}(h:x∈l):leastD l<=x:=by obtain⟨i,hi,rfl⟩:=List.getElem_of_mem h;have:=zt3 l (l.length-1) i (by omega);rw[List.getD_eq_getElem?_getD,List.getElem?_eq_getElem hi] at this;exact this
def zdn(l:List Int):List Nat:=l.map fun s=>(s-leastD l).toNat
theorem zoa(l:List Int):(zdn l).length=l.length:=by simp[zdn]
theorem zkm{l:List Int}(h:∀x∈l,zew x):∀m∈zdn l,m<=18446744073709551615:=fun m hm=>by obtain⟨s,hs,rfl⟩:=List.mem_map.1 hm;have h1:=h s hs;have h2:=zkl h (List.length_pos_of_mem hs);have h3:=zn9 hs;unfold zew at h1 h2;omega
def blockD(l:List Int):List Nat:=vp (zig (leastD l))++(wid (zdn l)::low (pk (wid (zdn l)) (zdn l)) ((wid (zdn l)*l.length+7)/8))
theorem zqr{l:List Int}(h:∀x∈l,zew x)(hl:0<l.length)(hl2:l.length<=32):(blockD l).length<=268:=by have h1:=zaj (zjp (zkl h hl));have h2:=zjo _ (zkm h);have h3:wid (zdn l)*l.length<=64*32:=Nat.mul_le_mul h2 hl2;unfold blockD;rw[List.length_append,List.length_cons,zbg];omega
def blk(s:List Int)(k:Nat):List Int:=(s.drop (k*32)).take 32
theorem zob(s:List Int)(k:Nat):(blk s k).length=min 32 (s.length-k*32):=by simp[blk]
theorem zt5{s:List Int}(h:∀x∈s,zew x)(k:Nat):∀x∈blk s k,zew x:=fun x hx=>h x (List.mem_of_mem_drop (List.mem_of_mem_take hx))
def zcd(s:List Int)(K:Nat):List Nat:=(List.range K).flatMap fun k=>blockD (blk s k)
theorem zhq(s:List Int):zcd s 0=[]:=rfl
theorem zhr(s:List Int)(k:Nat):zcd s (k+1)=zcd s k++blockD (blk s k):=by unfold zcd;rw[List.range_succ,List.flatMap_append];simp
def nblk(n:Nat):Nat:=(n+31)/32
theorem zf7{s:List Int}(h:∀x∈s,zew x):∀k,k<=nblk s.length->(zcd s k).length<=268*k
 |0,_=>by simp[zhq]
 |k+1,hk=>by
  have ih:=zf7 h k (by omega);unfold nblk at hk;have:=zqr (zt5 h k) (by rw[zob];omega) (by rw[zob];omega);rw[zhr,List.length_append];omega
theorem qac(s:List Int)(k:Nat):s.take ((k+1)*32)=s.take (k*32)++blk s k:=by unfold blk;rw[Nat.add_mul,Nat.one_mul,List.take_add]
def zjq(l:List Int):Option (List Nat):=
 if 65536<l.length then none else if l.length=0 then some [] else some (vp (zig (l.getD 0 0))++zcd (zdq l) (nblk (l.length-1)))
theorem zf8{l:List Int}{b:List Nat}(h:zjq l=some b):l.length<=65536:=by
 unfold zjq at h;split at h
 ·cases h
 ·omega
theorem zf9{l:List Int}{b:List Nat}(hl:∀x∈l,zew x)(h:zjq l=some b):b.length<=600000:=by
 have h0:=zf8 h;unfold zjq at h;rw[if_neg (by omega)] at h;split at h
 ·injection h with h
  subst h;simp
 ·injection h with h
  subst h;have h1:=zaj (zjp (hl _ (zg0 (show 0<l.length by omega))));have h2:=zf7 (zgy l) (nblk (l.length-1)) (by rw[zea];exact Nat.le_refl _);unfold nblk at h2⊢;rw[List.length_append];omega
def zdj(n:Nat)(S:St):List Int × St:=
 match zbf (zbt (nby ((zbc (zh4 S).2).1:Int) (n:Int)) (zbc (zh4 S).2).2).1 ((zbc (zh4 S).2).1:Int) (n:Int) with
 |some m=>(m.map fun y:Nat=>wrI (zag (zh4 S).1+(y:Int)),(zbt (nby ((zbc (zh4 S).2).1:Int) (n:Int)) (zbc (zh4 S).2).2).2)
 |none=>([],none)
theorem zwt{l:List Int}(h:∀x∈l,zew x)(h0:0<l.length)(hl:l.length<=65536)(r:List Nat):zdj l.length (some (blockD l++r))=(l,some r):=by
 have hw:=zjo _ (zkm h);have hlen:(low (pk (wid (zdn l)) (zdn l)) ((wid (zdn l)*l.length+7)/8)).length=(wid (zdn l)*l.length+7)/8:=zbg _ _;have ht:=zdf (low (pk (wid (zdn l)) (zdn l)) ((wid (zdn l)*l.length+7)/8)) r;rw[hlen] at ht;have hu:=zhn (zdn l) (wid (zdn l)) hw (by rw[zoa];exact hl) (Nat.le_refl _) (zkm h);rw[zoa] at hu;unfold zdj blockD;rw[List.append_assoc,zi2 _ _ (zjp (zkl h h0))];simp only[List.cons_append,zbc];rw[zn1 _ _ hw hl,ht];dsimp only;rw[hu];dsimp only;rw[zn5];congr 1
 unfold zdn;rw[List.map_map];have:∀s∈l,((fun y:Nat=>wrI (leastD l+(y:Int))) ∘ fun s=>(s-leastD l).toNat) s=s:=by intro s hs;have h3:=zn9 hs;simp only[Function.comp];rw[show leastD l+(((s-leastD l).toNat:Nat):Int)=s by omega];exact qg2 (h s hs)
 rw[List.map_congr_left this];simp
theorem zt6(n:Nat):(zdj n none).2=none:=by unfold zdj;rw[z4d,zi3,zdr];split<;> rfl
theorem zjy{b m:List Nat}{x:Int}{n:Nat}(h:zbf b x (n:Int)=some m):m.length=n:=by
 unfold zbf at h;split at h
 ·injection h with h
  rw[<-h,zd6,Int.toNat_natCast]
 ·cases h
theorem zwu{n:Nat}{S:St}{r:List Nat}(h:(zdj n S).2=some r):(zdj n S).1.length=n:=by
 unfold zdj at h⊢;split
 ·rename_i m hm
  rw[List.length_map];exact zjy hm
 ·rename_i hm
  rw[hm] at h;cases h
theorem zqs(n:Nat)(S:St):(zdj n S).1.length<=n:=by
 unfold zdj;split
 ·rename_i m hm
  rw[List.length_map,zjy hm];exact Nat.le_refl _
 ·exact Nat.zero_le _
theorem zt7{S:St}(hS:S.ok):(zbc S).2.ok:=by
 unfold zbc;split
 ·rename_i b r
  exact St.ok_some fun x hx=>hS _ rfl x (by simp[hx])
 ·exact St.ok_none
def zll(n:Nat):Nat->List Int × St->List Int × St
 |0,p=>p
 |k+1,p=>((zll n k p).1++zfb (zie 0 (zll n k p).1) (zdj (min 32 (n-k*32)) (zll n k p).2).1,(zdj (min 32 (n-k*32)) (zll n k p).2).2)
theorem zyw{s:List Int}(h:∀x∈s,zew x)(x:Int):∀(k:Nat) (r:List Nat),k<=nblk s.length->zll s.length k ([x],some (zcd s k++r))=(x::zfb x (s.take (k*32)),some r)
 |0,r,_=>by simp[zll,zhq,zfb]
 |k+1,r,hk=>by
  unfold nblk at hk;have hbl:=zob s k;rw[zll,zhr,List.append_assoc,zyw h x k _ (by unfold nblk;omega)];dsimp only;rw[<-hbl,zwt (zt5 h k) (by omega) (by omega)];dsimp only;rw[zqq,List.cons_append,<-zn8,<-qac]
def zqb(n:Nat)(S:St):List Int × St:=zll (n-1) (nblk (n-1)) ([zag (zh4 S).1],(zh4 S).2)
def zjz(n:Nat)(b:List Nat):List Int × St:=if n=0 then([],some b) else zqb n (some b)
theorem z4g{l:List Int}{b:List Nat}(h:∀x∈l,zew x)(he:zjq l=some b):zjz l.length b=(l,some []):=by
 have hf:=zf8 he;unfold zjq at he;rw[if_neg (by omega)] at he;unfold zjz;cases l with
 |nil=>
  simp at he;subst he;rfl
 |cons x l=>
  rw[if_neg (by simp)] at he⊢;injection he with he;subst he;have e:=zyw (zgy (x::l)) x (nblk l.length) [] (by rw[zea];exact Nat.le_refl _);rw[List.append_nil,zea] at e;unfold zqb;rw[List.length_cons,Nat.add_sub_cancel,List.getD_cons_zero,zi2 _ _ (zjp (h x (by simp)))];dsimp only;rw[zn5];rw[List.length_cons,Nat.add_sub_cancel] at e;rw[e,List.take_of_length_le (by rw[zea,List.length_cons];unfold nblk;omega),zqp l x (fun y hy=>h y (by simp[hy]))]
theorem zyx(n:Nat)(p:List Int × St):∀(k:Nat) (r:List Nat),(zll n k p).2=some r->(zll n k p).1.length=p.1.length+min (k*32) n
 |0,r,_=>by simp[zll]
 |k+1,r,h=>by
  rw[zll] at h⊢;dsimp only at h⊢;have h1:=zwu h;cases e:(zll n k p).2 with
  |none=>
   rw[e,zt6] at h;cases h
  |some q=>
   have ih:=zyx n p k q e;rw[<-e,List.length_append,zkk,h1,ih];omega
theorem zwv(n:Nat)(p:List Int × St):∀k,(zll n k p).1.length<=p.1.length+k*32
 |0=>by simp[zll]
 |k+1=>by
  have ih:=zwv n p k;have h1:=zqs (min 32 (n-k*32)) (zll n k p).2;rw[zll];dsimp only;rw[List.length_append,zkk];omega
theorem zyy(n:Nat)(p:List Int × St)(h:0<p.1.length):∀k,0<(zll n k p).1.length
 |0=>h
 |k+1=>by
  have ih:=zyy n p h k;rw[zll];dsimp only;rw[List.length_append];omega
theorem z4h(n:Nat)(p:List Int × St)(h:∀x∈p.1,zew x):∀k,∀x∈(zll n k p).1,zew x
 |0=>h
 |k+1=>by
  intro x hx;rw[zll] at hx;rcases List.mem_append.1 hx with hx|hx
  ·exact z4h n p h k x hx
  ·exact zyv _ _ x hx
theorem zyz{n:Nat}{b:List Nat}(h8:∀x∈b,x<256):∀x∈(zjz n b).1,zew x:=by
 unfold zjz;split
 ·intro x hx
  cases hx
 ·refine z4h _ _ (fun x hx=>?_) _
  rw[List.mem_singleton] at hx;rw[hx];exact zyu (zjx (St.ok_some h8))
theorem qad(n:Nat)(b:List Nat):(zjz n b).1.length<=n+32:=by
 unfold zjz;split
 ·simp
 ·have:=zwv (n-1) ([zag (zh4 (some b)).1],(zh4 (some b)).2) (nblk (n-1))
  unfold zqb;unfold nblk at this⊢;rw[List.length_singleton] at this;omega
theorem z4i{n:Nat}{b r:List Nat}(h:(zjz n b).2=some r):(zjz n b).1.length=n:=by
 unfold zjz at h⊢;by_cases h0:n=0
 ·rw[if_pos h0,h0]
  rfl
 ·rw[if_neg h0] at h⊢
  unfold zqb at h⊢;have:=zyx _ _ _ _ h;rw[this,List.length_singleton];unfold nblk;omega
structure IsDel(b:List Nat)(n:Int)(o:Option (List Int)):Prop where
 sound:∀l,o=some l->(l.length:Int)=n/\zjq l=some b/\ ∀x∈l,zew x
 compl:∀l,(∀x∈l,zew x)->(l.length:Int)=n->zjq l=some b->o=some l
theorem IsDel.uniq{b:List Nat}{n:Int}{o p:Option (List Int)}(h:IsDel b n o)(k:IsDel b n p):o=p:=by
 cases o with
 |some l=>obtain⟨a,b,c⟩:=h.sound l rfl;exact(k.compl l c a b).symm
 |none=>
  cases p with
  |none=>rfl
  |some l=>obtain⟨a,b,c⟩:=k.sound l rfl;exact h.compl l c a b
theorem zt8{b:List Nat}{n:Int}(h:n<0\/65536<n):IsDel b n none:=
 ⟨fun l e=>(by cases e),fun l _ h1 h2=>(by have:=zf8 h2;omega)⟩
theorem zy0{b:List Nat}{n:Nat}(h8:∀x∈b,x<256):IsDel b (n:Int) (if(zjz n b).2=some []/\zjq (zjz n b).1=some b then some (zjz n b).1 else none):=by
 refine⟨fun l e=>?_,fun l hl h1 h2=>?_⟩
 ·split at e
  ·rename_i h
   injection e with e;subst e;exact⟨by rw[z4i h.1],h.2,zyz h8⟩
  ·cases e
 ·obtain rfl:l.length=n:=by omega
  rw[z4g hl h2,if_pos ⟨rfl,h2⟩]
open Go.RowKit Go.Hm
def CurS(w:World)(g:Nat)(S:St):Prop:=Cur w g (S.getD []) S.isNone
section
variable{w w':World}{g:Nat}{S:St}
theorem CurS.lt(h:CurS w g S):g<w.heap.size:=Cur.lt h
theorem CurS.below(h:CurS w g S)(hb:Below w.heap.size w w'):CurS w' g S:=Cur.below h hb
theorem CurS.keep{g':Nat}{t:TypeId}{cs:Array Value}(h:CurS w g S)(hg:w.grownBy w' (some g'))(hT:Blk w g' t cs)(hne:g≠g')(ht:5≠t):CurS w' g S:=Cur.keep h hg hT hne ht
theorem CurS.blk(h:CurS w g S):∃cs,Blk w g 154 cs:=Cur.blk h
theorem CurS.push{e:TypeId}{base:Nat}{v:Value}{xs:List Value}(h:CurS w g S)(o:Own w base e v xs)(hg:w.grownBy w' v.ownBlock)(he1:e≠154)(he2:5≠e):CurS w' g S:=by
 cases hv:v.ownBlock with
 |none=>
  rw[hv] at hg;exact h.below ((Turns.of_none (T:=[]) hg).new (by simp))
 |some g'=>
  obtain⟨cs,hB⟩:=o.row g' hv;rw[hv] at hg;obtain⟨cs2,hC⟩:=h.blk;exact h.keep hg hB (fun e'=>by subst e';exact Blk.ne_ hB hC he1 rfl) he2
theorem CurS.ok(h:CurS w g S):S.ok:=by intro l e;subst e;exact Cur.lt8 h
theorem CurS.of{l:List Nat}(h:Cur w g l false):CurS w g (some l):=h
theorem CurS.len(h:CurS w g S):(S.getD []).length<=9223372036854775807:=by have:=Cur.len h;unfold maxLen at this;omega
end
def z42(e0:Ending)(g:Nat)(S:St)(w:World)(e:Ending)(w':World):Prop:=e=e0/\CurS w' g S/\w.grownBy w' (some g)
theorem zj2{w:World}{g:Nat}{S:St}(h:CurS w g S):Calls Tryz.prog 110 #[.pointer (some ⟨g,0,none⟩)] w (z42 (.returned (.tuple #[])) g none w):=zhk h
theorem zy5{w:World}{g:Nat}{S:St}(h:CurS w g S):Calls Tryz.prog 80 #[.pointer (some ⟨g,0,none⟩)] w (zr9 S.isNone w):=zjv h
theorem zgf{w:World}{g:Nat}{S:St}(h:CurS w g S):Calls Tryz.prog 82 #[.pointer (some ⟨g,0,none⟩)] w (zr9 (zqa S) w):=by
 have:=qek h;have e:zqa S=(!S.isNone&&(S.getD []).isEmpty):=by
  cases S with
  |none=>rfl
  |some l=>cases l<;> simp[zqa]
 rw[e];exact this
theorem zud{w:World}{g:Nat}{S:St}(h:CurS w g S):Calls Tryz.prog 126 #[.pointer (some ⟨g,0,none⟩)] w (ze9 (S.getD []) w):=z9q h
theorem ze2{w:World}{g:Nat}{S:St}(h:CurS w g S):Calls Tryz.prog 122 #[.pointer (some ⟨g,0,none⟩)] w (z42 (.returned (.int .u8 ((zbc S).1:Int))) g (zbc S).2 w):=by
 cases S with
 |none=>exact zm8 h (.inl rfl)
 |some l=>
  cases l with
  |nil=>exact zm8 h (.inr (by simp))
  |cons b r=>exact zyo h
def qij(x:List Nat)(g:Nat)(S:St)(w:World)(e:Ending)(w':World):Prop:=
 ∃A n c,e= .returned (.slice A n c)/\n=x.length/\Own w' w.heap.size 5 (.slice A n c) (za3 .u8 x)/\CurS w' g S/\w.grownBy w' (some g)
theorem zc8{w:World}{g:Nat}{n:Int}{S:St}(h:CurS w g S)(h0: -9223372036854775808<=n)(h1:n<=140737488355328):Calls Tryz.prog 123 #[.pointer (some ⟨g,0,none⟩),.int .i64 n] w (qij (zbt n S).1 g (zbt n S).2 w):=by
 rcases zca n S with hc|⟨l,rfl,h2,h3,hc⟩
 ·rw[hc]
  have hb:S.isNone=true\/n<0\/((S.getD []).length:Int)<n:=by
   unfold zbt at hc;cases S with
   |none=>exact .inl rfl
   |some l=>
    simp only at hc;split at hc
    ·simp at hc
    ·rename_i hh
     simp only[Option.getD_some];omega
  refine(z9u h hb h0 (by omega)).mono ?_;rintro e w' ⟨rfl,k1,k2⟩;exact⟨none,0,0,rfl,rfl,Own.nil_,k1,k2⟩
 ·rw[hc]
  obtain⟨m,rfl⟩:=Int.eq_ofNat_of_zero_le h2;simp only[Int.toNat_natCast];have hm:m<=l.length:=by omega
  refine(z30 (l:=l) (n:=m) h hm (by omega)).mono ?_;rintro e w' ⟨A,c,rfl,k1,k2,k3⟩;exact⟨A,m,c,rfl,by rw[List.length_take];omega,k1,k2,k3⟩
theorem zkr{w:World}{g:Nat}{S:St}(h:CurS w g S):Calls Tryz.prog 111 #[.pointer (some ⟨g,0,none⟩)] w (z42 (.returned (.int .u64 ((zh4 S).1:Int))) g (zh4 S).2 w):=by
 rcases hc:zh4 S with⟨v,T⟩;have hok:=h.ok;cases S with
 |none=>
  simp only[zh4,Prod.mk.injEq] at hc;obtain⟨rfl,rfl⟩:=hc;exact z41 h (.inl rfl)
 |some l=>
  simp only[zh4] at hc;split at hc
  ·rename_i N r hg
   obtain⟨h1,h2⟩:=zwr (hok l rfl) hg;simp only[Prod.mk.injEq] at hc;obtain⟨rfl,rfl⟩:=hc;subst h1;exact zw4 h h2
  ·rename_i hg
   simp only[Prod.mk.injEq] at hc;obtain⟨rfl,rfl⟩:=hc;exact z41 h (.inr (qe1 hg))
theorem zb9{w:World}{g:Nat}{m:Int}{S:St}(h:CurS w g S)(hm0: -9223372036854775808<=m)(hm:m<=9223372036854775807):Calls Tryz.prog 79 #[.pointer (some ⟨g,0,none⟩),.int .i64 m] w (z42 (.returned (.int .i64 ((lenS m S).1:Int))) g (lenS m S).2 w):=by
 have hok:=h.ok;by_cases hg:∃N r,S=some (vp N++r)/\(N:Int)<=m
 ·obtain⟨N,r,rfl,hN⟩:=hg
  rw[zb2 N r hN hm];exact qfg h hN hm
 ·have e:lenS m S=(0,none):=by
   rcases zbq m S hok with h1|⟨N,r,h1,h2,_,_⟩
   ·exact h1
   ·exact absurd ⟨N,r,h1,h2⟩ hg
  rw[e];refine qg8 h ?_ hm0 hm;cases S with
  |none=>exact .inl rfl
  |some l=>
   refine .inr fun N r hl=>?_
   simp only[Option.getD_some] at hl;subst hl;rcases Int.lt_or_le m N with h1|h1
   ·exact h1
   ·exact absurd ⟨N,r,rfl,h1⟩ hg
def RCurS(w:World)(B g:Nat)(S:St):Prop:=RCur w B g (S.getD []) S.isNone
section
variable{w w':World}{B g:Nat}{S:St}
theorem RCurS.lt(h:RCurS w B g S):g<w.heap.size:=RCur.lt h
theorem RCurS.below(h:RCurS w B g S)(hb:Below w.heap.size w w'):RCurS w' B g S:=RCur.below h hb
theorem RCurS.keep{g':Nat}(h:RCurS w B g S)(hg:w.grownBy w' (some g'))(hB:B<=g')(hne:g≠g'):RCurS w' B g S:=RCur.keep h hg hB hne
theorem RCurS.blk(h:RCurS w B g S):∃cs,Blk w g 95 cs:=RCur.blk h
theorem RCurS.push{e:TypeId}{base:Nat}{v:Value}{xs:List Value}(h:RCurS w B g S)(o:Own w base e v xs)(hB:B<=base)(hg:w.grownBy w' v.ownBlock)(he:e≠95):RCurS w' B g S:=by
 cases hv:v.ownBlock with
 |none=>
  rw[hv] at hg;exact h.below ((Turns.of_none (T:=[]) hg).new (by simp))
 |some g'=>
  obtain⟨cs,hC⟩:=h.blk;have h1:=o.lt g' hv;have h2:=o.blk_ne hC he;rw[hv] at hg;exact h.keep hg (by omega) (fun e'=>by subst e';exact h2 hv)
theorem RCurS.new{A:Option Addr}{c:Nat}{l:List Nat}(h:Reads w w.heap.size 1 A l.length (za3 .u8 l))(hc:l.length<=c)(hm:c<=maxLen)(h8:∀x∈l,x<256):
 RCurS (w.alloc (.cells #[.slice A l.length c,.bool false] 95)) w.heap.size w.heap.size (some l):=
 ⟨A,c,Blk.new _ _ _,hc,hm,h.alloc (Nat.le_refl _) _,Nat.le_refl _,h8⟩
theorem RCurS.ok(h:RCurS w B g S):S.ok:=by intro l e;subst e;exact RCur.lt8 h
theorem RCurS.of{l:List Nat}(h:RCur w B g l false):RCurS w B g (some l):=h
end
open Go.RowKit Go.Hm
def encP(p:List Nat):List Nat:=
 if 4<=st p then vp (2*p.length)++vp (p.getD 0 0) else vp (2*p.length+1)++(wid p::low (pk (wid p) p) ((wid p*p.length+7)/8))
def encL(l:List Nat):List Nat:=(pcs l).flatMap encP
def rpS(most:Nat)(S:St):List Nat × St:=
 let h:=lenS (2*(most:Int)+1) S
 if h.1%2=1 then
  let b:=zbc h.2
  let x:=zbt (nby (b.1:Int) ((h.1/2:Nat):Int)) b.2
  match zbf x.1 (b.1:Int) ((h.1/2:Nat):Int) with
  |some l=>(l,x.2)
  |none=>([],none)
 else
  let g:=zh4 h.2
  (List.replicate (h.1/2) g.1,g.2)
theorem zlq{l:List Nat}(h:∀x∈l,x<=18446744073709551615){p:List Nat}(hp:p∈pcs l):(∀x∈p,x<=18446744073709551615)/\p.length<=l.length:=by have hf:=zks l;refine⟨fun x hx=>h x (by rw[<-hf];exact List.mem_flatten.2 ⟨p,hp,hx⟩),?_⟩;rw[<-hf];obtain⟨a,b,e⟩:=List.append_of_mem hp;rw[e,List.flatten_append,List.flatten_cons,List.length_append,List.length_append];omega
theorem qfm{p:List Nat}(hk:zoi p)(hw:∀x∈p,x<=18446744073709551615)(hl:p.length<=65536){most:Nat}(hm:p.length<=most)(hmm:most<=65536)(r:List Nat):rpS most (some (encP p++r))=(p,some r):=by
 unfold encP;by_cases h4:4<=st p
 ·rw[if_pos h4,List.append_assoc]
  have hx:p.getD 0 0<=18446744073709551615:=by have h0:=hk.1;rw[List.getD_eq_getElem?_getD,List.getElem?_eq_getElem h0];exact hw _ (List.getElem_mem h0)
  have e:=qfk (hk.2 h4);unfold rpS;rw[zb2 (2*p.length) _ (by omega) (by omega)];dsimp only;rw[if_neg (by omega),zi2 _ _ (by omega)];dsimp only;rw[show 2*p.length/2=p.length by omega,<-e]
 ·rw[if_neg h4,List.append_assoc]
  have hw64:=zjo p hw;unfold rpS;rw[zb2 (2*p.length+1) _ (by omega) (by omega)];dsimp only;rw[if_pos (by omega),show(2*p.length+1)/2=p.length by omega];rw[List.cons_append];simp only[zbc];rw[zn1 (wid p) p.length hw64 hl];have hlen:(low (pk (wid p) p) ((wid p*p.length+7)/8)).length=(wid p*p.length+7)/8:=zbg _ _;have ht:=zdf (low (pk (wid p) p) ((wid p*p.length+7)/8)) r;rw[hlen] at ht;rw[ht];dsimp only;rw[zhn p (wid p) hw64 hl (Nat.le_refl _) hw]
theorem qfn(most:Nat)(S:St)(hS:S.ok):(rpS most S).1.length<=most:=by
 have h1:=zb1 (m:=2*(most:Int)+1) S (by omega) hS;unfold rpS;dsimp only;split
 ·split
  ·rename_i l hl
   unfold zbf at hl;split at hl
   ·injection hl with hl
    subst hl;rw[zd6];omega
   ·cases hl
  ·simp
 ·simp
  omega
theorem zy9(p:List Nat):0<(encP p).length:=by
 unfold encP;split
 ·have:=zma (2*p.length)
  rw[List.length_append];omega
 ·have:=zma (2*p.length+1)
  rw[List.length_append];omega
def decS(n:Nat):Nat->List Nat->St->List Nat × St
 |0,out,S=>(out,S)
 |k+1,out,S=>match S with
  |some (b::r)=>decS n k (out++(rpS (n-out.length) (some (b::r))).1) (rpS (n-out.length) (some (b::r))).2
  |S=>(out,S)
theorem zoj(n:Nat)(hn:n<=65536):∀(ps:List (List Nat)) (k:Nat) (out:List Nat),ps.length<=k->(∀p∈ps,zoi p/\ ∀x∈p,x<=18446744073709551615)->out.length+ps.flatten.length<=n->decS n k out (some (ps.flatMap encP))=(out++ps.flatten,some [])
 | [],k,out,_,_,_=>by cases k<;> simp[decS]
 |p::ps,0,out,h,_,_=>by simp at h
 |p::ps,k+1,out,h,hp,hl=>by
  rw[List.flatten_cons,List.length_append] at hl;obtain⟨hk,hw⟩:=hp p (by simp);have hr:=qfm hk hw (by omega) (most:=n-out.length) (by omega) (by omega) (ps.flatMap encP);rw[List.flatMap_cons];cases hq:encP p++ps.flatMap encP with
  |nil=>
   have:=zy9 p;have:=congrArg List.length hq;rw[List.length_append,List.length_nil] at this;omega
  |cons b r=>
   rw[hq] at hr;rw[decS,hr];dsimp only;rw[zoj n hn ps k (out++p) (by simpa using h) (fun q hq=>hp q (by simp[hq])) (by rw[List.length_append];omega),List.flatten_cons,List.append_assoc]
theorem zsl{l:List Nat}(hw:∀x∈l,x<=18446744073709551615){n k:Nat}(hn:n<=65536)(hln:l.length<=n)(hk:(encL l).length<=k):decS n k [] (some (encL l))=(l,some []):=by
 have hps:(pcs l).length<=k:=by
  refine Nat.le_trans ?_ hk;unfold encL;clear hk;induction pcs l with
  |nil=>simp
  |cons p ps ih=>
   have:=zy9 p;rw[List.flatMap_cons,List.length_append,List.length_cons];omega
 have:=zoj n hn (pcs l) k [] hps (fun p hp=>⟨z5b l p hp,(zlq hw hp).1⟩) (by rw[zks];simpa using hln);rw[zks,List.nil_append] at this;exact this
def IsDec(b:List Nat)(n:Int)(o:Option (List Nat)):Prop:=
 ∀l,o=some l↔((l.length:Int)=n/\l.length<=65536/\(∀x∈l,x<=18446744073709551615)/\encL l=b)
theorem zza{l m:List Nat}(hl:l.length<=65536)(hm:m.length<=65536)(hw:∀x∈l,x<=18446744073709551615)(kw:∀x∈m,x<=18446744073709551615)(h:encL l=encL m):l=m:=by have a:=zsl hw (n:=65536) (k:=(encL l).length) (Nat.le_refl _) hl (Nat.le_refl _);have b:=zsl kw (n:=65536) (k:=(encL l).length) (Nat.le_refl _) hm (by rw[h];exact Nat.le_refl _);rw[<-h,a] at b;injection b
open Go.RowKit Go.Hm
theorem zok{w:World}{A:Option Addr}{c:Nat}{L:List Nat}(h:Reads w w.heap.size 1 A L.length (za3 .u64 L))(hn:L.length<=9223372036854775806):
 Calls Tryz.prog 239 #[.slice A L.length c] w (zap (.int .i64 (st L:Nat)) w):=by
 go_enter Tryz.func239,Tryz.ntmps239
 go_wp2
 go_loopw [3] (fun i wr=>∃k:Nat,k<=L.length/\i= .int .i64 (k:Int)/\Hid (∀j,j<k->L.getD j 0=L.getD 0 0)/\Below w.heap.size w wr) (fun i _=>L.length-(intOf i).toNat)
 case atStart=>exact⟨0,by omega,rfl,Hz (fun j hj=>by omega),Below.refl _ _⟩
 case round=>
  obtain⟨k,hk,rfl,hT,hb⟩:=hrel;by_cases hlt:k<L.length
  ·obtain⟨ad,rfl,hbk,hcell⟩:=(h.below hb).num hlt
   obtain⟨ad',e',hbk',hcell'⟩:=(h.below hb).num (i:=0) (by omega);injection e' with e';subst e';rw[zke] at hcell';have h0:(0:Int)<(L.length:Int):=by omega
   by_cases he:L.getD k 0=L.getD 0 0
   ·have HT:=Hz (show∀j,j<k+1->L.getD j 0=L.getD 0 0 from fun j hj=>by
     by_cases hjk:j=k
     ·rw[hjk];exact he
     ·exact hT.out j (by omega))
    rw[he] at hcell;clear he hT;generalize L.getD 0 0=y at*;go_wp2
    go_quiet (fail)
    go_wp2
    go_roundw
    case rel=>exact⟨k+1,by omega,by go_num,HT,below_drewN hb _⟩
    case measure=>simp[intOf];omega
   ·have hst:=Hz (show st L=k from qaw (by omega) hT.out (.inr he))
    have hbe:(((L.getD k 0:Nat):Int)==((L.getD 0 0:Nat):Int))=false:=by rw[beq_eq_false_iff_ne];omega
    clear he hT;generalize L.getD k 0=y at*;generalize L.getD 0 0=z at*;go_wp2
    go_quiet (fail)
    go_wp2
    go_ret
    exact⟨by rw[hst.out];simp,below_drewN hb _⟩
  ·obtain rfl:k=L.length:=by omega
   have hst:=Hz (show st L=L.length from qaw (by omega) hT.out (.inl rfl));clear hT;go_wp2
   go_quiet (fail)
   go_wp2
   go_ret
   exact⟨by rw[hst.out];simp,below_drewN hb _⟩
theorem z5c{w:World}{A:Option Addr}{c:Nat}{L:List Nat}(h:Reads w w.heap.size 1 A L.length (za3 .u64 L))(hn:L.length<=9223372036854775806):
 Calls Tryz.prog 223 #[.slice A L.length c] w (zap (.bool (decide (4<=st L))) w):=by
 have S:=Hz (zok (c:=c) h hn);generalize st L=s at*;clear h;go_enter Tryz.func223,Tryz.ntmps223
 go_wp2_with fail
 refine S.out.mono ?_;rintro e w1 ⟨rfl,b1⟩;by_cases h4:4<=s
 ·have d:decide ((4:Int)<=(s:Int))=true:=decide_eq_true (by omega)
  rw[decide_eq_true h4];go_wp2
  go_ret
  exact⟨by simp[h4],b1⟩
 ·have d:decide ((4:Int)<=(s:Int))=false:=decide_eq_false (by omega)
  rw[decide_eq_false h4];go_wp2
  go_ret
  exact⟨by simp;omega,b1⟩
open Go.RowKit Go.Hm
def zdk(s:zc9):Prop:=(s.2.2.1.2.2.1.length<=140737488351232/\ ∀z∈s.2.2.1.2.2.1,z<256)/\s.2.2.2.2.2.1.length<=140737488351232/\ ∀z∈s.2.2.2.2.2.1,z<256
set_option maxRecDepth 100000 in
theorem zg5{w:World}{t:Int}{s:zc9}(hf:zdk s):Calls Tryz.prog 119 #[.int .i64 t,zb4 s] w (zap (.bool (zb5 t s)) w):=by
 obtain⟨M,hM⟩:∃M,M=zb5 t s:=⟨_,rfl⟩;rw[<-hM];unfold zb5 at hM;obtain⟨n,b,p,q⟩:=s;obtain⟨⟨hf1,hf2⟩,hf3,hf4⟩:=hf;dsimp only at hM hf1 hf2 hf3 hf4;have E:∀W,(binOp .eql 63 (zb4 (n,false,p,q)) (zb4 (n,false,zaz,zaz))).run Tryz.prog W= .ok (.bool (decide (p=zaz)&&decide (q=zaz))) W:=fun W=>by
  rw[z1y];have:eqS (n,false,p,q) (n,false,zaz,zaz)=(decide (p=zaz)&&decide (q=zaz)):=by rw[Bool.eq_iff_iff,qdy hf2 hf4 (by simp[zaz]) (by simp[zaz])];simp
  rw[this]
 have HN:=fun(h1:zac p t false=true) (h2:zac q t false=true) (W:World)=>ze3 (w:=W) (t:=t) (a:=p) (b:=q) (zi7 h1) (zi7 h2)
 have R1:=fun(W:World)=>zfj (w:=W) (b:=p.1) (n:=p.2.1) (s:=p.2.2.1) (x:=p.2.2.2.1) (y:=p.2.2.2.2) (cn:=[]) (t:=t) (nu:=false) hf1
 have R2:=fun(W:World)=>zfj (w:=W) (b:=q.1) (n:=q.2.1) (s:=q.2.2.1) (x:=q.2.2.2.1) (y:=q.2.2.2.2) (cn:=[]) (t:=t) (nu:=false) hf3
 generalize(decide (p=zaz)&&decide (q=zaz))=eq at*;generalize zji t p q=o at*;obtain⟨p1,p2,p3,p4,p5⟩:=p;obtain⟨q1,q2,q3,q4,q5⟩:=q;dsimp only at R1 R2 hM;generalize zac (p1,p2,p3,p4,p5) t false=m1 at*;generalize zac (q1,q2,q3,q4,q5) t false=m2 at*;have E:∀W,(binOp .eql 63 (.agg #[.int .i64 n,.bool false,.bool p1,.int .i64 p2,.string (zad p3),.int .i64 p4,.int .i64 p5,.bool q1,.int .i64 q2,.string (zad q3),.int .i64 q4,.int .i64 q5]) (.agg #[.int .i64 n,.bool false,.bool false,.int .i64 0,.string ⟨#[]⟩,.int .i64 0,.int .i64 0,.bool false,.int .i64 0,.string ⟨#[]⟩,.int .i64 0,.int .i64 0])).run Tryz.prog W= .ok (.bool eq) W:=E;have R1:Hid (∀W,Calls Tryz.prog 52 #[.agg #[.bool p1,.int .i64 p2,.string (zad p3),.int .i64 p4,.int .i64 p5],.agg #[.string ⟨#[]⟩,.int .i64 t,.bool false]] W (zap (.bool m1) W)):=Hz R1;have R2:Hid (∀W,Calls Tryz.prog 52 #[.agg #[.bool q1,.int .i64 q2,.string (zad q3),.int .i64 q4,.int .i64 q5],.agg #[.string ⟨#[]⟩,.int .i64 t,.bool false]] W (zap (.bool m2) W)):=Hz R2;unfold zcz zam at HN;dsimp only at HN;have HN:=Hz HN;show Calls Tryz.prog 119 #[.int .i64 t,.agg #[.int .i64 n,.bool b,.bool p1,.int .i64 p2,.string (zad p3),.int .i64 p4,.int .i64 p5,.bool q1,.int .i64 q2,.string (zad q3),.int .i64 q4,.int .i64 q5]] w (zap (.bool M) w);have B0:=Blk.new w 63 #[.int .i64 n,.bool b,.bool p1,.int .i64 p2,.string (zad p3),.int .i64 p4,.int .i64 p5,.bool q1,.int .i64 q2,.string (zad q3),.int .i64 q4,.int .i64 q5];have hb:New w (w.alloc (.cells #[.int .i64 n,.bool b,.bool p1,.int .i64 p2,.string (zad p3),.int .i64 p4,.int .i64 p5,.bool q1,.int .i64 q2,.string (zad q3),.int .i64 q4,.int .i64 q5] 63)):=(Below.refl _ _).alloc (Nat.le_refl _) _;have HB0:=Hz B0;have Hb:=Hz hb;obtain⟨x0,x1,x2,x3,x4,x5,x6,x7,x8,x9,x10,x11⟩:=za7 B0;clear B0 hb hf1 hf2 hf3 hf4;by_cases hr:t<0\/3<t\/n<0\/65536<n
 ·rw[if_pos hr] at hM
  have HM:=Hz hM;clear hM E;by_cases h1:t<0;all_goals try by_cases h2:3<t
  all_goals try by_cases h3:n<0
  all_goals try(have h4:65536<n:=by omega)
  all_goals
   clear hr;go_enter Tryz.func119,Tryz.ntmps119
   go_wp2
   go_ret
   exact⟨by rw[HM.out];rfl,Hb.out⟩
 rw[if_neg hr] at hM;have h1: ¬t<0:=by omega
 have h2: ¬3<t:=by omega
 have h3: ¬n<0:=by omega
 have h4: ¬65536<n:=by omega
 clear hr;cases b with
 |false=>
  rw[if_neg (by simp)] at hM;have HM:=Hz hM;clear hM;go_enter Tryz.func119,Tryz.ntmps119
  go_wp2
  go_ret
  exact⟨by rw[HM.out];rfl,Hb.out⟩
 |true=>
  rw[if_pos rfl] at hM;have HM:=Hz hM;clear hM E;go_enter Tryz.func119,Tryz.ntmps119
  go_wp2_with fail
  refine(R1.out _).mono ?_;rintro e w1 ⟨rfl,b1⟩;have B0:=(HB0.out.alloc _).below b1 (by simp;omega);have BC:=(Blk.new _ _ _).below b1 (by simp);have hl:=New.trans (New.trans Hb.out ((Below.refl _ _).alloc (Nat.le_refl _) _)) b1;simp only[World.size_alloc] at BC;clear x0 x1 x2 x3 x4 x5 x6 x7 x8 x9 x10 x11 HB0 Hb b1;obtain⟨x0,x1,x2,x3,x4,x5,x6,x7,x8,x9,x10,x11⟩:=za7 B0;obtain⟨y0,y1,y2⟩:=zaf BC;cases m1 with
  |false=>
   go_wp2_with fail
   go_ret
   exact⟨by rw[HM.out];rfl,hl⟩
  |true=>
   go_wp2_with fail
   refine(R2.out _).mono ?_;rintro e w2 ⟨rfl,b2⟩;replace B0:=B0.below b2 B0.lt;replace hl:=New.trans hl b2;clear x0 x1 x2 x3 x4 x5 x6 x7 x8 x9 x10 x11 b2 y0 y1 y2 BC;obtain⟨x0,x1,x2,x3,x4,x5,x6,x7,x8,x9,x10,x11⟩:=za7 B0;cases m2 with
   |false=>
    go_wp2_with fail
    go_ret
    exact⟨by rw[HM.out];rfl,hl⟩
   |true=>
    have C:=Hz (HN.out (by trivial) (by trivial));go_wp2_with fail
    refine(C.out _).mono ?_;rintro e w3 ⟨rfl,b3⟩;go_wp2
    go_ret
    exact⟨by rw[HM.out];rfl,New.trans hl b3⟩
end Go.Proofs.Y
namespace Go.Hm
open Go Go.RowKit
theorem z2u(a b:Value)(n:Nat):(madeCells #[a,b] (n*2)).toList=(List.replicate n [a,b]).flatten:=by
 induction n with
 |zero=>simp[madeCells]
 |succ n ih=>
  rw[List.replicate_succ',List.flatten_append,<-ih];have e:∀m,m%2=0->(madeCells #[a,b] (m+2)).toList=(madeCells #[a,b] m).toList++[a,b]:=by intro m hm;simp only[madeCells,Array.toList_map,Array.toList_range,List.range_succ,List.map_append,List.map_cons,List.map_nil,List.append_assoc,List.cons_append,List.nil_append,List.size_toArray,List.length_cons,List.length_nil];rw[hm,show(m+1)%2=1 by omega];rfl
  rw[Nat.succ_mul,e (n*2) (by omega)];simp
theorem zrv(n:Nat):(List.replicate n [Value.int .i64 0,.int .i64 0]).flatten=zcy (List.replicate n (0,0)):=by
 induction n with
 |zero=>rfl
 |succ n ih=>
  rw[List.replicate_succ,List.flatten_cons,ih,List.replicate_succ];rfl
theorem zvt(l m:List (Int × Int)):zcy (l++m)=zcy l++zcy m:=by simp[zcy]
section
variable{P:Program}{ops:Array Oper}{rest:List Oper}{o:Oper}{a:Act}{Q:Exit->Act->World->Prop}
theorem zpm{w:World}{t e:TypeId}{x y:Value}{bytes:Nat}(E:ElT P t e (.agg #[x,y]) 2 bytes)(hgd:o.guard=none)(lo co:Operand)(ho:o.op=Op.makeSlice t lo co)
 {W:World}{B:Nat}{kl kc:IntKind}{L C:Int}(n:Nat)(hl:a.eval lo= .int kl L)(hc:a.eval co= .int kc C)(hL:L=(n:Int))(hC:C=(n:Int))(hb:Below B W w)(hbase:B<=w.heap.size)
 (hn:n*bytes<=140737488355328)(hm:n<=maxLen)
 (h:∀w',w'.ownsRow w.heap.size e 2 (.slice (some ⟨w.heap.size,0,none⟩) n n) n (List.replicate n [x,y]).flatten->w.grownBy w' none->Below B W w'->w'.heap.size=w.heap.size+1->wpList P ops Q rest (a.put o.dst (.slice (some ⟨w.heap.size,0,none⟩) n n)) w'):
 wpList P ops Q (o::rest) a w:=by
 obtain⟨i,hi,hz0,hs1,hb1⟩:=info_parts E.hi;subst hL hC;have hmC:(n:Int)<=9223372036854775807:=by have h:=hm;simp only[maxLen] at h;omega
 have hbC:(i.bytes:Int)*(n:Int)<=281474976710656:=by
  have h:((i.bytes*n:Nat):Int)<=281474976710656:=by rw[hb1,Nat.mul_comm];omega
  rwa[Int.natCast_mul] at h
 have hrun:=run_make (P:=P) w t e i (.agg #[x,y]) E.ht hi hz0 kl kc (n:Int) (n:Int) (by omega) (by omega) hbC hmC;rw[Int.toNat_natCast,hs1] at hrun;refine wpList_plain hgd fun K hK=>?_
 unfold Oper.wp;simp[execOp,ho,hl,hc,hrun,Result.andThen];refine hK _ _ (h _ ?_ (World.grownBy_alloc _ _ _) (hb.alloc hbase _) (by simp));refine⟨by simp,.inr ⟨_,n,_,rfl,Nat.le_refl _,heap_alloc_new w _,Nat.le_refl _,hm,by simp[size_madeCells],?_⟩⟩;rw[List.take_of_length_le (by simp[size_madeCells])];exact z2u x y n
theorem zmw{w:World}(hgd:o.guard=none)(ty:TypeId)(x y:Operand)(ho:o.op= .store ty x y)
 {base:Nat}{e:TypeId}{g n m:Nat}{A B:List (Int × Int)}{old new:Int × Int}(hown:w.ownsRow base e 2 (.slice (some ⟨g,0,none⟩) n n) n (zcy (A++old::B)))(hm:A.length=m)(hmn:m<n)
 (hx:a.eval x= .pointer (some ⟨g,m*2,none⟩))(hy:a.eval y= .agg #[.int .i64 new.1,.int .i64 new.2])(hi:(P.info? ty).map (·.size)=some 2)
 (h:∀W,W.ownsRow base e 2 (.slice (some ⟨g,0,none⟩) n n) n (zcy (A++new::B))->w.grownBy W (some g)->wpList P ops Q rest (a.put o.dst undef) W):wpList P ops Q (o::rest) a w:=by
 obtain⟨cs,hB⟩:=zih hown;obtain⟨ad,ea,-,c0,c1⟩:=(Reads.of_own hown).pair2 (i:=m) hmn;injection ea with ea;subst ea;have ead:(⟨g,0,none⟩:Addr).add (m*2)=⟨g,m*2,none⟩:=by unfold Addr.add;split<;> simp_all
 rw[ead] at c0 c1;dsimp only at c0 c1;have ht:w.there g (m*2) (#[Value.int .i64 new.1,.int .i64 new.2]:Array Value).size:=by
  intro j hj;have hj:j<2:=hj;refine⟨?_,hB.frozen _⟩;have:j=0\/j=1:=by omega
  rcases this with rfl|rfl
  ·rw[Nat.add_zero,c0];rfl
  ·rw[c1];rfl
 refine wpList_store_mid hgd ty x y ho g (m*2) #[.int .i64 new.1,.int .i64 new.2] hx hy ht hi (by simp[Value.oneCell']) ?_;obtain⟨o1,g1⟩:=World.ownsRow.stored hown (m*2) (.int .i64 new.1);obtain⟨o2,g2⟩:=World.ownsRow.stored o1 (m*2+1) (.int .i64 new.2);have hl:(zcy A).length=m*2:=by rw[zga,hm]
 have e2:((zcy (A++old::B)).set (m*2) (.int .i64 new.1)).set (m*2+1) (.int .i64 new.2)=zcy (A++new::B):=by rw[zvt,zvt,List.set_append_right _ _ (by omega),List.set_append_right _ _ (by omega),hl,Nat.sub_self,show m*2+1-m*2=1 by omega];rfl
 rw[e2] at o2;exact h _ o2 (g1.trans g2)
end
end Go.Hm
