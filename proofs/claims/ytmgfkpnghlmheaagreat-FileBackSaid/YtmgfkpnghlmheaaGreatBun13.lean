/- Texts merged and made short: DelM, CurS, DelA, DelB. -/
import Derived.Test.YtmgfkpnghlmheaaGreatBun1
import Derived.Test.YtmgfkpnghlmheaaGreatBun10
import Derived.Test.YtmgfkpnghlmheaaGreatBun11
import Derived.Test.YtmgfkpnghlmheaaGreatBun12
import Derived.Test.YtmgfkpnghlmheaaGreatBun2
import Derived.Test.YtmgfkpnghlmheaaGreatBun3
import Derived.Test.YtmgfkpnghlmheaaGreatBun4
import Derived.Test.YtmgfkpnghlmheaaGreatBun7
set_option maxHeartbeats 2000000
namespace Go.Proofs.YtmgfkpnghlmheaaGreat
open Go.RowKit Go.Hm
def wrI(x:Int):Int:=IntKind.i64.wrap x
theorem zyr(x:Int):wrI x=(x+9223372036854775808)%18446744073709551616-9223372036854775808:=by
 unfold wrI;rw[IntKind.wrap_i64]
def zex(x:Int):Prop:= -9223372036854775808≤x∧x≤9223372036854775807
theorem qdn(x:Int):zex (wrI x):=by
 rw[zyr];unfold zex;omega
theorem qg1{x:Int}(h:zex x):wrI x=x:=by
 rw[zyr];unfold zex at h;omega
theorem z96{x y:Int}(h:zex y):wrI (x+wrI (y-x))=y:=by
 rw[zyr,zyr];unfold zex at h;omega
theorem zjh{x:Int}(h:zex x):zig x<18446744073709551616:=by unfold zex at h;unfold zig;split<;> omega
theorem zys{n:Nat}(h:n<18446744073709551616):zex (zag n):=by unfold zex zag;split<;> omega
def zdr:List Int→List Int
 |x::y::l=>wrI (y-x)::zdr (y::l)
 |_=>[]
theorem zeb:∀l:List Int,(zdr l).length=l.length-1
 | []=>rfl
 | [_]=>rfl
 |x::y::l=>by
  have:=zeb (y::l);rw[zdr,List.length_cons,this];simp
theorem ztx:∀(l:List Int) (k:Nat),k+1<l.length→(zdr l).getD k 0=wrI (l.getD (k+1) 0-l.getD k 0)
 | [],k,h=>by simp at h
 | [_],k,h=>by simp at h
 |x::y::l,0,h=>rfl
 |x::y::l,k+1,h=>by
  have:=ztx (y::l) k (by simpa using h);rw[zdr,List.getD_cons_succ,this];rfl
theorem zgw:∀(l:List Int),∀s∈zdr l,zex s
 | [],_,h=>by simp[zdr] at h
 | [_],_,h=>by simp[zdr] at h
 |x::y::l,s,h=>by
  rw[zdr] at h;rcases List.mem_cons.1 h with rfl|h
  ·exact qdn _
  ·exact zgw (y::l) s h
def zfc(x:Int):List Int→List Int
 | []=>[]
 |s::l=>wrI (x+s)::zfc (wrI (x+s)) l
theorem zqd:∀(l:List Int) (x:Int),(∀y∈l,zex y)→zfc x (zdr (x::l))=l
 | [],_,_=>rfl
 |y::l,x,h=>by
  rw[zdr,zfc,z96 (h y (by simp)),zqd l y (fun z hz=>h z (by simp[hz]))]
theorem zkc:∀(l:List Int) (x:Int),(zfc x l).length=l.length
 | [],_=>rfl
 |s::l,x=>by rw[zfc,List.length_cons,List.length_cons,zkc l]
theorem zyt:∀(l:List Int) (x:Int),∀y∈zfc x l,zex y
 | [],_,_,h=>by simp[zfc] at h
 |s::l,x,y,h=>by
  rw[zfc] at h;rcases List.mem_cons.1 h with rfl|h
  ·exact qdn _
  ·exact zyt l _ y h
def zid(d:Int)(l:List Int):Int:=l.getLast?.getD d
theorem zqe(d x:Int)(l:List Int):zid d (x::l)=zid x l:=by
 unfold zid;rw[List.getLast?_cons];rfl
theorem z97{l:List Int}(h:0<l.length)(d:Int):zid d l=l.getD (l.length-1) 0:=by
 unfold zid;rw[List.getLast?_eq_getElem?,List.getD_eq_getElem?_getD,List.getElem?_eq_getElem (by omega)];rfl
theorem znx:∀(a b:List Int) (x:Int),zfc x (a++b)=zfc x a++zfc (zid x (zfc x a)) b
 | [],b,x=>rfl
 |s::a,b,x=>by
  rw[List.cons_append,zfc,zfc,znx a b,List.cons_append,zqe]
theorem z02(a:List Int)(s x:Int):zfc x (a++[s])=zfc x a++[wrI (zid x (zfc x a)+s)]:=by
 rw[znx];rfl
def zgx(l:List Int):Nat→Int
 |0=>l.getD 0 0
 |k+1=>min (zgx l k) (l.getD (k+1) 0)
def leastD(l:List Int):Int:=zgx l (l.length-1)
theorem zty(l:List Int):∀k i,i≤k→zgx l k≤l.getD i 0
 |0,i,h=>by
  obtain rfl:i=0:=by omega
  exact Int.le_refl _
 |k+1,i,h=>by
  rw[zgx];rcases Nat.lt_or_ge i (k+1) with e|e
  ·have:=zty l k i (by omega)
   omega
  ·obtain rfl:i=k+1:=by omega
   omega
theorem ztz(l:List Int):∀k,∃i,i≤k∧zgx l k=l.getD i 0
 |0=>⟨0,Nat.le_refl _,rfl⟩
 |k+1=>by
  obtain⟨i,hi,e⟩:=ztz l k;rw[zgx];rcases Int.le_total (zgx l k) (l.getD (k+1) 0) with h|h
  ·exact⟨i,by omega,by rw[Int.min_eq_left h,e]⟩
  ·exact⟨k+1,Nat.le_refl _,by rw[Int.min_eq_right h]⟩
theorem zgy{l:List Int}{i:Nat}(h:i<l.length):l.getD i 0∈l:=by
 rw[List.getD_eq_getElem?_getD,List.getElem?_eq_getElem h];exact List.getElem_mem h
theorem z4a{l:List Int}(h:∀x∈l,zex x){k:Nat}(hk:k<l.length):zex (zgx l k):=by
 obtain⟨i,hi,e⟩:=ztz l k;rw[e];exact h _ (zgy (by omega))
theorem zkd{l:List Int}(h:∀x∈l,zex x)(hl:0<l.length):zex (leastD l):=z4a h (by omega)
theorem zny{l:List Int}{x:Int}(h:x∈l):leastD l≤x:=by
 obtain⟨i,hi,rfl⟩:=List.getElem_of_mem h;have:=zty l (l.length-1) i (by omega);rw[List.getD_eq_getElem?_getD,List.getElem?_eq_getElem hi] at this;exact this
def zdn(l:List Int):List Nat:=l.map fun s=>(s-leastD l).toNat
theorem znz(l:List Int):(zdn l).length=l.length:=by simp[zdn]
theorem zke{l:List Int}(h:∀x∈l,zex x):∀m∈zdn l,m≤18446744073709551615:=fun m hm=>by
 obtain⟨s,hs,rfl⟩:=List.mem_map.1 hm;have h1:=h s hs;have h2:=zkd h (List.length_pos_of_mem hs);have h3:=zny hs;unfold zex at h1 h2;omega
def blockD(l:List Int):List Nat:=vp (zig (leastD l))++(wid (zdn l)::low (pk (wid (zdn l)) (zdn l)) ((wid (zdn l)*l.length+7)/8))
theorem zqf{l:List Int}(h:∀x∈l,zex x)(hl:0<l.length)(hl2:l.length≤32):(blockD l).length≤268:=by
 have h1:=zaj (zjh (zkd h hl));have h2:=zjg _ (zke h);have h3:wid (zdn l)*l.length≤64*32:=Nat.mul_le_mul h2 hl2;unfold blockD;rw[List.length_append,List.length_cons,zbh];omega
def blk(s:List Int)(k:Nat):List Int:=(s.drop (k*32)).take 32
theorem zn0(s:List Int)(k:Nat):(blk s k).length=min 32 (s.length-k*32):=by simp[blk]
theorem zt0{s:List Int}(h:∀x∈s,zex x)(k:Nat):∀x∈blk s k,zex x:=fun x hx=>h x (List.mem_of_mem_drop (List.mem_of_mem_take hx))
def zcd(s:List Int)(K:Nat):List Nat:=(List.range K).flatMap fun k=>blockD (blk s k)
theorem zhp(s:List Int):zcd s 0=[]:=rfl
theorem zhq(s:List Int)(k:Nat):zcd s (k+1)=zcd s k++blockD (blk s k):=by
 unfold zcd;rw[List.range_succ,List.flatMap_append];simp
def nblk(n:Nat):Nat:=(n+31)/32
theorem zf6{s:List Int}(h:∀x∈s,zex x):∀k,k≤nblk s.length→(zcd s k).length≤268*k
 |0,_=>by simp[zhp]
 |k+1,hk=>by
  have ih:=zf6 h k (by omega);unfold nblk at hk;have:=zqf (zt0 h k) (by rw[zn0];omega) (by rw[zn0];omega);rw[zhq,List.length_append];omega
theorem z98(s:List Int)(k:Nat):s.take ((k+1)*32)=s.take (k*32)++blk s k:=by
 unfold blk;rw[Nat.add_mul,Nat.one_mul,List.take_add]
def zji(l:List Int):Option (List Nat):=
 if 65536<l.length then none else if l.length=0 then some [] else some (vp (zig (l.getD 0 0))++zcd (zdr l) (nblk (l.length-1)))
theorem zf7{l:List Int}{b:List Nat}(h:zji l=some b):l.length≤65536:=by
 unfold zji at h;split at h
 ·cases h
 ·omega
theorem zf8{l:List Int}{b:List Nat}(hl:∀x∈l,zex x)(h:zji l=some b):b.length≤600000:=by
 have h0:=zf7 h;unfold zji at h;rw[if_neg (by omega)] at h;split at h
 ·injection h with h
  subst h;simp
 ·injection h with h
  subst h;have h1:=zaj (zjh (hl _ (zgy (show 0<l.length by omega))));have h2:=zf6 (zgw l) (nblk (l.length-1)) (by rw[zeb];exact Nat.le_refl _);unfold nblk at h2⊢;rw[List.length_append];omega
def zdi(n:Nat)(S:St):List Int × St:=
 match zbg (zbv (nby ((zbc (zh3 S).2).1:Int) (n:Int)) (zbc (zh3 S).2).2).1 ((zbc (zh3 S).2).1:Int) (n:Int) with
 |some m=>(m.map fun y:Nat=>wrI (zag (zh3 S).1+(y:Int)),(zbv (nby ((zbc (zh3 S).2).1:Int) (n:Int)) (zbc (zh3 S).2).2).2)
 |none=>([],none)
theorem zwp{l:List Int}(h:∀x∈l,zex x)(h0:0<l.length)(hl:l.length≤65536)(r:List Nat):zdi l.length (some (blockD l++r))=(l,some r):=by
 have hw:=zjg _ (zke h);have hlen:(low (pk (wid (zdn l)) (zdn l)) ((wid (zdn l)*l.length+7)/8)).length=(wid (zdn l)*l.length+7)/8:=zbh _ _;have ht:=zdf (low (pk (wid (zdn l)) (zdn l)) ((wid (zdn l)*l.length+7)/8)) r;rw[hlen] at ht;have hu:=zhm (zdn l) (wid (zdn l)) hw (by rw[znz];exact hl) (Nat.le_refl _) (zke h);rw[znz] at hu;unfold zdi blockD;rw[List.append_assoc,ziz _ _ (zjh (zkd h h0))];simp only[List.cons_append,zbc];rw[znq _ _ hw hl,ht];dsimp only;rw[hu];dsimp only;rw[znu]
 congr 1
 unfold zdn;rw[List.map_map]
 have:∀s∈l,((fun y:Nat=>wrI (leastD l+(y:Int))) ∘ fun s=>(s-leastD l).toNat) s=s:=by
  intro s hs;have h3:=zny hs;simp only[Function.comp];rw[show leastD l+(((s-leastD l).toNat:Nat):Int)=s by omega];exact qg1 (h s hs)
 rw[List.map_congr_left this];simp
theorem zt1(n:Nat):(zdi n none).2=none:=by
 unfold zdi;rw[z38,zi0,zdt];split<;> rfl
theorem zjq{b m:List Nat}{x:Int}{n:Nat}(h:zbg b x (n:Int)=some m):m.length=n:=by
 unfold zbg at h;split at h
 ·injection h with h
  rw[←h,zd6,Int.toNat_natCast]
 ·cases h
theorem zwq{n:Nat}{S:St}{r:List Nat}(h:(zdi n S).2=some r):(zdi n S).1.length=n:=by
 unfold zdi at h⊢;split
 ·rename_i m hm
  rw[List.length_map];exact zjq hm
 ·rename_i hm
  rw[hm] at h;cases h
theorem zqg(n:Nat)(S:St):(zdi n S).1.length≤n:=by
 unfold zdi;split
 ·rename_i m hm
  rw[List.length_map,zjq hm];exact Nat.le_refl _
 ·exact Nat.zero_le _
theorem zt2{S:St}(hS:S.ok):(zbc S).2.ok:=by
 unfold zbc;split
 ·rename_i b r
  exact St.ok_some fun x hx=>hS _ rfl x (by simp[hx])
 ·exact St.ok_none
def zlb(n:Nat):Nat→List Int × St→List Int × St
 |0,p=>p
 |k+1,p=>((zlb n k p).1++zfc (zid 0 (zlb n k p).1) (zdi (min 32 (n-k*32)) (zlb n k p).2).1,(zdi (min 32 (n-k*32)) (zlb n k p).2).2)
theorem zyu{s:List Int}(h:∀x∈s,zex x)(x:Int):∀(k:Nat) (r:List Nat),k≤nblk s.length→zlb s.length k ([x],some (zcd s k++r))=(x::zfc x (s.take (k*32)),some r)
 |0,r,_=>by simp[zlb,zhp,zfc]
 |k+1,r,hk=>by
  unfold nblk at hk;have hbl:=zn0 s k;rw[zlb,zhq,List.append_assoc,zyu h x k _ (by unfold nblk;omega)];dsimp only;rw[←hbl,zwp (zt0 h k) (by omega) (by omega)];dsimp only;rw[zqe,List.cons_append,←znx,←z98]
def zpx(n:Nat)(S:St):List Int × St:=zlb (n-1) (nblk (n-1)) ([zag (zh3 S).1],(zh3 S).2)
def zjr(n:Nat)(b:List Nat):List Int × St:=if n=0 then([],some b) else zpx n (some b)
theorem z4b{l:List Int}{b:List Nat}(h:∀x∈l,zex x)(he:zji l=some b):zjr l.length b=(l,some []):=by
 have hf:=zf7 he;unfold zji at he;rw[if_neg (by omega)] at he;unfold zjr
 cases l with
 |nil=>
  simp at he;subst he;rfl
 |cons x l=>
  rw[if_neg (by simp)] at he⊢;injection he with he;subst he;have e:=zyu (zgw (x::l)) x (nblk l.length) [] (by rw[zeb];exact Nat.le_refl _);rw[List.append_nil,zeb] at e;unfold zpx;rw[List.length_cons,Nat.add_sub_cancel,List.getD_cons_zero,ziz _ _ (zjh (h x (by simp)))];dsimp only;rw[znu];rw[List.length_cons,Nat.add_sub_cancel] at e;rw[e,List.take_of_length_le (by rw[zeb,List.length_cons];unfold nblk;omega),zqd l x (fun y hy=>h y (by simp[hy]))]
theorem zyv(n:Nat)(p:List Int × St):∀(k:Nat) (r:List Nat),(zlb n k p).2=some r→(zlb n k p).1.length=p.1.length+min (k*32) n
 |0,r,_=>by simp[zlb]
 |k+1,r,h=>by
  rw[zlb] at h⊢;dsimp only at h⊢;have h1:=zwq h
  cases e:(zlb n k p).2 with
  |none=>
   rw[e,zt1] at h;cases h
  |some q=>
   have ih:=zyv n p k q e;rw[←e,List.length_append,zkc,h1,ih];omega
theorem zwr(n:Nat)(p:List Int × St):∀k,(zlb n k p).1.length≤p.1.length+k*32
 |0=>by simp[zlb]
 |k+1=>by
  have ih:=zwr n p k;have h1:=zqg (min 32 (n-k*32)) (zlb n k p).2;rw[zlb];dsimp only;rw[List.length_append,zkc];omega
theorem zyw(n:Nat)(p:List Int × St)(h:0<p.1.length):∀k,0<(zlb n k p).1.length
 |0=>h
 |k+1=>by
  have ih:=zyw n p h k;rw[zlb];dsimp only;rw[List.length_append];omega
theorem z4c(n:Nat)(p:List Int × St)(h:∀x∈p.1,zex x):∀k,∀x∈(zlb n k p).1,zex x
 |0=>h
 |k+1=>by
  intro x hx;rw[zlb] at hx;rcases List.mem_append.1 hx with hx|hx
  ·exact z4c n p h k x hx
  ·exact zyt _ _ x hx
theorem zyx{n:Nat}{b:List Nat}(h8:∀x∈b,x<256):∀x∈(zjr n b).1,zex x:=by
 unfold zjr;split
 ·intro x hx
  cases hx
 ·refine z4c _ _ (fun x hx=>?_) _
  rw[List.mem_singleton] at hx;rw[hx];exact zys (zjp (St.ok_some h8))
theorem z99(n:Nat)(b:List Nat):(zjr n b).1.length≤n+32:=by
 unfold zjr;split
 ·simp
 ·have:=zwr (n-1) ([zag (zh3 (some b)).1],(zh3 (some b)).2) (nblk (n-1))
  unfold zpx;unfold nblk at this⊢;rw[List.length_singleton] at this;omega
theorem z4d{n:Nat}{b r:List Nat}(h:(zjr n b).2=some r):(zjr n b).1.length=n:=by
 unfold zjr at h⊢;by_cases h0:n=0
 ·rw[if_pos h0,h0]
  rfl
 ·rw[if_neg h0] at h⊢
  unfold zpx at h⊢;have:=zyv _ _ _ _ h;rw[this,List.length_singleton];unfold nblk;omega
structure IsDel(b:List Nat)(n:Int)(o:Option (List Int)):Prop where
 sound:∀l,o=some l→(l.length:Int)=n∧zji l=some b∧∀x∈l,zex x
 compl:∀l,(∀x∈l,zex x)→(l.length:Int)=n→zji l=some b→o=some l
theorem IsDel.uniq{b:List Nat}{n:Int}{o p:Option (List Int)}(h:IsDel b n o)(k:IsDel b n p):o=p:=by
 cases o with
 |some l=>obtain⟨a,b,c⟩:=h.sound l rfl;exact(k.compl l c a b).symm
 |none=>
  cases p with
  |none=>rfl
  |some l=>obtain⟨a,b,c⟩:=k.sound l rfl;exact h.compl l c a b
theorem zt3{b:List Nat}{n:Int}(h:n<0∨65536<n):IsDel b n none:=
 ⟨fun l e=>(by cases e),fun l _ h1 h2=>(by have:=zf7 h2;omega)⟩
theorem zyy{b:List Nat}{n:Nat}(h8:∀x∈b,x<256):IsDel b (n:Int) (if(zjr n b).2=some []∧zji (zjr n b).1=some b then some (zjr n b).1 else none):=by
 refine⟨fun l e=>?_,fun l hl h1 h2=>?_⟩
 ·split at e
  ·rename_i h
   injection e with e;subst e;exact⟨by rw[z4d h.1],h.2,zyx h8⟩
  ·cases e
 ·obtain rfl:l.length=n:=by omega
  rw[z4b hl h2,if_pos ⟨rfl,h2⟩]
open Go.RowKit Go.Hm
def CurS(w:World)(g:Nat)(S:St):Prop:=Cur w g (S.getD []) S.isNone
section
variable{w w':World}{g:Nat}{S:St}
theorem CurS.lt(h:CurS w g S):g<w.heap.size:=Cur.lt h
theorem CurS.below(h:CurS w g S)(hb:Below w.heap.size w w'):CurS w' g S:=Cur.below h hb
theorem CurS.keep{g':Nat}{t:TypeId}{cs:Array Value}(h:CurS w g S)(hg:w.grownBy w' (some g'))(hT:Blk w g' t cs)(hne:g≠g')(ht:5≠t):CurS w' g S:=Cur.keep h hg hT hne ht
theorem CurS.blk(h:CurS w g S):∃cs,Blk w g 154 cs:=Cur.blk h
theorem CurS.push{e:TypeId}{base:Nat}{v:Value}{xs:List Value}(h:CurS w g S)(o:Own w base e v xs)(hg:w.grownBy w' v.ownBlock)(he1:e≠154)(he2:5≠e):CurS w' g S:=by
 cases hv:v.ownBlock with
 |none=>
  rw[hv] at hg;exact h.below ((Turns.of_none (T:=[]) hg).new (by simp))
 |some g'=>
  obtain⟨cs,hB⟩:=o.row g' hv;rw[hv] at hg;obtain⟨cs2,hC⟩:=h.blk;exact h.keep hg hB (fun e'=>by subst e';exact Blk.ne_ hB hC he1 rfl) he2
theorem CurS.ok(h:CurS w g S):S.ok:=by
 intro l e;subst e;exact Cur.lt8 h
theorem CurS.of{l:List Nat}(h:Cur w g l false):CurS w g (some l):=h
theorem CurS.len(h:CurS w g S):(S.getD []).length≤9223372036854775807:=by have:=Cur.len h;unfold maxLen at this;omega
end
def z4y(e0:Ending)(g:Nat)(S:St)(w:World)(e:Ending)(w':World):Prop:=e=e0∧CurS w' g S∧w.grownBy w' (some g)
theorem zju{w:World}{g:Nat}{S:St}(h:CurS w g S):Calls Tryz.prog 110 #[.pointer (some ⟨g,0,none⟩)] w (z4y (.returned (.tuple #[])) g none w):=zhj h
theorem zy4{w:World}{g:Nat}{S:St}(h:CurS w g S):Calls Tryz.prog 80 #[.pointer (some ⟨g,0,none⟩)] w (zrx S.isNone w):=zjn h
theorem zgd{w:World}{g:Nat}{S:St}(h:CurS w g S):Calls Tryz.prog 82 #[.pointer (some ⟨g,0,none⟩)] w (zrx (zpw S) w):=by
 have:=qeg h
 have e:zpw S=(!S.isNone&&(S.getD []).isEmpty):=by
  cases S with
  |none=>rfl
  |some l=>cases l<;> simp[zpw]
 rw[e];exact this
theorem zt8{w:World}{g:Nat}{S:St}(h:CurS w g S):Calls Tryz.prog 126 #[.pointer (some ⟨g,0,none⟩)] w (zfa (S.getD []) w):=z9m h
theorem ze3{w:World}{g:Nat}{S:St}(h:CurS w g S):Calls Tryz.prog 122 #[.pointer (some ⟨g,0,none⟩)] w (z4y (.returned (.int .u8 ((zbc S).1:Int))) g (zbc S).2 w):=by
 cases S with
 |none=>exact zm2 h (.inl rfl)
 |some l=>
  cases l with
  |nil=>exact zm2 h (.inr (by simp))
  |cons b r=>exact zym h
def qij(x:List Nat)(g:Nat)(S:St)(w:World)(e:Ending)(w':World):Prop:=
 ∃A n c,e= .returned (.slice A n c)∧n=x.length∧Own w' w.heap.size 5 (.slice A n c) (za3 .u8 x)∧CurS w' g S∧w.grownBy w' (some g)
theorem zc6{w:World}{g:Nat}{n:Int}{S:St}(h:CurS w g S)(h0: -9223372036854775808≤n)(h1:n≤140737488355328):Calls Tryz.prog 123 #[.pointer (some ⟨g,0,none⟩),.int .i64 n] w (qij (zbv n S).1 g (zbv n S).2 w):=by
 rcases zb9 n S with hc|⟨l,rfl,h2,h3,hc⟩
 ·rw[hc]
  have hb:S.isNone=true∨n<0∨((S.getD []).length:Int)<n:=by
   unfold zbv at hc
   cases S with
   |none=>exact .inl rfl
   |some l=>
    simp only at hc;split at hc
    ·simp at hc
    ·rename_i hh
     simp only[Option.getD_some];omega
  refine(z9q h hb h0 (by omega)).mono ?_;rintro e w' ⟨rfl,k1,k2⟩;exact⟨none,0,0,rfl,rfl,Own.nil_,k1,k2⟩
 ·rw[hc]
  obtain⟨m,rfl⟩:=Int.eq_ofNat_of_zero_le h2;simp only[Int.toNat_natCast]
  have hm:m≤l.length:=by omega
  refine(z3v (l:=l) (n:=m) h hm (by omega)).mono ?_;rintro e w' ⟨A,c,rfl,k1,k2,k3⟩;exact⟨A,m,c,rfl,by rw[List.length_take];omega,k1,k2,k3⟩
theorem zkj{w:World}{g:Nat}{S:St}(h:CurS w g S):Calls Tryz.prog 111 #[.pointer (some ⟨g,0,none⟩)] w (z4y (.returned (.int .u64 ((zh3 S).1:Int))) g (zh3 S).2 w):=by
 rcases hc:zh3 S with⟨v,T⟩;have hok:=h.ok
 cases S with
 |none=>
  simp only[zh3,Prod.mk.injEq] at hc;obtain⟨rfl,rfl⟩:=hc;exact z4x h (.inl rfl)
 |some l=>
  simp only[zh3] at hc;split at hc
  ·rename_i N r hg
   obtain⟨h1,h2⟩:=zwn (hok l rfl) hg;simp only[Prod.mk.injEq] at hc;obtain⟨rfl,rfl⟩:=hc;subst h1;exact zw0 h h2
  ·rename_i hg
   simp only[Prod.mk.injEq] at hc;obtain⟨rfl,rfl⟩:=hc;exact z4x h (.inr (qex hg))
theorem zb8{w:World}{g:Nat}{m:Int}{S:St}(h:CurS w g S)(hm0: -9223372036854775808≤m)(hm:m≤9223372036854775807):Calls Tryz.prog 79 #[.pointer (some ⟨g,0,none⟩),.int .i64 m] w (z4y (.returned (.int .i64 ((lenS m S).1:Int))) g (lenS m S).2 w):=by
 have hok:=h.ok;by_cases hg:∃N r,S=some (vp N++r)∧(N:Int)≤m
 ·obtain⟨N,r,rfl,hN⟩:=hg
  rw[zb2 N r hN hm];exact qfd h hN hm
 ·have e:lenS m S=(0,none):=by
   rcases zbo m S hok with h1|⟨N,r,h1,h2,_,_⟩
   ·exact h1
   ·exact absurd ⟨N,r,h1,h2⟩ hg
  rw[e];refine qg6 h ?_ hm0 hm
  cases S with
  |none=>exact .inl rfl
  |some l=>
   refine .inr fun N r hl=>?_
   simp only[Option.getD_some] at hl;subst hl;rcases Int.lt_or_le m N with h1|h1
   ·exact h1
   ·exact absurd ⟨N,r,rfl,h1⟩ hg
def RCurS(w:World)(B g:Nat)(S:St):Prop:=RCur w B g (S.getD []) S.isNone
section
variable{w w':World}{B g:Nat}{S:St}
theorem RCurS.lt(h:RCurS w B g S):g<w.heap.size:=RCur.lt h
theorem RCurS.below(h:RCurS w B g S)(hb:Below w.heap.size w w'):RCurS w' B g S:=RCur.below h hb
theorem RCurS.keep{g':Nat}(h:RCurS w B g S)(hg:w.grownBy w' (some g'))(hB:B≤g')(hne:g≠g'):RCurS w' B g S:=RCur.keep h hg hB hne
theorem RCurS.blk(h:RCurS w B g S):∃cs,Blk w g 95 cs:=RCur.blk h
theorem RCurS.push{e:TypeId}{base:Nat}{v:Value}{xs:List Value}(h:RCurS w B g S)(o:Own w base e v xs)(hB:B≤base)(hg:w.grownBy w' v.ownBlock)(he:e≠95):RCurS w' B g S:=by
 cases hv:v.ownBlock with
 |none=>
  rw[hv] at hg;exact h.below ((Turns.of_none (T:=[]) hg).new (by simp))
 |some g'=>
  obtain⟨cs,hC⟩:=h.blk;have h1:=o.lt g' hv;have h2:=o.blk_ne hC he;rw[hv] at hg;exact h.keep hg (by omega) (fun e'=>by subst e';exact h2 hv)
theorem RCurS.new{A:Option Addr}{c:Nat}{l:List Nat}(h:Reads w w.heap.size 1 A l.length (za3 .u8 l))(hc:l.length≤c)(hm:c≤maxLen)(h8:∀x∈l,x<256):
 RCurS (w.alloc (.cells #[.slice A l.length c,.bool false] 95)) w.heap.size w.heap.size (some l):=
 ⟨A,c,Blk.new _ _ _,hc,hm,h.alloc (Nat.le_refl _) _,Nat.le_refl _,h8⟩
theorem RCurS.ok(h:RCurS w B g S):S.ok:=by
 intro l e;subst e;exact RCur.lt8 h
theorem RCurS.of{l:List Nat}(h:RCur w B g l false):RCurS w B g (some l):=h
end
end Go.Proofs.YtmgfkpnghlmheaaGreat
namespace Go.Hm
open Go Go.RowKit
theorem qb3(k:IntKind)(l:List Int)(i:Nat)(x:Int):(zep k l).set i (.int k x)=zep k (l.set i x):=by simp[zep]
theorem zxt(k:IntKind)(l m:List Int):zep k (l++m)=zep k l++zep k m:=by simp[zep]
theorem zdh(k:IntKind)(n:Nat)(x:Int):zep k (List.replicate n x)=List.replicate n (.int k x):=by simp[zep]
theorem Own.int0{w:World}{base:Nat}{e:TypeId}{g n c i:Nat}{k:IntKind}{l:List Int}(h:Own w base e (.slice (some ⟨g,0,none⟩) n c) (zep k l))(hi:i<n):
 base≤g∧g<w.heap.size∧w.cell? ⟨g,i,none⟩=some (.int k (l.getD i 0))∧w.frozen? ⟨g,i,none⟩=false∧
  ∀y:Int,Own (w.setCell ⟨g,i,none⟩ (.int k y)) base e (.slice (some ⟨g,0,none⟩) n c) (zep k (l.set i y)):=by
 have hn:=h.len;rw[zcw] at hn;obtain⟨u,h3,h1,h2,h4,h5,h6⟩:=h.at0 hi;rw[z3o k l i (by omega)] at h3;injection h3 with h3;subst h3;exact⟨h1,h2,h4,h5,fun y=>by rw[←qb3];exact h6 _⟩
theorem ziu{P:List Int}{n k:Nat}(q:Int)(hP:P.length=k)(hk:k<n):(P++List.replicate (n-k) 0).set k q=(P++[q])++List.replicate (n-(k+1)) 0:=by
 rw[List.set_append_right _ _ (by omega),hP,Nat.sub_self,show n-k=(n-(k+1))+1 by omega,List.replicate_succ,List.set_cons_zero,List.append_assoc];rfl
theorem zvm{P:List Nat}{n k:Nat}(q:Nat)(hP:P.length=k)(hk:k<n):(P++List.replicate (n-k) 0).set k q=(P++[q])++List.replicate (n-(k+1)) 0:=by
 rw[List.set_append_right _ _ (by omega),hP,Nat.sub_self,show n-k=(n-(k+1))+1 by omega,List.replicate_succ,List.set_cons_zero,List.append_assoc];rfl
end Go.Hm
namespace Go.Proofs.YtmgfkpnghlmheaaGreat
open Go.RowKit Go.Hm
def qb4(l:List Int)(w:World)(e:Ending)(w':World):Prop:=∃A n c,e= .returned (.slice A n c)∧Go.Hm.Own w' w.heap.size 3 (.slice A n c) (zep .i64 l)∧New w w'
def OptI(o:Option (List Int))(w:World)(e:Ending)(w':World):Prop:=
 match o with
 |none=>e= .returned (.tuple #[.slice none 0 0,.bool false])∧New w w'
 |some l=>∃A n c,e= .returned (.tuple #[.slice A n c,.bool true])∧Go.Hm.Own w' w.heap.size 3 (.slice A n c) (zep .i64 l)∧New w w'
set_option maxRecDepth 100000 in
theorem qb5{w:World}{A:Option Addr}{n c:Nat}{l:List Int}(h:Reads w w.heap.size 1 A n (zep .i64 l))(h0:0<n)(hn:n≤1000000):
 Calls Tryz.prog 241 #[.slice A n c] w (zdx (.int .i64 (leastD l)) w):=by
 obtain rfl:=h.lenI;obtain⟨ad,rfl,_,c0⟩:=h.int h0;rw[zj6] at c0
 have t1: ¬(l.length:Int)<1:=by omega
 have t2: ¬l.length<1:=by omega
 have t3:(0:Int)<(l.length:Int):=by omega
 have HR:=Hz h;have L0:Hid (zgx l 0=l.getD 0 0):=Hz rfl
 have LS:Hid (∀j,0<j→zgx l j=min (zgx l (j-1)) (l.getD j 0)):=Hz (fun j hj=>by
  obtain⟨k,rfl⟩:∃k,j=k+1:=⟨j-1,by omega⟩
  rfl)
 have LD:Hid (leastD l=zgx l (l.length-1)):=Hz rfl;clear h;generalize leastD l=LL at*;generalize zgx l=LK at*;generalize l.getD 0 0=z0 at*
 go_enter Tryz.func241,Tryz.ntmps241
 go_wp2_with fail
 go_loop [3,4] (fun v i=>∃j:Nat,0<j∧j≤l.length∧i= .int .i64 (j:Int)∧v= .int .i64 (LK (j-1))) (fun _ i=>l.length+1-(intOf i).toNat)
 case atStart=>exact⟨1,by omega,h0,rfl,by rw[Nat.sub_self,L0.out]⟩
 case round=>
  obtain⟨j,hj0,hj,rfl,rfl⟩:=hrel;clear c0;by_cases hlt:j<l.length
  ·obtain⟨ad',e,_,c1⟩:=HR.out.int hlt
   injection e with e;subst e;have hs:=LS.out j hj0;have HSK:=Hz hs;clear hs
   have hki:(j:Int)<(l.length:Int):=by omega
   have hw:IntKind.i64.wrap ((j:Int)+1)=(j:Int)+1:=by rw[IntKind.wrap_i64];omega
   generalize l.getD j 0=x at*;generalize LK (j-1)=y at*
   go_wp2_with fail
   go_round
   case rel=>exact⟨j+1,by omega,by omega,by go_num,by first|(rw[Nat.add_sub_cancel,HSK.out];done)|(rw[Nat.add_sub_cancel,HSK.out];exact congrArg (Value.int .i64) (by split<;> omega))⟩
   case measure=>simp[intOf];omega
  ·have hke:j=l.length:=by omega
   have hki: ¬(j:Int)<(l.length:Int):=by omega
   have hv:LK (j-1)=LL:=by rw[LD.out,hke]
   rw[hv];clear hke hv
   go_wp2_with fail
   go_ret
   exact⟨rfl,rfl⟩
set_option maxRecDepth 100000 in
theorem z2o{w:World}{A:Option Addr}{n c:Nat}{l:List Int}(h:Reads w w.heap.size 1 A n (zep .i64 l))(hn:n≤1000000):
 Calls Tryz.prog 228 #[.slice A n c] w (qb4 (zdr l) w):=by
 obtain rfl:=h.lenI;have HR:=Hz h;have SL:=zeb l;have HAT:=Hz (ztx l);have HS0:Hid (l.length=0→zdr l=[]):=Hz (fun e=>by rw[List.eq_nil_of_length_eq_zero e];rfl);clear h;generalize zdr l=S at*;by_cases h0:l.length=0
 ·have e0:((l.length:Int)==0)=true:=by rw[h0];rfl
  have hS:=HS0.out h0;have HS:=Hz hS;have H0:=Hz h0;clear SL h0 hS
  go_enter Tryz.func228,Tryz.ntmps228
  go_wp2
  go_ret
  exact⟨none,0,0,rfl,by rw[HS.out];exact Own.nil_,New.refl _⟩
 ·have e0:((l.length:Int)==0)=false:=by rw[beq_eq_false_iff_ne];omega
  obtain⟨m,hm⟩:∃m,m=l.length-1:=⟨_,rfl⟩;rw[←hm] at SL
  have hlm:l.length=m+1:=by omega
  have hw1:IntKind.i64.wrap ((l.length:Int)-1)=(m:Int):=by rw[IntKind.wrap_i64];omega
  have HLM:=Hz hlm;have HSL:=Hz SL;clear hm hlm SL h0
  go_enter Tryz.func228,Tryz.ntmps228
  go_wp2_with (refine zca elI rfl (.tmp 10) (.tmp 10) rfl (W:=w) (B:=w.heap.size) m m rfl rfl rfl rfl (Nat.le_refl _) (Below.refl _ _) (Nat.le_refl _) rfl (by have:=HLM.out;omega) (by have:=HLM.out;simp only[maxLen];omega) ?_
               intro w1 o1 _ b1 s1)
  clear hw1 e0
  go_loopw [14] (fun i wr=>∃k:Nat,k≤m∧i= .int .i64 (k:Int)∧Go.Hm.Own wr w.heap.size 3 (.slice (some ⟨w.heap.size,0,none⟩) m m) (zep .i64 (S.take k++List.replicate (m-k) 0))∧New w wr) (fun i _=>m-(intOf i).toNat)
  case atStart=>exact⟨0,Nat.zero_le _,rfl,by simpa[zdh] using o1,b1⟩
  case round=>
   clear o1 b1 s1;obtain⟨k,hk,rfl,o,b⟩:=hrel;by_cases hlt:k<m
   ·have hlm:=HLM.out
    obtain⟨ad,rfl,_,c0⟩:=(Reads.later HR.out b).int (i:=k) (by omega);obtain⟨ad',e,_,c1⟩:=(Reads.later HR.out b).int (i:=k+1) (by omega);injection e with e;subst e;have hat:=HAT.out k (by omega);have htk:=zad S k 0 (by have:=HSL.out;omega);obtain⟨hg0,hgl,hc,hf,hset⟩:=o.int0 (i:=k) hlt
    have hsl:(S.take k).length=k:=by rw[List.length_take];have:=HSL.out;omega
    have hs2:=hset (S.getD k 0);rw[ziu _ hsl hlt,←htk,hat] at hs2;have HSet:=Hz hs2;generalize(S.take k++List.replicate (m-k) 0).getD k 0=z at*;generalize l.getD k 0=x at*;generalize l.getD (k+1) 0=y at*;have hw2:IntKind.i64.wrap (y-x)=wrI (y-x):=rfl;obtain⟨j,hj⟩:∃j,j=k+1:=⟨_,rfl⟩;rw[←hj] at c1 HSet
    have hw3:IntKind.i64.wrap ((k:Int)+1)=(j:Int):=by rw[IntKind.wrap_i64];omega
    have i1:(k:Int)<(m:Int):=by omega
    have i2:(k:Int)<(l.length:Int):=by omega
    have i3:(j:Int)<(l.length:Int):=by omega
    have HJ:=Hz hj;have HB:=Hz (fun q=>(below_drewN b q).setCell (p:=⟨w.heap.size,k,none⟩) (Nat.le_refl _) (.int .i64 (wrI (y-x))));clear hat htk hset hs2 hsl hlm hj
    go_wp2
    go_still_tail 13,(by kernel_rfl)
    go_wp2
    go_roundw
    case rel=>exact⟨j,by have:=HJ.out;omega,rfl,by first|exact HSet.out|exact(HSet.out).drewN _,by first|exact HB.out _|exact HB.out 0⟩
    case measure=>have:=HJ.out;simp[intOf];omega
   ·obtain rfl:k=m:=by omega
    have hS:S.take k=S:=List.take_of_length_le (by have:=HSL.out;omega);rw[hS,Nat.sub_self,List.replicate_zero,List.append_nil] at o;clear hS
    go_wp2
    go_ret
    exact⟨_,_,_,rfl,o,b⟩
theorem zrh(n:Nat)(w:World)(hn:n≤1000000):Calls Tryz.prog 229 #[.int .i64 (n:Int)] w (zdx (.int .i64 (nblk n:Nat)) w):=by
 have h1:IntKind.i64.wrap ((n:Int)+32)=(n:Int)+32:=by rw[IntKind.wrap_i64];omega
 have hq:((n:Int)+31)/32=((nblk n:Nat):Int):=by unfold nblk;omega
 have HQ:=Hz hq;clear hq;generalize nblk n=q at*
 go_enter Tryz.func229,Tryz.ntmps229
 go_wp2
 go_ret
 exact⟨congrArg (fun z=>Ending.returned (.int .i64 z)) (by have:=HQ.out;omega),rfl⟩
open Go.RowKit Go.Hm
set_option maxRecDepth 100000 in
theorem zvn{w:World}{A:Option Addr}{n c:Nat}{l:List Int}(h:Reads w w.heap.size 1 A n (zep .i64 l))(hl:∀x∈l,zex x)(h0:0<n)(hn:n≤65536):
 Calls Tryz.prog 230 #[.slice A n c] w (OptB (some (blockD l)) w):=by
 obtain rfl:=h.lenI;have MN:=Hz (qb5 (c:=c) h h0 (by omega));have HR:=Hz h;have hll:=zkd hl h0;have ZG:=Hz (fun W:World=>znv (leastD l) W hll.1 hll.2);have PT:=Hz (fun W:World=>zcx none 0 0 [] (zig (leastD l)) W Reads.none_ (by omega) (by have:=zjh hll;omega));have hvl:=zaj (zjh hll);have hmw:=zke hl;have hml:=znz l;have hw:=zjg _ hmw;have PO:=zfg (zdn l) (wid (zdn l)) hw (by rw[hml];exact hn) (Nat.le_refl _)
 have hm:(wid (zdn l)*l.length+7)/8≤524288:=by
  have:=Nat.mul_le_mul hw hn;omega
 have hlen:(low (pk (wid (zdn l)) (zdn l)) ((wid (zdn l)*l.length+7)/8)).length=(wid (zdn l)*l.length+7)/8:=zbh _ _;rw[hml] at PO
 have HAT:Hid (∀k,k<l.length→(zdn l).getD k 0=(l.getD k 0-leastD l).toNat∧zex (l.getD k 0)∧leastD l≤l.getD k 0):=Hz (fun k hk=>by
  refine⟨?_,hl _ (zgy hk),zny (zgy hk)⟩;unfold zdn;rw[List.getD_eq_getElem?_getD,List.getElem?_map,List.getD_eq_getElem?_getD,List.getElem?_eq_getElem hk]
  rfl)
 have HB:Hid (blockD l=vp (zig (leastD l))++[wid (zdn l)]++low (pk (wid (zdn l)) (zdn l)) ((wid (zdn l)*l.length+7)/8)):=Hz (by unfold blockD;simp);have HML:=Hz hml;have HMW:=Hz hmw;have HPO:=Hz PO;have HLL:=Hz hll;clear h hl PO hml hmw hll;generalize blockD l=BD at*;generalize low (pk (wid (zdn l)) (zdn l)) ((wid (zdn l)*l.length+7)/8)=PB at*;generalize(wid (zdn l)*l.length+7)/8=pm at*;generalize zdn l=D at*;generalize leastD l=ll at*;subst hlen
 go_enter Tryz.func230,Tryz.ntmps230
 go_wp2_with fail
 refine MN.out.mono ?_;rintro e w1 ⟨rfl,rfl⟩;clear MN
 go_wp2_with (refine zca elW rfl (.tmp 15) (.tmp 15) rfl (W:=w) (B:=w.heap.size) l.length l.length rfl rfl rfl rfl (Nat.le_refl _) (Below.refl _ _) (Nat.le_refl _) rfl (by omega) (by simp only[maxLen];omega) ?_
              intro w1 o1 _ b1 s1)
 go_loopw [19] (fun i wr=>∃k:Nat,k≤l.length∧i= .int .i64 (k:Int)∧Go.Hm.Own wr w.heap.size 87 (.slice (some ⟨w.heap.size,0,none⟩) l.length l.length) (za3 .u64 (D.take k++List.replicate (l.length-k) 0))∧New w wr) (fun i _=>l.length-(intOf i).toNat)
 case atStart=>exact⟨0,Nat.zero_le _,rfl,by simpa[zbx] using o1,b1⟩
 case round=>
  clear o1 b1 s1;obtain⟨k,hk,rfl,o,b⟩:=hrel;by_cases hlt:k<l.length
  ·obtain⟨ad,rfl,_,c0⟩:=(Reads.later HR.out b).int hlt
   obtain⟨e1,e2,e3⟩:=HAT.out k hlt;have htk:=zad D k 0 (by have:=HML.out;omega);obtain⟨hg0,hgl,hc,hf,hset⟩:=o.num0 (i:=k) hlt
   have hsl:(D.take k).length=k:=by rw[List.length_take];have:=HML.out;omega
   have hs2:=hset (D.getD k 0);rw[zvm _ hsl hlt,←htk,e1] at hs2;have HSet:=Hz hs2;generalize(D.take k++List.replicate (l.length-k) 0).getD k 0=z at*;generalize l.getD k 0=x at*;have hll:=HLL.out;unfold zex at e2 hll
   have hw2:IntKind.u64.wrap (IntKind.u64.wrap x-IntKind.u64.wrap ll)=(((x-ll).toNat:Nat):Int):=by rw[IntKind.wrap_u64,IntKind.wrap_u64,IntKind.wrap_u64];omega
   generalize(x-ll).toNat=d at*
   have i1:(k:Int)<(l.length:Int):=by omega
   have HB2:=Hz (fun q=>(below_drewN b q).setCell (p:=⟨w.heap.size,k,none⟩) (Nat.le_refl _) (.int .u64 (d:Int)));clear e1 e2 e3 hll htk hset hs2 hsl
   go_wp2
   go_roundw
   case rel=>exact⟨k+1,by omega,by go_num,by first|exact HSet.out|exact(HSet.out).drewN _,by first|exact HB2.out _|exact HB2.out 0⟩
   case measure=>simp[intOf];omega
  ·obtain rfl:k=l.length:=by omega
   have hS:D.take l.length=D:=List.take_of_length_le (by have:=HML.out;omega);rw[hS,Nat.sub_self,List.replicate_zero,List.append_nil] at o;have W:=Hz (zka (c:=l.length) o.reads HMW.out (by omega));have K:=zm3 (c:=l.length) (wid D:Int) o.reads HMW.out (by omega) (by omega) (by omega);rw[HPO.out] at K;replace K:=Hz K;generalize wid D=q at*;clear hS o
   go_wp2_with fail
   refine W.out.mono ?_;rintro e w1 ⟨rfl,rfl⟩
   go_wp2_with fail
   refine K.out.mono ?_;rintro e w2 ⟨A2,n2,c2,rfl,o2,b2⟩
   obtain rfl:n2=PB.length:=by have:=o2.len;rwa[zaa] at this
   clear W K;have b02:=New.trans b b2
   have hwq:IntKind.u8.wrap (q:Int)=(q:Int):=by rw[IntKind.wrap_u8];omega
   go_wp2_with fail
   refine(ZG.out _).mono ?_;rintro e w3 ⟨rfl,rfl⟩
   go_wp2_with fail
   refine(PT.out _).mono ?_;rintro e w3 ⟨A3,n3,c3,rfl,o3,b3⟩;rw[List.nil_append] at o3
   obtain rfl:n3=(vp (zig ll)).length:=by have:=o3.len;rwa[zaa] at this
   have b03:=New.trans b02 b3;have z3:=b3.size;have h23:=zfr (zge o3 (o2.base_le (Nat.zero_le _)));have o2:=o2.later b3;have o3:=o3.base_le (b':=w.heap.size) b02.size;clear ZG PT
   go_wp2_with (first
    |(refine zdq elB rfl (.tmp 43) (.tmp 46) rfl (W:=w) (B:=w.heap.size) o3 rfl rfl q rfl b03 (Nat.le_refl _) b03.size (by omega) (by simp only[maxLen];omega) ?_
      intro A4 c4 w4 _ _ o4 g4 b4 _ d4;have p2:=o2.kept g4 h23
      have hz4:=b4.size)
    |(refine zas elB rfl (.tmp 48) (.tmp 49) rfl (W:=w) (B:=w.heap.size) o4 p2.reads rfl rfl b4 (Nat.le_refl _) hz4 (by omega) (by simp only[maxLen];omega) ?_
      intro A5 c5 w5 _ _ o5 _ b5 _))
   go_ret2
   refine⟨A5,_,c5,rfl,?_,b5⟩;rw[HB.out];exact o5
end Go.Proofs.YtmgfkpnghlmheaaGreat
