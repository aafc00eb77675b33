/- Merged. -/
import Derived.Lib.Bytealg
import Derived.Test.YtmgfkpnghlmheaaGreatBun6
import Derived.Test.YtmgfkpnghlmheaaGreatBun7
set_option maxHeartbeats 2000000
namespace Go.Proofs.Y
open Go.RowKit Go.Hm
set_option maxRecDepth 100000 in
theorem qem{w:World}{A:Option Addr}{n c:Nat}{l:List Nat}(x:Nat)(h:Reads w w.heap.size 1 A n (za2 .u8 l))(hl:n<=140737488355200):
 Calls Tryz.prog 65 #[.slice A n c,.int .u32 (x:Int),.int .i64 4] w (zc4 (l++low x 4) w):=by
 obtain rfl:=h.len;go_enter Tryz.func65,Tryz.ntmps65
 go_wp2_with (first
  |(refine zcf elB rfl (.tmp 10) (.tmp 14) rfl (W:=w) (B:=w.heap.size) l.length (l.length+4) rfl rfl rfl (by simp) (by omega) (Below.refl _ _) (Nat.le_refl _) rfl (by omega) (by simp only[maxLen];omega) ?_
    intro w1 hown1 hg1 hb1 hs1)
  |(refine znn elB rfl (.tmp 16) (.tmp 17) rfl (W:=w) (B:=w.heap.size) hown1 (h.grown_far hg1 (by simp)) rfl rfl l.length (Nat.min_self _) hb1 (Nat.le_refl _) (zcs _ _) ?_
    intro w2 hown2 hg2 hb2 hs2))
 rw[List.take_of_length_le (by rw[zaa];omega),List.drop_of_length_le (by simp),List.append_nil] at hown2;have hs0:=hb2.size;clear hown1 hg1 hb1 hs1 hg2 hs2;go_loopw [7,20] (fun v i wr=>∃(k:Nat) (A:Option Addr) (c:Nat),k<=4/\i= .int .i64 (k:Int)/\v= .slice A (l.length+k) c/\Own wr w.heap.size 5 (.slice A (l.length+k) c) (za2 .u8 (l++low x k))/\Below w.heap.size w wr) (fun _ i _=>4-(intOf i).toNat)
 case atStart=>exact⟨0,_,_,by omega,rfl,rfl,by simpa[low] using hown2,hb2⟩
 case round=>
  obtain⟨k,A',c',hk,rfl,rfl,hown,hb⟩:=hrel;have hz:=hb.size;by_cases hlt:k<4
  ·have S:=Hz (z4b x k)
   have hlen:(l++low x k).length=l.length+k:=by rw[List.length_append,zbk]
   have HL:=Hz hlen;clear hlen;go_wp2_with (first
    |(refine zdt elB rfl (.tmp 23) (.tmp 29) rfl (W:=w) (B:=w.heap.size) hown rfl rfl (x/256^k%256) (by rw[S.out]) hb (Nat.le_refl _) (by omega) (by omega) (by simp only[maxLen];omega) ?_
      intro A3 c3 w3 _ _ hown3 hg3 hb3 _ _))
   go_roundw
   case rel=>exact⟨k+1,A3,c3,by omega,by go_num,rfl,by rw[List.append_assoc] at hown3;exact hown3,hb3⟩
   case measure=>simp[intOf];omega
  ·obtain rfl:k=4:=by omega
   go_wp2
   go_ret
   exact⟨A',_,c',rfl,hown,hb⟩
set_option maxRecDepth 100000 in
theorem qen{w:World}{A:Option Addr}{n c:Nat}{l:List Nat}(x:Nat)(h:Reads w w.heap.size 1 A n (za2 .u8 l))(hl:n<=140737488355200):
 Calls Tryz.prog 30 #[.slice A n c,.int .u32 (x:Int)] w (zc4 (l++low x 4) w):=by
 obtain rfl:=h.len;go_enter Tryz.func30,Tryz.ntmps30
 go_wp2_with (go_at_call 65;refine(qem x h hl).mono ?_;rintro e w1 ⟨A',n',c',rfl,k1,k2⟩)
 go_ret
 exact⟨A',n',c',rfl,k1,k2⟩
set_option maxRecDepth 100000 in
theorem qeo{w:World}{A:Option Addr}{n c:Nat}{l:List Nat}(x:Nat)(h:Reads w w.heap.size 1 A n (za2 .u8 l))(hl:n<=140737488355200):
 Calls Tryz.prog 202 #[.slice A n c,.int .u64 (x:Int),.int .i64 8] w (zc4 (l++low x 8) w):=by
 obtain rfl:=h.len;go_enter Tryz.func202,Tryz.ntmps202
 go_wp2_with (first
  |(refine zcf elB rfl (.tmp 10) (.tmp 14) rfl (W:=w) (B:=w.heap.size) l.length (l.length+8) rfl rfl rfl (by simp) (by omega) (Below.refl _ _) (Nat.le_refl _) rfl (by omega) (by simp only[maxLen];omega) ?_
    intro w1 hown1 hg1 hb1 hs1)
  |(refine znn elB rfl (.tmp 16) (.tmp 17) rfl (W:=w) (B:=w.heap.size) hown1 (h.grown_far hg1 (by simp)) rfl rfl l.length (Nat.min_self _) hb1 (Nat.le_refl _) (zcs _ _) ?_
    intro w2 hown2 hg2 hb2 hs2))
 rw[List.take_of_length_le (by rw[zaa];omega),List.drop_of_length_le (by simp),List.append_nil] at hown2;have hs0:=hb2.size;clear hown1 hg1 hb1 hs1 hg2 hs2;go_loopw [7,20] (fun v i wr=>∃(k:Nat) (A:Option Addr) (c:Nat),k<=8/\i= .int .i64 (k:Int)/\v= .slice A (l.length+k) c/\Own wr w.heap.size 5 (.slice A (l.length+k) c) (za2 .u8 (l++low x k))/\Below w.heap.size w wr) (fun _ i _=>8-(intOf i).toNat)
 case atStart=>exact⟨0,_,_,by omega,rfl,rfl,by simpa[low] using hown2,hb2⟩
 case round=>
  obtain⟨k,A',c',hk,rfl,rfl,hown,hb⟩:=hrel;have hz:=hb.size;by_cases hlt:k<8
  ·have S:=Hz (z4b x k)
   have hlen:(l++low x k).length=l.length+k:=by rw[List.length_append,zbk]
   have HL:=Hz hlen;clear hlen;go_wp2_with (first
    |(refine zdt elB rfl (.tmp 23) (.tmp 29) rfl (W:=w) (B:=w.heap.size) hown rfl rfl (x/256^k%256) (by rw[S.out]) hb (Nat.le_refl _) (by omega) (by omega) (by simp only[maxLen];omega) ?_
      intro A3 c3 w3 _ _ hown3 hg3 hb3 _ _))
   go_roundw
   case rel=>exact⟨k+1,A3,c3,by omega,by go_num,rfl,by rw[List.append_assoc] at hown3;exact hown3,hb3⟩
   case measure=>simp[intOf];omega
  ·obtain rfl:k=8:=by omega
   go_wp2
   go_ret
   exact⟨A',_,c',rfl,hown,hb⟩
set_option maxRecDepth 100000 in
theorem qep{w:World}{A:Option Addr}{n c:Nat}{l:List Nat}(x:Nat)(h:Reads w w.heap.size 1 A n (za2 .u8 l))(hl:n<=140737488355200):
 Calls Tryz.prog 178 #[.slice A n c,.int .u64 (x:Int)] w (zc4 (l++low x 8) w):=by
 obtain rfl:=h.len;go_enter Tryz.func178,Tryz.ntmps178
 go_wp2_with (go_at_call 202;refine(qeo x h hl).mono ?_;rintro e w1 ⟨A',n',c',rfl,k1,k2⟩)
 go_ret
 exact⟨A',n',c',rfl,k1,k2⟩
open Go.RowKit Go.Hm
theorem zwr{w:World}{g:Nat}{l:List Nat}(n:Nat)(h:Cur w g l false)(hn:n<=l.length)(hs:n<=1):
 Calls Tryz.prog 158 #[.pointer (some ⟨g,0,none⟩),.int .i64 (n:Int)] w (zde (.returned (.int .u8 (num (l.take n):Int))) g (l.drop n) false w):=by
 have hlt:(l.take n).length=n:=by rw[List.length_take];omega
 have N:=Hz (zj4 h hn);have h8:∀x∈l.take n,x<256:=by obtain⟨A,c,_,_,_,_,h5,_⟩:=h;exact fun x hx=>h5 x (List.mem_of_mem_take hx)
 unfold zj3 at N;generalize l.take n=T at*;generalize hD:l.drop n=D at*;clear hD h hn;go_enter Tryz.func158,Tryz.ntmps158
 go_wp2_with (first
  |(go_at_call 148;refine N.out.mono ?_;rintro e w1 ⟨A',c',rfl,k1,k2,k3⟩
    have k4:=k1.1))
 clear N;subst hlt;go_loop [5,12] (fun v i=>∃k:Nat,k<=T.length/\i= .int .i64 (k:Int)/\v= .int .u8 (num (T.take k):Int)) (fun _ i=>T.length-(intOf i).toNat)
 case atStart=>exact⟨0,by omega,rfl,by simp[num]⟩
 case round=>
  obtain⟨k,hk,rfl,rfl⟩:=hrel;by_cases hlt':k<T.length
  ·obtain⟨ad,rfl,hb,hcell⟩:=k4.num hlt'
   have S:=Hz (zwq T k hlt' hs h8);generalize T.getD k 0=x at*;go_wp2
   go_round
   case rel=>exact⟨k+1,by omega,by go_num,by rw[S.out]⟩
   case measure=>simp[intOf];omega
  ·obtain rfl:k=T.length:=by omega
   go_wp2
   go_ret
   exact⟨rfl,k2,k3⟩
theorem z1e{w:World}{g:Nat}{l:List Nat}{bad:Bool}{n:Int}(h:Cur w g l bad)(hn:bad=true\/n<0\/(l.length:Int)<n)(h1: -9223372036854775808<=n)(h2:n<=9223372036854775807):
 Calls Tryz.prog 158 #[.pointer (some ⟨g,0,none⟩),.int .i64 n] w (zde (.returned (.int .u8 0)) g [] true w):=by
 have HN:=Hz (zr7 h hn h1 h2);clear hn h1 h2 h;go_enter Tryz.func158,Tryz.ntmps158
 go_wp2_with (first
  |(go_at_call 148;refine HN.out.mono ?_;rintro e w1 ⟨rfl,k1,k2⟩))
 refine wp_loop_rounds 1 ?_;rw[rounds_succ];go_wp2
 go_ret
 exact⟨rfl,k1,k2⟩
theorem z4e{w:World}{g:Nat}{l:List Nat}(h:Cur w g l false)(hn:1<=l.length):
 Calls Tryz.prog 122 #[.pointer (some ⟨g,0,none⟩)] w (zde (.returned (.int .u8 (num (l.take 1):Int))) g (l.drop 1) false w):=by
 have N:=Hz (zwr 1 h hn (by omega));go_enter Tryz.func122,Tryz.ntmps122
 go_wp2_with (go_at_call 158;refine N.out.mono ?_;rintro e w1 ⟨rfl,k1,k2⟩)
 go_ret
 exact⟨rfl,k1,k2⟩
theorem zmv{w:World}{g:Nat}{l:List Nat}{bad:Bool}(h:Cur w g l bad)(hn:bad=true\/l.length<1):
 Calls Tryz.prog 122 #[.pointer (some ⟨g,0,none⟩)] w (zde (.returned (.int .u8 0)) g [] true w):=by
 have N:=Hz (z1e (n:=1) h (by rcases hn with hn|hn;exact .inl hn;exact .inr (.inr (by omega))) (by omega) (by omega));clear hn;go_enter Tryz.func122,Tryz.ntmps122
 go_wp2_with (go_at_call 158;refine N.out.mono ?_;rintro e w1 ⟨rfl,k1,k2⟩)
 go_ret
 exact⟨rfl,k1,k2⟩
theorem ztx{w:World}{g:Nat}{l:List Nat}(n:Nat)(h:Cur w g l false)(hn:n<=l.length)(hs:n<=4):
 Calls Tryz.prog 108 #[.pointer (some ⟨g,0,none⟩),.int .i64 (n:Int)] w (zde (.returned (.int .u32 (num (l.take n):Int))) g (l.drop n) false w):=by
 have hlt:(l.take n).length=n:=by rw[List.length_take];omega
 have N:=Hz (zj4 h hn);have h8:∀x∈l.take n,x<256:=by obtain⟨A,c,_,_,_,_,h5,_⟩:=h;exact fun x hx=>h5 x (List.mem_of_mem_take hx)
 unfold zj3 at N;generalize l.take n=T at*;generalize hD:l.drop n=D at*;clear hD h hn;go_enter Tryz.func108,Tryz.ntmps108
 go_wp2_with (first
  |(go_at_call 148;refine N.out.mono ?_;rintro e w1 ⟨A',c',rfl,k1,k2,k3⟩
    have k4:=k1.1))
 clear N;subst hlt;go_loop [5,12] (fun v i=>∃k:Nat,k<=T.length/\i= .int .i64 (k:Int)/\v= .int .u32 (num (T.take k):Int)) (fun _ i=>T.length-(intOf i).toNat)
 case atStart=>exact⟨0,by omega,rfl,by simp[num]⟩
 case round=>
  obtain⟨k,hk,rfl,rfl⟩:=hrel;by_cases hlt':k<T.length
  ·obtain⟨ad,rfl,hb,hcell⟩:=k4.num hlt'
   have S:=Hz (ztu T k hlt' hs h8);generalize T.getD k 0=x at*;go_wp2
   go_round
   case rel=>exact⟨k+1,by omega,by go_num,by rw[S.out]⟩
   case measure=>simp[intOf];omega
  ·obtain rfl:k=T.length:=by omega
   go_wp2
   go_ret
   exact⟨rfl,k2,k3⟩
theorem z92{w:World}{g:Nat}{l:List Nat}(h:Cur w g l false)(hn:4<=l.length):
 Calls Tryz.prog 77 #[.pointer (some ⟨g,0,none⟩)] w (zde (.returned (.int .u32 (num (l.take 4):Int))) g (l.drop 4) false w):=by
 have N:=Hz (ztx 4 h hn (by omega));go_enter Tryz.func77,Tryz.ntmps77
 go_wp2_with (go_at_call 108;refine N.out.mono ?_;rintro e w1 ⟨rfl,k1,k2⟩)
 go_ret
 exact⟨rfl,k1,k2⟩
theorem zty{w:World}{g:Nat}{l:List Nat}(n:Nat)(h:Cur w g l false)(hn:n<=l.length)(hs:n<=8):
 Calls Tryz.prog 237 #[.pointer (some ⟨g,0,none⟩),.int .i64 (n:Int)] w (zde (.returned (.int .u64 (num (l.take n):Int))) g (l.drop n) false w):=by
 have hlt:(l.take n).length=n:=by rw[List.length_take];omega
 have N:=Hz (zj4 h hn);have h8:∀x∈l.take n,x<256:=by obtain⟨A,c,_,_,_,_,h5,_⟩:=h;exact fun x hx=>h5 x (List.mem_of_mem_take hx)
 unfold zj3 at N;generalize l.take n=T at*;generalize hD:l.drop n=D at*;clear hD h hn;go_enter Tryz.func237,Tryz.ntmps237
 go_wp2_with (first
  |(go_at_call 148;refine N.out.mono ?_;rintro e w1 ⟨A',c',rfl,k1,k2,k3⟩
    have k4:=k1.1))
 clear N;subst hlt;go_loop [5,12] (fun v i=>∃k:Nat,k<=T.length/\i= .int .i64 (k:Int)/\v= .int .u64 (num (T.take k):Int)) (fun _ i=>T.length-(intOf i).toNat)
 case atStart=>exact⟨0,by omega,rfl,by simp[num]⟩
 case round=>
  obtain⟨k,hk,rfl,rfl⟩:=hrel;by_cases hlt':k<T.length
  ·obtain⟨ad,rfl,hb,hcell⟩:=k4.num hlt'
   have S:=Hz (ztv T k hlt' hs h8);generalize T.getD k 0=x at*;go_wp2
   go_round
   case rel=>exact⟨k+1,by omega,by go_num,by rw[S.out]⟩
   case measure=>simp[intOf];omega
  ·obtain rfl:k=T.length:=by omega
   go_wp2
   go_ret
   exact⟨rfl,k2,k3⟩
theorem zws{w:World}{g:Nat}{l:List Nat}{bad:Bool}{n:Int}(h:Cur w g l bad)(hn:bad=true\/n<0\/(l.length:Int)<n)(h1: -9223372036854775808<=n)(h2:n<=9223372036854775807):
 Calls Tryz.prog 237 #[.pointer (some ⟨g,0,none⟩),.int .i64 n] w (zde (.returned (.int .u64 0)) g [] true w):=by
 have HN:=Hz (zr7 h hn h1 h2);clear hn h1 h2 h;go_enter Tryz.func237,Tryz.ntmps237
 go_wp2_with (first
  |(go_at_call 148;refine HN.out.mono ?_;rintro e w1 ⟨rfl,k1,k2⟩))
 refine wp_loop_rounds 1 ?_;rw[rounds_succ];go_wp2
 go_ret
 exact⟨rfl,k1,k2⟩
theorem z93{w:World}{g:Nat}{l:List Nat}(h:Cur w g l false)(hn:8<=l.length):
 Calls Tryz.prog 221 #[.pointer (some ⟨g,0,none⟩)] w (zde (.returned (.int .u64 (num (l.take 8):Int))) g (l.drop 8) false w):=by
 have N:=Hz (zty 8 h hn (by omega));go_enter Tryz.func221,Tryz.ntmps221
 go_wp2_with (go_at_call 237;refine N.out.mono ?_;rintro e w1 ⟨rfl,k1,k2⟩)
 go_ret
 exact⟨rfl,k1,k2⟩
theorem z4f{w:World}{g:Nat}{l:List Nat}{bad:Bool}(h:Cur w g l bad)(hn:bad=true\/l.length<8):
 Calls Tryz.prog 221 #[.pointer (some ⟨g,0,none⟩)] w (zde (.returned (.int .u64 0)) g [] true w):=by
 have N:=Hz (zws (n:=8) h (by rcases hn with hn|hn;exact .inl hn;exact .inr (.inr (by omega))) (by omega) (by omega));clear hn;go_enter Tryz.func221,Tryz.ntmps221
 go_wp2_with (go_at_call 237;refine N.out.mono ?_;rintro e w1 ⟨rfl,k1,k2⟩)
 go_ret
 exact⟨rfl,k1,k2⟩
theorem zy0{w:World}{g x:Nat}{b:List Nat}(h:Cur w g (x::b) false):
 Calls Tryz.prog 122 #[.pointer (some ⟨g,0,none⟩)] w (zde (.returned (.int .u8 (x:Int))) g b false w):=by
 have:=z4e h (by simp);simpa[num] using this
end Go.Proofs.Y
namespace Go.Hm
open Go Go.RowKit Go.WideShapes Go.ChangeShapes Go.Deep
section
variable{H:Type}{enc:TypeId × Value->H}{P:Program}{W:World}{t e:TypeId}{cs:List Value}{n:Nat}
def zdf(P:Program)(t:TypeId):Array Field:=match P.underlying t with|some (.struct fs)=>fs|_=> #[]
theorem Held.part(h:Held enc P W t cs)(hs:P.underlying t=some (.struct (zdf P t)))(i off n:Nat){ft:TypeId}(hf:((zdf P t)[i]?.map fun f=>(f.type,f.offset))=some (ft,off))(hn:P.cellsOf ft=n):Held enc P W ft ((cs.drop off).take n):=by
 obtain⟨_,hall⟩:=h.field hs;cases hfi:(zdf P t)[i]? with
 |none=>rw[hfi] at hf;cases hf
 |some f=>
  rw[hfi] at hf;simp only[Option.map_some,Option.some.injEq,Prod.mk.injEq] at hf;obtain⟨h1,h2⟩:=hf;have:=hall i f hfi;rw[h1,h2,hn] at this;exact this
theorem Held.partLen(h:Held enc P W t cs)(hs:P.underlying t=some (.struct (zdf P t)))(hn:P.cellsOf t=n):cs.length=n:=(h.field hs).1.trans hn
theorem z40(l:List Int):recs (fun n:Int=>[.int .i64 n]) l=zeq .i64 l:=by
 induction l with
 |nil=>rfl
 |cons x l ih=>rw[zg1,ih];rfl
theorem Held.ints_{te:TypeId}(ht:P.underlying t=some (.slice te))(hC:P.cellsOf te=1)(hby:P.bytesOf te=8)(hi:P.underlying te=some (.int .i64))(h:Held enc P W t cs):
 ∃A c,∃l:List Int,cs=[.slice A l.length c]/\l.length<=c/\c*8<=140737488351232/\Reads W W.heap.size 1 A l.length (zeq .i64 l)/\ ∀x∈l,-9223372036854775808<=x/\x<=9223372036854775807:=by
 obtain⟨A,c,l,h1,h2,_,h4,h5,h6⟩:=h.recs (f:=fun n:Int=>[.int .i64 n]) (sz:=1) (by_:=8) (Q:=fun x=> -9223372036854775808<=x/\x<=9223372036854775807) 0 ht hC hby (fun _=>rfl) (by omega) (fun cs hh=>by obtain⟨n,e1,e2,e3⟩:=hh.i64 hi;exact⟨n,e1,e2,e3⟩)
 exact⟨A,c,l,h1,h2,by unfold reachBytes at h4;omega,by rw[<-z40];exact h5,h6⟩
theorem qe4{α:Type}{l:List α}(h:l.length=3):∃a b c,l=[a,b,c]:=by
 match l,h with
 | [a,b,c],_=>exact⟨a,b,c,rfl⟩
end
open Go Go.RowKit
theorem zar{w:World}{g i:Nat}{x:Value}:w.grownBy (w.setCell ⟨g,i,none⟩ x) (some g):=
 ⟨rfl,rfl,rfl,by simp[World.setCell],fun k _ hne=>Below.heap_setCell _ _ _ _ (fun e=>hne (by rw[e]))⟩
variable{P:Program}
theorem zke{ops:Array Oper}{rest:List Oper}{op:Oper}{a:Act}{w:World}{Q:Exit->Act->World->Prop}(hgd:op.guard=none)(ty:TypeId)(x y:Operand)(ho:op.op= .store ty x y)
 (g o:Nat){v0 v1 v2 v3 v4:Value}(hx:a.eval x= .pointer (some ⟨g,o,none⟩))(hy:a.eval y= .agg #[v0,v1,v2,v3,v4]){t:TypeId}{cs:Array Value}(hB:Blk w g t cs)(hsz:o+5<=cs.size)
 (hi:(P.info? ty).map (·.size)=some 5)(h1:(#[v0,v1,v2,v3,v4]:Array Value).all (·.oneCell')=true)
 (h:∀W,Blk W g t (((((cs.setIfInBounds o v0).setIfInBounds (o+1) v1).setIfInBounds (o+1+1) v2).setIfInBounds (o+1+1+1) v3).setIfInBounds (o+1+1+1+1) v4)->
  (∀B w0,Below B w0 w->B<=g->Below B w0 W)->(∀g' t' cs',g'≠g->Blk w g' t' cs'->Blk W g' t' cs')->wpList P ops Q rest (a.put op.dst undef) W):wpList P ops Q (op::rest) a w:=by
 have ht:w.there g o (#[v0,v1,v2,v3,v4]:Array Value).size:=by intro j hj;have hj:j<5:=hj;refine⟨?_,hB.frozen _⟩;rw[hB.cell,Array.getElem?_eq_getElem (by omega)];rfl
 refine wpList_store_mid hgd ty x y ho g o #[v0,v1,v2,v3,v4] hx hy ht hi h1 ?_;refine h _ (((((hB.set_ o v0).set_ (o+1) v1).set_ (o+1+1) v2).set_ (o+1+1+1) v3).set_ (o+1+1+1+1) v4) (fun B w0 hb hg=>?_) (fun g' t' cs' hne k=>?_)
 ·exact((((hb.setCell (p:=⟨g,o,none⟩) hg v0).setCell (p:=⟨g,o+1,none⟩) hg v1).setCell (p:=⟨g,o+1+1,none⟩) hg v2).setCell (p:=⟨g,o+1+1+1,none⟩) hg v3).setCell (p:=⟨g,o+1+1+1+1,none⟩) hg v4
 ·exact((((k.far (p:=⟨g,o,none⟩) hne v0).far (p:=⟨g,o+1,none⟩) hne v1).far (p:=⟨g,o+1+1,none⟩) hne v2).far (p:=⟨g,o+1+1+1,none⟩) hne v3).far (p:=⟨g,o+1+1+1+1,none⟩) hne v4
theorem zhr{ops:Array Oper}{rest:List Oper}{o:Oper}{a:Act}{w:World}{Q:Exit->Act->World->Prop}(hgd:o.guard=none)(ty:TypeId)(x y:Operand)(ho:o.op= .store ty x y)
 (g:Nat)(cells:Array Value)(hx:a.eval x= .pointer (some ⟨g,0,none⟩))(hy:a.eval y= .agg cells){t:TypeId}{old:Array Value}(hB:Blk w g t old)(hi:(P.info? ty).map (·.size)=some cells.size)
 (hold:old.size=cells.size)(h1:cells.all (·.oneCell')=true)
 (h:∀W,Blk W g t cells->(∀B w0,Below B w0 w->B<=g->Below B w0 W)->(∀g' t' cs',g'≠g->Blk w g' t' cs'->Blk W g' t' cs')->wpList P ops Q rest (a.put o.dst undef) W):wpList P ops Q (o::rest) a w:=by
 refine wpList_store_row hgd ty x y ho g cells hx hy t old hB hi hold h1 ?_;have hfar:∀k,k≠g->(w.setRow g cells).heap[k]? =w.heap[k]? :=fun k hne=>by simp[World.setRow,Array.getElem?_modify];intro e;exact absurd e.symm hne
 refine h _ ?_ (fun B w0 hb hg=>⟨hb.os,hb.tape,hb.output,by simpa[World.setRow] using hb.size,fun k hk=>?_⟩) (fun g' t' cs' hne k=>(hfar g' hne).trans k)
 ·unfold Blk at hB⊢
  simp[World.setRow,Array.getElem?_modify,hB]
 ·rw[hfar k (by omega)]
  exact hb.block k hk
theorem z44{o:Oper}{a:Act}{w:World}{K:Act->World->Prop}{Q:Exit->Act->World->Prop}(ty:TypeId)(x y:Operand)(ho:o.op= .store ty x y)
 (g:Nat)(cells:Array Value)(hx:a.eval x= .pointer (some ⟨g,0,none⟩))(hy:a.eval y= .agg cells){t:TypeId}{old:Array Value}(hB:Blk w g t old)(hi:(P.info? ty).map (·.size)=some cells.size)
 (hold:old.size=cells.size)(h1:cells.all (·.oneCell')=true)
 (h:∀W,Blk W g t cells->(∀B w0,Below B w0 w->B<=g->Below B w0 W)->(∀g' t' cs',g'≠g->Blk w g' t' cs'->Blk W g' t' cs')->K (a.put o.dst undef) W):o.wp P a w K Q:=by
 refine wp_store_row ty x y ho g cells hx hy t old hB hi hold h1 ?_;have hfar:∀k,k≠g->(w.setRow g cells).heap[k]? =w.heap[k]? :=fun k hne=>by simp[World.setRow,Array.getElem?_modify];intro e;exact absurd e.symm hne
 refine h _ ?_ (fun B w0 hb hg=>⟨hb.os,hb.tape,hb.output,by simpa[World.setRow] using hb.size,fun k hk=>?_⟩) (fun g' t' cs' hne k=>(hfar g' hne).trans k)
 ·unfold Blk at hB⊢
  simp[World.setRow,Array.getElem?_modify,hB]
 ·rw[hfar k (by omega)]
  exact hb.block k hk
theorem za6{w:World}{g:Nat}{ty:TypeId}{a0 a1 a2 a3 a4 a5 a6 a7 a8 a9 aa ab:Value}(h:Blk w g ty #[a0,a1,a2,a3,a4,a5,a6,a7,a8,a9,aa,ab]):
 w.cell? ⟨g,0,none⟩=some a0/\w.cell? ⟨g,1,none⟩=some a1/\w.cell? ⟨g,2,none⟩=some a2/\w.cell? ⟨g,3,none⟩=some a3/\w.cell? ⟨g,4,none⟩=some a4/\w.cell? ⟨g,5,none⟩=some a5
  /\w.cell? ⟨g,6,none⟩=some a6/\w.cell? ⟨g,7,none⟩=some a7/\w.cell? ⟨g,8,none⟩=some a8/\w.cell? ⟨g,9,none⟩=some a9/\w.cell? ⟨g,10,none⟩=some aa/\w.cell? ⟨g,11,none⟩=some ab:=by
 have h0:=h.cell 0;have h1:=h.cell 1;have h2:=h.cell 2;have h3:=h.cell 3;have h4:=h.cell 4;have h5:=h.cell 5;have h6:=h.cell 6;have h7:=h.cell 7;have h8:=h.cell 8;have h9:=h.cell 9;have h10:=h.cell 10;have h11:=h.cell 11;simp at h0 h1 h2 h3 h4 h5 h6 h7 h8 h9 h10 h11;exact⟨h0,h1,h2,h3,h4,h5,h6,h7,h8,h9,h10,h11⟩
theorem zah{ops:Array Oper}{rest:List Oper}{o:Oper}{a:Act}{w:World}{Q:Exit->Act->World->Prop}(hgd:o.guard=none)(ty:TypeId)(x y:Operand)(ho:o.op= .store ty x y)
 (g:Nat)(cells:Array Value)(hx:a.eval x= .pointer (some ⟨g,0,none⟩))(hy:a.eval y= .agg cells){t:TypeId}{old:Array Value}(hB:Blk w g t old)(hi:(P.info? ty).map (·.size)=some cells.size)
 (hold:old.size=cells.size)(h1:cells.all (·.oneCell')=true)
 (h:∀W,Blk W g t cells->w.grownBy W (some g)->wpList P ops Q rest (a.put o.dst undef) W):wpList P ops Q (o::rest) a w:=by
 refine wpList_store_row hgd ty x y ho g cells hx hy t old hB hi hold h1 ?_;refine h _ ?_ ⟨rfl,rfl,rfl,by simp[World.setRow],fun k _ hne=>?_⟩
 ·unfold Blk at hB⊢
  simp[World.setRow,Array.getElem?_modify,hB]
 ·simp[World.setRow,Array.getElem?_modify]
  intro e;exact absurd (by rw[e]) hne
theorem zlc{w w':World}{row:Option Nat}(h:w.grownBy w' row):Below 0 w w':=⟨h.os,h.tape,h.output,h.size,fun k hk=>by omega⟩
theorem ze7{w w3 W:World}{g:Nat}{row:Option Nat}(G:w.grownBy w3 (some g))(k:w3.grownBy W row)(hb:∀b,row=some b->w.heap.size<=b):w.grownBy W (some g):=
 ⟨k.os.trans G.os,k.tape.trans G.tape,k.output.trans G.output,Nat.le_trans G.size k.size,fun i hi hne=>(k.block i (Nat.lt_of_lt_of_le hi G.size) (fun e=>by have:=hb i e.symm;omega)).trans (G.block i hi hne)⟩
theorem zbd{w w3 W:World}{g b:Nat}(G:w.grownBy w3 (some g))(k:w3.grownBy W (some b))(hb:w.heap.size<=b):w.grownBy W (some g):=
 ⟨k.os.trans G.os,k.tape.trans G.tape,k.output.trans G.output,Nat.le_trans G.size k.size,fun i hi hne=>(k.block i (Nat.lt_of_lt_of_le hi G.size) (fun e=>by injection e with e;omega)).trans (G.block i hi hne)⟩
theorem zjg{ops:Array Oper}{rest:List Oper}{op:Oper}{a:Act}{w:World}{Q:Exit->Act->World->Prop}(hgd:op.guard=none)(ty:TypeId)(x y:Operand)(ho:op.op= .store ty x y)
 (g o:Nat){v0 v1 v2 v3 v4:Value}(hx:a.eval x= .pointer (some ⟨g,o,none⟩))(hy:a.eval y= .agg #[v0,v1,v2,v3,v4]){t:TypeId}{cs:Array Value}(hB:Blk w g t cs)(hsz:o+5<=cs.size)
 (hi:(P.info? ty).map (·.size)=some 5)(h1:(#[v0,v1,v2,v3,v4]:Array Value).all (·.oneCell')=true)
 (h:∀W,Blk W g t (((((cs.setIfInBounds o v0).setIfInBounds (o+1) v1).setIfInBounds (o+1+1) v2).setIfInBounds (o+1+1+1) v3).setIfInBounds (o+1+1+1+1) v4)->
  w.grownBy W (some g)->wpList P ops Q rest (a.put op.dst undef) W):wpList P ops Q (op::rest) a w:=by
 have ht:w.there g o (#[v0,v1,v2,v3,v4]:Array Value).size:=by intro j hj;have hj:j<5:=hj;refine⟨?_,hB.frozen _⟩;rw[hB.cell,Array.getElem?_eq_getElem (by omega)];rfl
 refine wpList_store_mid hgd ty x y ho g o #[v0,v1,v2,v3,v4] hx hy ht hi h1 ?_;exact h _ (((((hB.set_ o v0).set_ (o+1) v1).set_ (o+1+1) v2).set_ (o+1+1+1) v3).set_ (o+1+1+1+1) v4)
  (((((zar (w:=w) (g:=g) (i:=o) (x:=v0)).trans zar).trans zar).trans zar).trans zar)
open Go Go.RowKit
def z2c(a b:List Nat):Int:=Lib.compareBytes (a.map UInt8.ofNat) (b.map UInt8.ofNat)
def zzv(a b:Bool):Int:=if a&&b then 0 else if a then-1 else 1
def qhd(t:Int)(a b:zab):Int:=if a.1||b.1 then zzv a.1 b.1 else if t=0\/t=1 then zeb a.2.1 b.2.1 else if t=2 then z2c a.2.2.1 b.2.2.1 else 0
end Go.Hm
namespace Go.Proofs.Y
open Go.RowKit Go.Hm
set_option maxRecDepth 100000 in
theorem bstrCmp_any{w:World}{a b:List Nat}:Calls Tryz.prog 199 #[.string (zac a),.string (zac b)] w (zdk (.int .i64 (z2c a b)) w):=by
 go_enter Tryz.func199,Tryz.ntmps199
 go_wp2
 rw[run_callFunc_extern Tryz.func219 (by kernel_rfl) (by kernel_rfl) (by kernel_rfl) (e:=Extern.BytealgCompare.compare) (by kernel_rfl),Lib.run_compareString];simp only[Result.andThen];rw[Oper.upon_value];go_wp2
 go_ret
 exact⟨rfl,rfl⟩
set_option maxRecDepth 100000 in
theorem strCmp_any{w:World}{a b:List Nat}:Calls Tryz.prog 176 #[.string (zac a),.string (zac b)] w (zdk (.int .i64 (z2c a b)) w):=by
 go_enter Tryz.func176,Tryz.ntmps176
 go_wp2_with (go_at_call 199;refine bstrCmp_any.mono ?_;rintro e w' ⟨rfl,rfl⟩)
 go_ret
 exact⟨rfl,rfl⟩
set_option maxRecDepth 100000 in
theorem cmpNulls_any{w:World}{a b:Bool}{n m:Int}{s r:ByteArray}{x y x2 y2:Int}:
 Calls Tryz.prog 174 #[.agg #[.bool a,.int .i64 n,.string s,.int .i64 x,.int .i64 y],.agg #[.bool b,.int .i64 m,.string r,.int .i64 x2,.int .i64 y2]] w (zak (.int .i64 (zzv a b)) w):=by
 have B0:=Blk.new w 61 #[.bool a,.int .i64 n,.string s,.int .i64 x,.int .i64 y];have B1:=Blk.new (w.alloc (.cells #[.bool a,.int .i64 n,.string s,.int .i64 x,.int .i64 y] 61)) 61 #[.bool b,.int .i64 m,.string r,.int .i64 x2,.int .i64 y2];obtain⟨x0,_⟩:=zcb (B0.alloc (.cells #[.bool b,.int .i64 m,.string r,.int .i64 x2,.int .i64 y2] 61));obtain⟨y0,_⟩:=zcb B1;clear B0 B1;go_enter Tryz.func174,Tryz.ntmps174
 cases a<;> cases b;all_goals
  go_wp2
  go_ret
  exact⟨rfl,zqo w _ _⟩
set_option maxRecDepth 100000 in
theorem zxk{w:World}{t:Int}{a b:Bool}{n m:Int}{s r:List Nat}{x y x2 y2:Int}(h3: ¬(t=3/\a=false/\b=false)):
 Calls Tryz.prog 152 #[.int .i64 t,.agg #[.bool a,.int .i64 n,.string (zac s),.int .i64 x,.int .i64 y],.agg #[.bool b,.int .i64 m,.string (zac r),.int .i64 x2,.int .i64 y2]] w (zak (.int .i64 (qhd t (a,n,s,x,y) (b,m,r,x2,y2))) w):=by
 have B0:=Blk.new w 61 #[.bool a,.int .i64 n,.string (zac s),.int .i64 x,.int .i64 y];have B1:=Blk.new (w.alloc (.cells #[.bool a,.int .i64 n,.string (zac s),.int .i64 x,.int .i64 y] 61)) 61 #[.bool b,.int .i64 m,.string (zac r),.int .i64 x2,.int .i64 y2];obtain⟨x0,x1,x2',x3,x4⟩:=zcb (B0.alloc (.cells #[.bool b,.int .i64 m,.string (zac r),.int .i64 x2,.int .i64 y2] 61));obtain⟨y0,y1,y2',y3,y4⟩:=zcb B1;generalize hO:qhd t (a,n,s,x,y) (b,m,r,x2,y2)=O;have HO:=Hz hO;have H3:=Hz h3;clear B0 B1 hO h3;cases a<;> cases b
 case' false.false=>have h3: ¬t=3:=fun e=>H3.out ⟨e,rfl,rfl⟩
 all_goals
  clear H3;go_enter Tryz.func152,Tryz.ntmps152
  go_wp2_with (first
   |(go_at_call 174;refine cmpNulls_any.mono ?_;rintro e w' ⟨rfl,b1⟩)
   |(go_at_call 175;refine cmpI_any.mono ?_;rintro e w' ⟨rfl,rfl⟩)
   |(go_at_call 176;refine strCmp_any.mono ?_;rintro e w' ⟨rfl,rfl⟩))
 all_goals go_ret
 all_goals try refine⟨?_,zqo w _ _⟩
 all_goals try refine⟨?_,New.trans (zqo w _ _) (by assumption)⟩
 all_goals
  rw[<-HO.out];clear x0 x1 x2' x3 x4 y0 y1 y2' y3 y4 HO;simp_all[qhd]
end Go.Proofs.Y
namespace Go.Hm
open Go Go.RowKit
def orI:List Int->Int
 | []=>0
 |x::l=>if x=0 then orI l else x
theorem qhe{l:List Int}{k:Nat}(h:∀j,j<k->l.getD j 0=0)(hk:k<l.length)(hn:l.getD k 0≠0):orI l=l.getD k 0:=by
 induction l generalizing k with
 |nil=>simp at hk
 |cons x l ih=>
  cases k with
  |zero=>
   have:x≠0:=by simpa using hn
   simp[orI,this]
  |succ k=>
   have hx:x=0:=by simpa using h 0 (by omega)
   have:=ih (k:=k) (fun j hj=>by simpa using h (j+1) (by omega)) (by simpa using hk) (by simpa using hn);simp[orI,hx,this]
theorem qbl{l:List Int}(h:∀j,j<l.length->l.getD j 0=0):orI l=0:=by
 induction l with
 |nil=>rfl
 |cons x l ih=>
  have hx:x=0:=by simpa using h 0 (by simp)
  have:=ih (fun j hj=>by simpa using h (j+1) (by simpa using hj));simp[orI,hx,this]
def cmpP(x y u v:Int):Int:=orI [zeb (x*x+y*y) (u*u+v*v),zeb x u,zeb y v]
theorem qhf{u v:Int}(hu: -2097152<=u/\u<=2097152)(hv: -2097152<=v/\v<=2097152): -4398046511104<=u*v/\u*v<=4398046511104:=by
 have h1:(u*v).natAbs<=2097152*2097152:=by rw[Int.natAbs_mul];exact Nat.mul_le_mul (by omega) (by omega)
 omega
theorem z6a{x y:Int}(h:x≠y):zeb x y≠0:=by
 unfold zeb;split
 ·simp
 ·split
  ·simp
  ·omega
theorem zoe(x:Int):zeb x x=0:=by simp[zeb]
end Go.Hm
namespace Go.Proofs.Y
open Go.RowKit Go.Hm
set_option maxRecDepth 100000 in
theorem qhg{w:World}{A:Option Addr}{n c:Nat}{l:List Int}(h:Reads w w.heap.size 1 A n (zeq .i64 l))(hn:n<=4611686018427387903):
 Calls Tryz.prog 200 #[.slice A n c] w (zdk (.int .i64 (orI l)) w):=by
 obtain rfl:=h.lenI;have K1:=Hz (fun(k:Nat) (h:∀j,j<k->l.getD j 0=0) (hk:k<l.length) (hn:l.getD k 0≠0)=>qhe h hk hn);have K2:=Hz (fun(h:∀j,j<l.length->l.getD j 0=0)=>qbl h);generalize orI l=O at*;go_enter Tryz.func200,Tryz.ntmps200
 go_wp2
 go_loop [8] (fun i=>∃k:Nat,k<=l.length/\i= .int .i64 (k:Int)/\Hid (∀j,j<k->l.getD j 0=0)) (fun i=>l.length-(intOf i).toNat)
 case atStart=>exact⟨0,by omega,rfl,Hz (by intro j hj;omega)⟩
 case round=>
  obtain⟨k,hk,rfl,H⟩:=hrel;by_cases hlt:k<l.length
  ·obtain⟨ad,rfl,hbk,hcell⟩:=h.int hlt
   have M1:=Hz (fun(hn:l.getD k 0≠0)=>K1.out k H.out hlt hn);have M0:=Hz (fun(hz:l.getD k 0=0)=>show∀j,j<k+1->l.getD j 0=0 by
    intro j hj;rcases Nat.lt_succ_iff_lt_or_eq.1 hj with hj|rfl
    ·exact H.out j hj
    ·exact hz)
   generalize l.getD k 0=x at*;by_cases hx:x=0
   ·have M2:=Hz (M0.out hx)
    subst hx;clear M0 M1 K1 H;go_wp2
    go_round
    case rel=>exact⟨k+1,by omega,by go_num,M2⟩
    case measure=>simp[intOf];omega
   ·have M2:=Hz (M1.out hx)
    have e1:(x != 0)=true:=by simpa using hx
    clear M0 M1 K1 H hx;go_wp2
    go_ret
    exact⟨by rw[M2.out];rfl,rfl⟩
  ·obtain rfl:k=l.length:=by omega
   have M2:=Hz (K2.out H.out);clear K1 K2 H hlt;go_wp2
   go_ret
   exact⟨by rw[M2.out];rfl,rfl⟩
set_option maxRecDepth 100000 in
theorem zuo{w:World}{x y u v:Int}(hx: -2097152<=x/\x<=2097152)(hy: -2097152<=y/\y<=2097152)(hu: -2097152<=u/\u<=2097152)(hv: -2097152<=v/\v<=2097152):
 Calls Tryz.prog 177 #[.agg #[.int .i64 x,.int .i64 y],.agg #[.int .i64 u,.int .i64 v]] w (zak (.int .i64 (cmpP x y u v)) w):=by
 obtain⟨W0,hW0⟩:∃W,W=(w.alloc (.cells #[.int .i64 x,.int .i64 y] 59)).alloc (.cells #[.int .i64 u,.int .i64 v] 59):=⟨_,rfl⟩;have b0:New w W0:=by rw[hW0];exact((Below.refl _ _).alloc (Nat.le_refl _) _).alloc (by simp) _
 have B0:Blk W0 w.heap.size 59 #[.int .i64 x,.int .i64 y]:=by rw[hW0];exact(Blk.new _ _ _).alloc _
 have C0:Blk W0 (w.heap.size+1) 59 #[.int .i64 u,.int .i64 v]:=by rw[hW0];have:=Blk.new (w.alloc (.cells #[.int .i64 x,.int .i64 y] 59)) 59 #[.int .i64 u,.int .i64 v];simpa using this
 have F1:=Hz (fun(W:World) (hW:New W0 W)=>za7 (B0.below hW B0.lt));have F2:=Hz (fun(W:World) (hW:New W0 W)=>za7 (C0.below hW C0.lt));have P1:=Hz (fun(W:World)=>zzx (w:=W) hx hy);have P2:=Hz (fun(W:World)=>zzx (w:=W) hu hv);have HW:=Hz hW0;have HB:=Hz b0;have HO:=Hz (show cmpP x y u v=orI [zeb (x*x+y*y) (u*u+v*v),zeb x u,zeb y v] from rfl);generalize cmpP x y u v=O at*;generalize x*x+y*y=nx at*;generalize u*u+v*v=nu at*;clear B0 C0 hx hy hu hv hW0 b0;go_enter Tryz.func177,Tryz.ntmps177
 go_wp2_with fail
 rw[<-HW.out];refine zam New [(true,0),(true,2),(true,5),(true,6),(true,7),(true,8),(true,10),(true,11),(true,12),(true,13),(false,1),(false,3),(false,4),(false,9),(false,14),(false,15),(false,16),(true,17)]
  New.refl New.trans (by kernel_rfl) (by kernel_rfl) (by kernel_rfl) (by kernel_rfl) ?_
 have hU:=New.drew W0;repeat(first
  |(refine zaq rfl rfl (v:=?_) (fun W hW=>?_) ?_;rotate_left;(obtain⟨x0,x1⟩:=F1.out W (New.trans hU hW);obtain⟨y0,y1⟩:=F2.out W (New.trans hU hW);go_simp<;> with_reducible rfl);simp only[Act.put,List.setIfInBounds_toArray,List.set_cons_zero,List.set_cons_succ])
  |(refine za8 rfl rfl (fun K hK=>?_);go_simp
    first
     |(with_reducible refine(P1.out _).mono ?_)
     |(with_reducible refine(P2.out _).mono ?_)
    rintro e w9 ⟨rfl,c⟩;refine hK _ _ c ?_;clear hK;replace hU:=New.trans hU c)
  |(refine za8 rfl rfl (fun K hK=>?_);go_simp
    (with_reducible refine cmpI_any.mono ?_)
    rintro e w9 ⟨rfl,rfl⟩;refine hK _ _ (New.refl _) ?_;clear hK))
 have bA:New w9 (w9.alloc (.cells #[.int .i64 (zeb nx nu),.int .i64 (zeb x u),.int .i64 (zeb y v)] 3)):=(Below.refl _ _).alloc (Nat.le_refl _) _;have RL:=Hz (qhg (c:=3) (Reads.litV w9 3 #[.int .i64 (zeb nx nu),.int .i64 (zeb x u),.int .i64 (zeb y v)] 3 (zeq .i64 [zeb nx nu,zeb x u,zeb y v]) rfl rfl) (by omega));rw[<-HO.out] at RL;refine za8 rfl rfl (fun K hK=>?_);go_simp
 refine hK _ _ bA ?_;clear hK;refine za8 rfl rfl (fun K hK=>?_);go_simp
 refine RL.out.mono ?_;rintro e w8 ⟨rfl,rfl⟩;refine hK _ _ (New.refl _) ?_;clear hK;replace hU:=New.trans hU bA;refine zaq rfl rfl (v:=?_) (fun W hW=>?_) ?_;rotate_left
 ·go_simp<;> with_reducible rfl
 simp only[Act.put,List.setIfInBounds_toArray,List.set_cons_zero,List.set_cons_succ];refine zb2 ?_;go_wp2
 go_ret
 exact⟨rfl,New.trans HB.out hU⟩
set_option maxRecDepth 100000 in
theorem zup{w:World}{x y:Int}(hx: -2097152<=x/\x<=2097152)(hy: -2097152<=y/\y<=2097152):
 Calls Tryz.prog 146 #[.agg #[.int .i64 x,.int .i64 y]] w (zak (.int .i64 (x*x+y*y)) w):=by
 have b0:New w (w.alloc (.cells #[.int .i64 x,.int .i64 y] 59)):=(Below.refl _ _).alloc (Nat.le_refl _) _;obtain⟨x0,x1⟩:=za7 (Blk.new w 59 #[.int .i64 x,.int .i64 y]);have h1:=qhf hx hx;have h2:=qhf hy hy;have w1:IntKind.i64.wrap (x*x)=x*x:=by rw[IntKind.wrap_i64];omega
 have w2:IntKind.i64.wrap (y*y)=y*y:=by rw[IntKind.wrap_i64];omega
 have w3:IntKind.i64.wrap (x*x+y*y)=x*x+y*y:=by rw[IntKind.wrap_i64];omega
 clear h1 h2 hx hy;go_enter Tryz.func146,Tryz.ntmps146
 go_wp2
 go_ret
 exact⟨rfl,b0⟩
set_option maxRecDepth 100000 in
theorem rsign_any{w:World}{x y:Int}:Calls Tryz.prog 147 #[.int .i64 x,.int .i64 y] w (zdk (.int .i64 (zeb x y)) w):=by
 have K1:=Hz (fun(h:x<y)=>show zeb x y= -1 by rw[zeb,if_pos h]);have K2:=Hz (fun(h: ¬x<y) (h2:y<x)=>show zeb x y=1 by rw[zeb,if_neg h,if_pos h2]);have K3:=Hz (fun(h: ¬x<y) (h2: ¬y<x)=>show zeb x y=0 by rw[zeb,if_neg h,if_neg h2]);generalize zeb x y=O at*;by_cases h1:x<y
 ·have O1:=Hz (K1.out h1)
  clear K1 K2 K3;go_enter Tryz.func147,Tryz.ntmps147
  go_wp2
  go_ret
  exact⟨by rw[O1.out];rfl,rfl⟩
 ·by_cases h2:y<x
  ·have O1:=Hz (K2.out h1 h2)
   clear K1 K2 K3;go_enter Tryz.func147,Tryz.ntmps147
   go_wp2
   go_ret
   exact⟨by rw[O1.out];rfl,rfl⟩
  ·have O1:=Hz (K3.out h1 h2)
   clear K1 K2 K3;go_enter Tryz.func147,Tryz.ntmps147
   go_wp2
   go_ret
   exact⟨by rw[O1.out];rfl,rfl⟩
set_option maxRecDepth 100000 in
theorem zsp{w:World}{x y u v:Int}(hx: -2097152<=x/\x<=2097152)(hy: -2097152<=y/\y<=2097152)(hu: -2097152<=u/\u<=2097152)(hv: -2097152<=v/\v<=2097152):
 Calls Tryz.prog 106 #[.agg #[.int .i64 x,.int .i64 y],.agg #[.int .i64 u,.int .i64 v]] w (zak (.int .i64 (cmpP x y u v)) w):=by
 obtain⟨W0,hW0⟩:∃W,W=(w.alloc (.cells #[.int .i64 x,.int .i64 y] 59)).alloc (.cells #[.int .i64 u,.int .i64 v] 59):=⟨_,rfl⟩;have b0:New w W0:=by rw[hW0];exact((Below.refl _ _).alloc (Nat.le_refl _) _).alloc (by simp) _
 have B0:Blk W0 w.heap.size 59 #[.int .i64 x,.int .i64 y]:=by rw[hW0];exact(Blk.new _ _ _).alloc _
 have C0:Blk W0 (w.heap.size+1) 59 #[.int .i64 u,.int .i64 v]:=by rw[hW0];have:=Blk.new (w.alloc (.cells #[.int .i64 x,.int .i64 y] 59)) 59 #[.int .i64 u,.int .i64 v];simpa using this
 have F1:=Hz (fun(W:World) (hW:New W0 W)=>za7 (B0.below hW B0.lt));have F2:=Hz (fun(W:World) (hW:New W0 W)=>za7 (C0.below hW C0.lt));have P1:=Hz (fun(W:World)=>zup (w:=W) hx hy);have P2:=Hz (fun(W:World)=>zup (w:=W) hu hv);have HW:=Hz hW0;have HB:=Hz b0;have HO:=Hz (show cmpP x y u v=orI [zeb (x*x+y*y) (u*u+v*v),zeb x u,zeb y v] from rfl);generalize cmpP x y u v=O at*;generalize x*x+y*y=nx at*;generalize u*u+v*v=nu at*;clear B0 C0 hx hy hu hv hW0 b0;go_enter Tryz.func106,Tryz.ntmps106
 go_wp2_with fail
 rw[<-HW.out];refine zam New [(true,0),(true,2),(false,1),(false,3),(true,4)]
  New.refl New.trans (by kernel_rfl) (by kernel_rfl) (by kernel_rfl) (by kernel_rfl) ?_
 have hU:=New.drew W0;repeat(first
  |(refine zaq rfl rfl (v:=?_) (fun W hW=>?_) ?_;rotate_left;(obtain⟨x0,x1⟩:=F1.out W (New.trans hU hW);obtain⟨y0,y1⟩:=F2.out W (New.trans hU hW);go_simp<;> with_reducible rfl);simp only[Act.put,List.setIfInBounds_toArray,List.set_cons_zero,List.set_cons_succ])
  |(refine za8 rfl rfl (fun K hK=>?_);go_simp
    first
     |(with_reducible refine(P1.out _).mono ?_)
     |(with_reducible refine(P2.out _).mono ?_)
    rintro e w9 ⟨rfl,c⟩;refine hK _ _ c ?_;clear hK;replace hU:=New.trans hU c))
 refine zb2 ?_;by_cases hn:nx=nu
 ·have e1:(nx != nu)=false:=by simp[hn]
  have HO2:Hid (O=orI [zeb x u,zeb y v]):=Hz (by rw[HO.out,hn,zoe];rfl);clear HO hn;obtain⟨x0,x1⟩:=F1.out _ hU;obtain⟨y0,y1⟩:=F2.out _ hU;by_cases hxu:x=u
  ·have e2:(x != u)=false:=by simp[hxu]
   have HO3:Hid (O=zeb y v):=Hz (by rw[HO2.out,hxu,zoe];by_cases h:zeb y v=0<;> simp[orI,h]);clear HO2 hxu;go_wp2_with (go_at_call 147;refine rsign_any.mono ?_;rintro e w' ⟨rfl,rfl⟩)
   go_ret
   exact⟨by rw[HO3.out];rfl,New.trans HB.out hU⟩
  ·have e2:(x != u)=true:=by simp[hxu]
   have HO3:Hid (O=zeb x u):=Hz (by rw[HO2.out,orI,if_neg (z6a hxu)]);clear HO2 hxu;go_wp2_with (go_at_call 147;refine rsign_any.mono ?_;rintro e w' ⟨rfl,rfl⟩)
   go_ret
   exact⟨by rw[HO3.out];rfl,New.trans HB.out hU⟩
 ·have e1:(nx != nu)=true:=by simp[hn]
  have HO2:Hid (O=zeb nx nu):=Hz (by rw[HO.out,orI,if_neg (z6a hn)]);clear HO hn;go_wp2_with fail
  have hV:=hU;refine zam New [(true,0),(true,2),(false,1),(false,3),(false,4),(true,5)]
   New.refl New.trans (by kernel_rfl) (by kernel_rfl) (by kernel_rfl) (by kernel_rfl) ?_
  replace hU:=New.trans hU (New.drew _);repeat(first
   |(refine zaq rfl rfl (v:=?_) (fun W hW=>?_) ?_;rotate_left;(obtain⟨x0,x1⟩:=F1.out W (New.trans hU hW);obtain⟨y0,y1⟩:=F2.out W (New.trans hU hW);go_simp<;> with_reducible rfl);simp only[Act.put,List.setIfInBounds_toArray,List.set_cons_zero,List.set_cons_succ])
   |(refine za8 rfl rfl (fun K hK=>?_);go_simp
     first
      |(with_reducible refine(P1.out _).mono ?_)
      |(with_reducible refine(P2.out _).mono ?_)
     rintro e w9 ⟨rfl,c⟩;refine hK _ _ c ?_;clear hK;replace hU:=New.trans hU c)
   |(refine za8 rfl rfl (fun K hK=>?_);go_simp
     (with_reducible refine rsign_any.mono ?_)
     rintro e w9 ⟨rfl,rfl⟩;refine hK _ _ (New.refl _) ?_;clear hK))
  refine zb2 ?_;go_wp2
  go_ret
  exact⟨by rw[HO2.out];rfl,New.trans HB.out hU⟩
end Go.Proofs.Y
namespace Go.Hm
open Go Go.RowKit
theorem zof{x y:Int}:zeb x y<=0↔x<=y:=by
 unfold zeb;split
 ·omega
 ·split<;> omega
theorem cmpI_zero{x y:Int}:zeb x y=0↔x=y:=by
 unfold zeb;split
 ·omega
 ·split<;> omega
theorem zm2(x y:Int):zeb y x= -zeb x y:=by
 unfold zeb;by_cases h1:x<y
 ·rw[if_pos h1,if_neg (by omega),if_pos h1];rfl
 ·by_cases h2:y<x
  ·rw[if_pos h2,if_neg h1,if_pos h2]
  ·rw[if_neg h2,if_neg h1,if_neg h1,if_neg h2];rfl
theorem qid(a b c:Int):orI [a,b,c]=if a=0 then(if b=0 then c else b) else a:=by simp only[orI];by_cases h1:a=0<;> by_cases h2:b=0<;> by_cases h3:c=0<;> simp[h1,h2,h3]
theorem qbn(x y u v:Int):cmpP u v x y= -cmpP x y u v:=by
 unfold cmpP;rw[zm2 (x*x+y*y),zm2 x,zm2 y,qid,qid];by_cases h1:zeb (x*x+y*y) (u*u+v*v)=0
 ·rw[if_pos (by omega),if_pos h1]
  by_cases h2:zeb x u=0
  ·rw[if_pos (by omega),if_pos h2]
  ·rw[if_neg (by omega),if_neg h2]
 ·rw[if_neg (by omega),if_neg h1]
theorem z6d{x y u v:Int}:cmpP x y u v=0↔x=u/\y=v:=by
 unfold cmpP;rw[qid];constructor
 ·intro h
  split at h
  ·split at h
   ·rename_i h1 h2
    exact⟨cmpI_zero.1 h2,cmpI_zero.1 h⟩
   ·rename_i h1 h2
    exact absurd h h2
  ·rename_i h1
   exact absurd h h1
 ·rintro⟨rfl,rfl⟩
  simp[zoe]
theorem z6e{x y u v:Int}:cmpP x y u v<=0↔x*x+y*y<u*u+v*v\/(x*x+y*y=u*u+v*v/\(x<u\/(x=u/\y<=v))):=by
 unfold cmpP;rw[qid];generalize x*x+y*y=n;generalize u*u+v*v=m;have a1:= @zof n m;have a2:= @cmpI_zero n m;have b1:= @zof x u;have b2:= @cmpI_zero x u;have c1:= @zof y v;split
 ·split
  ·omega
  ·omega
 ·omega
open Go Go.RowKit
theorem z27(a b:Value)(n:Nat):(madeCells #[a,b] (n*2)).toList=(List.replicate n [a,b]).flatten:=by
 induction n with
 |zero=>simp[madeCells]
 |succ n ih=>
  rw[List.replicate_succ',List.flatten_append,<-ih];have e:∀m,m%2=0->(madeCells #[a,b] (m+2)).toList=(madeCells #[a,b] m).toList++[a,b]:=by intro m hm;simp only[madeCells,Array.toList_map,Array.toList_range,List.range_succ,List.map_append,List.map_cons,List.map_nil,List.append_assoc,List.cons_append,List.nil_append,List.size_toArray,List.length_cons,List.length_nil];rw[hm,show(m+1)%2=1 by omega];rfl
  rw[Nat.succ_mul,e (n*2) (by omega)];simp
theorem zrs(n:Nat):(List.replicate n [Value.int .i64 0,.int .i64 0]).flatten=zc0 (List.replicate n (0,0)):=by
 induction n with
 |zero=>rfl
 |succ n ih=>
  rw[List.replicate_succ,List.flatten_cons,ih,List.replicate_succ];rfl
theorem zvu(l m:List (Int × Int)):zc0 (l++m)=zc0 l++zc0 m:=by simp[zc0]
section
variable{P:Program}{ops:Array Oper}{rest:List Oper}{o:Oper}{a:Act}{Q:Exit->Act->World->Prop}
theorem zpc{w:World}{t e:TypeId}{x y:Value}{bytes:Nat}(E:ElT P t e (.agg #[x,y]) 2 bytes)(hgd:o.guard=none)(lo co:Operand)(ho:o.op=Op.makeSlice t lo co)
 {W:World}{B:Nat}{kl kc:IntKind}{L C:Int}(n:Nat)(hl:a.eval lo= .int kl L)(hc:a.eval co= .int kc C)(hL:L=(n:Int))(hC:C=(n:Int))(hb:Below B W w)(hbase:B<=w.heap.size)
 (hn:n*bytes<=140737488355328)(hm:n<=maxLen)
 (h:∀w',w'.ownsRow w.heap.size e 2 (.slice (some ⟨w.heap.size,0,none⟩) n n) n (List.replicate n [x,y]).flatten->w.grownBy w' none->Below B W w'->w'.heap.size=w.heap.size+1->wpList P ops Q rest (a.put o.dst (.slice (some ⟨w.heap.size,0,none⟩) n n)) w'):
 wpList P ops Q (o::rest) a w:=by
 obtain⟨i,hi,hz0,hs1,hb1⟩:=info_parts E.hi;subst hL hC;have hmC:(n:Int)<=9223372036854775807:=by have h:=hm;simp only[maxLen] at h;omega
 have hbC:(i.bytes:Int)*(n:Int)<=281474976710656:=by
  have h:((i.bytes*n:Nat):Int)<=281474976710656:=by rw[hb1,Nat.mul_comm];omega
  rwa[Int.natCast_mul] at h
 have hrun:=run_make (P:=P) w t e i (.agg #[x,y]) E.ht hi hz0 kl kc (n:Int) (n:Int) (by omega) (by omega) hbC hmC;rw[Int.toNat_natCast,hs1] at hrun;refine wpList_plain hgd fun K hK=>?_
 unfold Oper.wp;simp[execOp,ho,hl,hc,hrun,Result.andThen];refine hK _ _ (h _ ?_ (World.grownBy_alloc _ _ _) (hb.alloc hbase _) (by simp));refine⟨by simp,.inr ⟨_,n,_,rfl,Nat.le_refl _,heap_alloc_new w _,Nat.le_refl _,hm,by simp[size_madeCells],?_⟩⟩;rw[List.take_of_length_le (by simp[size_madeCells])];exact z27 x y n
theorem zmh{w:World}(hgd:o.guard=none)(ty:TypeId)(x y:Operand)(ho:o.op= .store ty x y)
 {base:Nat}{e:TypeId}{g n m:Nat}{A B:List (Int × Int)}{old new:Int × Int}(hown:w.ownsRow base e 2 (.slice (some ⟨g,0,none⟩) n n) n (zc0 (A++old::B)))(hm:A.length=m)(hmn:m<n)
 (hx:a.eval x= .pointer (some ⟨g,m*2,none⟩))(hy:a.eval y= .agg #[.int .i64 new.1,.int .i64 new.2])(hi:(P.info? ty).map (·.size)=some 2)
 (h:∀W,W.ownsRow base e 2 (.slice (some ⟨g,0,none⟩) n n) n (zc0 (A++new::B))->w.grownBy W (some g)->wpList P ops Q rest (a.put o.dst undef) W):wpList P ops Q (o::rest) a w:=by
 obtain⟨cs,hB⟩:=zie hown;obtain⟨ad,ea,-,c0,c1⟩:=(Reads.of_own hown).pair2 (i:=m) hmn;injection ea with ea;subst ea;have ead:(⟨g,0,none⟩:Addr).add (m*2)=⟨g,m*2,none⟩:=by unfold Addr.add;split<;> simp_all
 rw[ead] at c0 c1;dsimp only at c0 c1;have ht:w.there g (m*2) (#[Value.int .i64 new.1,.int .i64 new.2]:Array Value).size:=by
  intro j hj;have hj:j<2:=hj;refine⟨?_,hB.frozen _⟩;have:j=0\/j=1:=by omega
  rcases this with rfl|rfl
  ·rw[Nat.add_zero,c0];rfl
  ·rw[c1];rfl
 refine wpList_store_mid hgd ty x y ho g (m*2) #[.int .i64 new.1,.int .i64 new.2] hx hy ht hi (by simp[Value.oneCell']) ?_;obtain⟨o1,g1⟩:=World.ownsRow.stored hown (m*2) (.int .i64 new.1);obtain⟨o2,g2⟩:=World.ownsRow.stored o1 (m*2+1) (.int .i64 new.2);have hl:(zc0 A).length=m*2:=by rw[zge,hm]
 have e2:((zc0 (A++old::B)).set (m*2) (.int .i64 new.1)).set (m*2+1) (.int .i64 new.2)=zc0 (A++new::B):=by rw[zvu,zvu,List.set_append_right _ _ (by omega),List.set_append_right _ _ (by omega),hl,Nat.sub_self,show m*2+1-m*2=1 by omega];rfl
 rw[e2] at o2;exact h _ o2 (g1.trans g2)
end
end Go.Hm
