/- Merged. -/
import Derived.Test.YtbahbnbpmfgimaaGreatDoorBun6
import Derived.Test.YtbahbnbpmfgimaaGreatDoorBun7
import Derived.Test.YtbahbnbpmfgimaaGreatDoorBun8
set_option maxHeartbeats 2000000
namespace Go.Proofs.Y
open Go.RowKit Go.Hm
def zck(l:List Nat)(w:World)(e:Ending)(w':World):Prop:=
 ∃A n c,e= .returned (.slice A n c)/\Own w' w.heap.size 5 (.slice A n c) (zao .u8 l)/\Below w.heap.size w w'
end Go.Proofs.Y
namespace Go.Hm
open Go Go.RowKit Go.WideShapes Go.ChangeShapes Go.Deep
section
variable{H:Type}{enc:TypeId × Value->H}{P:Program}{W:World}{t e:TypeId}{cs:List Value}{n:Nat}
def zfn(P:Program)(t:TypeId):Array Field:=match P.underlying t with|some (.struct fs)=>fs|_=> #[]
theorem Held.part(h:Held enc P W t cs)(hs:P.underlying t=some (.struct (zfn P t)))(i off n:Nat){ft:TypeId}(hf:((zfn P t)[i]?.map fun f=>(f.type,f.offset))=some (ft,off))(hn:P.cellsOf ft=n):Held enc P W ft ((cs.drop off).take n):=by
 obtain⟨_,hall⟩:=h.field hs;cases hfi:(zfn P t)[i]? with
 |none=>rw[hfi] at hf;cases hf
 |some f=>
  rw[hfi] at hf;simp only[Option.map_some,Option.some.injEq,Prod.mk.injEq] at hf;obtain⟨h1,h2⟩:=hf;have:=hall i f hfi;rw[h1,h2,hn] at this;exact this
end
end Go.Hm
namespace Go.Proofs.Y
open Go.RowKit Go.Hm
set_option maxRecDepth 100000 in
theorem qfw{w:World}{A:Option Addr}{n c:Nat}{l:List Nat}(x:Nat)(h:Reads w w.heap.size 1 A n (zao .u8 l))(hl:n<=140737488355200):
 Calls Tryz.prog 91 #[.slice A n c,.int .u32 (x:Int),.int .i64 4] w (zck (l++low x 4) w):=by
 obtain rfl:=h.len;go_enter Tryz.func91,Tryz.ntmps91
 go_wp2_with (first
  |(refine zb6 elB rfl (.tmp 10) (.tmp 14) rfl (W:=w) (B:=w.heap.size) l.length (l.length+4) rfl rfl rfl (by simp) (by omega) (Below.refl _ _) (Nat.le_refl _) rfl (by omega) (by simp only[maxLen];omega) ?_
    intro w1 hown1 hg1 hb1 hs1)
  |(refine zn3 elB rfl (.tmp 16) (.tmp 17) rfl (W:=w) (B:=w.heap.size) hown1 (h.grown_far hg1 (by simp)) rfl rfl l.length (Nat.min_self _) hb1 (Nat.le_refl _) (zch _ _) ?_
    intro w2 hown2 hg2 hb2 hs2))
 rw[List.take_of_length_le (by rw[zaa];omega),List.drop_of_length_le (by simp),List.append_nil] at hown2;have hs0:=hb2.size;clear hown1 hg1 hb1 hs1 hg2 hs2;go_loopw [7,20] (fun v i wr=>∃(k:Nat) (A:Option Addr) (c:Nat),k<=4/\i= .int .i64 (k:Int)/\v= .slice A (l.length+k) c/\Own wr w.heap.size 5 (.slice A (l.length+k) c) (zao .u8 (l++low x k))/\Below w.heap.size w wr) (fun _ i _=>4-(intOf i).toNat)
 case atStart=>exact⟨0,_,_,by omega,rfl,rfl,by simpa[low] using hown2,hb2⟩
 case round=>
  obtain⟨k,A',c',hk,rfl,rfl,hown,hb⟩:=hrel;have hz:=hb.size;by_cases hlt:k<4
  ·have S:=Hz (zw0 x k)
   have hlen:(l++low x k).length=l.length+k:=by rw[List.length_append,za6]
   have HL:=Hz hlen;clear hlen;go_wp2_with (first
    |(refine zci elB rfl (.tmp 23) (.tmp 29) rfl (W:=w) (B:=w.heap.size) hown rfl rfl (x/256^k%256) (by rw[S.out]) hb (Nat.le_refl _) (by omega) (by omega) (by simp only[maxLen];omega) ?_
      intro A3 c3 w3 _ _ hown3 hg3 hb3 _ _))
   go_roundw
   case rel=>exact⟨k+1,A3,c3,by omega,by go_num,rfl,by rw[List.append_assoc] at hown3;exact hown3,hb3⟩
   case measure=>simp[intOf];omega
  ·obtain rfl:k=4:=by omega
   go_wp2
   go_ret
   exact⟨A',_,c',rfl,hown,hb⟩
set_option maxRecDepth 100000 in
theorem qfx{w:World}{A:Option Addr}{n c:Nat}{l:List Nat}(x:Nat)(h:Reads w w.heap.size 1 A n (zao .u8 l))(hl:n<=140737488355200):
 Calls Tryz.prog 53 #[.slice A n c,.int .u32 (x:Int)] w (zck (l++low x 4) w):=by
 obtain rfl:=h.len;go_enter Tryz.func53,Tryz.ntmps53
 go_wp2_with (go_at_call 91;refine(qfw x h hl).mono ?_;rintro e w1 ⟨A',n',c',rfl,k1,k2⟩)
 go_ret
 exact⟨A',n',c',rfl,k1,k2⟩
set_option maxRecDepth 100000 in
theorem qfy{w:World}{A:Option Addr}{n c:Nat}{l:List Nat}(x:Nat)(h:Reads w w.heap.size 1 A n (zao .u8 l))(hl:n<=140737488355200):
 Calls Tryz.prog 102 #[.slice A n c,.int .u64 (x:Int),.int .i64 8] w (zck (l++low x 8) w):=by
 obtain rfl:=h.len;go_enter Tryz.func102,Tryz.ntmps102
 go_wp2_with (first
  |(refine zb6 elB rfl (.tmp 10) (.tmp 14) rfl (W:=w) (B:=w.heap.size) l.length (l.length+8) rfl rfl rfl (by simp) (by omega) (Below.refl _ _) (Nat.le_refl _) rfl (by omega) (by simp only[maxLen];omega) ?_
    intro w1 hown1 hg1 hb1 hs1)
  |(refine zn3 elB rfl (.tmp 16) (.tmp 17) rfl (W:=w) (B:=w.heap.size) hown1 (h.grown_far hg1 (by simp)) rfl rfl l.length (Nat.min_self _) hb1 (Nat.le_refl _) (zch _ _) ?_
    intro w2 hown2 hg2 hb2 hs2))
 rw[List.take_of_length_le (by rw[zaa];omega),List.drop_of_length_le (by simp),List.append_nil] at hown2;have hs0:=hb2.size;clear hown1 hg1 hb1 hs1 hg2 hs2;go_loopw [7,20] (fun v i wr=>∃(k:Nat) (A:Option Addr) (c:Nat),k<=8/\i= .int .i64 (k:Int)/\v= .slice A (l.length+k) c/\Own wr w.heap.size 5 (.slice A (l.length+k) c) (zao .u8 (l++low x k))/\Below w.heap.size w wr) (fun _ i _=>8-(intOf i).toNat)
 case atStart=>exact⟨0,_,_,by omega,rfl,rfl,by simpa[low] using hown2,hb2⟩
 case round=>
  obtain⟨k,A',c',hk,rfl,rfl,hown,hb⟩:=hrel;have hz:=hb.size;by_cases hlt:k<8
  ·have S:=Hz (zw0 x k)
   have hlen:(l++low x k).length=l.length+k:=by rw[List.length_append,za6]
   have HL:=Hz hlen;clear hlen;go_wp2_with (first
    |(refine zci elB rfl (.tmp 23) (.tmp 29) rfl (W:=w) (B:=w.heap.size) hown rfl rfl (x/256^k%256) (by rw[S.out]) hb (Nat.le_refl _) (by omega) (by omega) (by simp only[maxLen];omega) ?_
      intro A3 c3 w3 _ _ hown3 hg3 hb3 _ _))
   go_roundw
   case rel=>exact⟨k+1,A3,c3,by omega,by go_num,rfl,by rw[List.append_assoc] at hown3;exact hown3,hb3⟩
   case measure=>simp[intOf];omega
  ·obtain rfl:k=8:=by omega
   go_wp2
   go_ret
   exact⟨A',_,c',rfl,hown,hb⟩
set_option maxRecDepth 100000 in
theorem z5x{w:World}{A:Option Addr}{n c:Nat}{l:List Nat}(x:Nat)(h:Reads w w.heap.size 1 A n (zao .u8 l))(hl:n<=140737488355200):
 Calls Tryz.prog 70 #[.slice A n c,.int .u64 (x:Int)] w (zck (l++low x 8) w):=by
 obtain rfl:=h.len;go_enter Tryz.func70,Tryz.ntmps70
 go_wp2_with (go_at_call 102;refine(qfy x h hl).mono ?_;rintro e w1 ⟨A',n',c',rfl,k1,k2⟩)
 go_ret
 exact⟨A',n',c',rfl,k1,k2⟩
open Go.RowKit Go.Hm
theorem zxg{w:World}{g:Nat}{l:List Nat}(n:Nat)(h:Cur w g l false)(hn:n<=l.length)(hs:n<=1):
 Calls Tryz.prog 150 #[.pointer (some ⟨g,0,none⟩),.int .i64 (n:Int)] w (zda (.returned (.int .u8 (num (l.take n):Int))) g (l.drop n) false w):=by
 have hlt:(l.take n).length=n:=by rw[List.length_take];omega
 have N:=Hz (zkp h hn);have h8:∀x∈l.take n,x<256:=by obtain⟨A,c,_,_,_,_,h5,_⟩:=h;exact fun x hx=>h5 x (List.mem_of_mem_take hx)
 unfold zko at N;generalize l.take n=T at*;generalize hD:l.drop n=D at*;clear hD h hn;go_enter Tryz.func150,Tryz.ntmps150
 go_wp2_with (first
  |(go_at_call 135;refine N.out.mono ?_;rintro e w1 ⟨A',c',rfl,k1,k2,k3⟩
    have k4:=k1.1))
 clear N;subst hlt;go_loop [5,12] (fun v i=>∃k:Nat,k<=T.length/\i= .int .i64 (k:Int)/\v= .int .u8 (num (T.take k):Int)) (fun _ i=>T.length-(intOf i).toNat)
 case atStart=>exact⟨0,by omega,rfl,by simp[num]⟩
 case round=>
  obtain⟨k,hk,rfl,rfl⟩:=hrel;by_cases hlt':k<T.length
  ·obtain⟨ad,rfl,hb,hcell⟩:=k4.num hlt'
   have S:=Hz (zwz T k hlt' hs h8);generalize T.getD k 0=x at*;go_wp2
   go_round
   case rel=>exact⟨k+1,by omega,by go_num,by rw[S.out]⟩
   case measure=>simp[intOf];omega
  ·obtain rfl:k=T.length:=by omega
   go_wp2
   go_ret
   exact⟨rfl,k2,k3⟩
theorem z17{w:World}{g:Nat}{l:List Nat}{bad:Bool}{n:Int}(h:Cur w g l bad)(hn:bad=true\/n<0\/(l.length:Int)<n)(h1: -9223372036854775808<=n)(h2:n<=9223372036854775807):
 Calls Tryz.prog 150 #[.pointer (some ⟨g,0,none⟩),.int .i64 n] w (zda (.returned (.int .u8 0)) g [] true w):=by
 have HN:=Hz (zsm h hn h1 h2);clear hn h1 h2 h;go_enter Tryz.func150,Tryz.ntmps150
 go_wp2_with (first
  |(go_at_call 135;refine HN.out.mono ?_;rintro e w1 ⟨rfl,k1,k2⟩))
 refine wp_loop_rounds 1 ?_;rw[rounds_succ];go_wp2
 go_ret
 exact⟨rfl,k1,k2⟩
theorem z56{w:World}{g:Nat}{l:List Nat}(h:Cur w g l false)(hn:1<=l.length):
 Calls Tryz.prog 137 #[.pointer (some ⟨g,0,none⟩)] w (zda (.returned (.int .u8 (num (l.take 1):Int))) g (l.drop 1) false w):=by
 have N:=Hz (zxg 1 h hn (by omega));go_enter Tryz.func137,Tryz.ntmps137
 go_wp2_with (go_at_call 150;refine N.out.mono ?_;rintro e w1 ⟨rfl,k1,k2⟩)
 go_ret
 exact⟨rfl,k1,k2⟩
theorem zni{w:World}{g:Nat}{l:List Nat}{bad:Bool}(h:Cur w g l bad)(hn:bad=true\/l.length<1):
 Calls Tryz.prog 137 #[.pointer (some ⟨g,0,none⟩)] w (zda (.returned (.int .u8 0)) g [] true w):=by
 have N:=Hz (z17 (n:=1) h (by rcases hn with hn|hn;exact .inl hn;exact .inr (.inr (by omega))) (by omega) (by omega));clear hn;go_enter Tryz.func137,Tryz.ntmps137
 go_wp2_with (go_at_call 150;refine N.out.mono ?_;rintro e w1 ⟨rfl,k1,k2⟩)
 go_ret
 exact⟨rfl,k1,k2⟩
theorem zum{w:World}{g:Nat}{l:List Nat}(n:Nat)(h:Cur w g l false)(hn:n<=l.length)(hs:n<=4):
 Calls Tryz.prog 114 #[.pointer (some ⟨g,0,none⟩),.int .i64 (n:Int)] w (zda (.returned (.int .u32 (num (l.take n):Int))) g (l.drop n) false w):=by
 have hlt:(l.take n).length=n:=by rw[List.length_take];omega
 have N:=Hz (zkp h hn);have h8:∀x∈l.take n,x<256:=by obtain⟨A,c,_,_,_,_,h5,_⟩:=h;exact fun x hx=>h5 x (List.mem_of_mem_take hx)
 unfold zko at N;generalize l.take n=T at*;generalize hD:l.drop n=D at*;clear hD h hn;go_enter Tryz.func114,Tryz.ntmps114
 go_wp2_with (first
  |(go_at_call 135;refine N.out.mono ?_;rintro e w1 ⟨A',c',rfl,k1,k2,k3⟩
    have k4:=k1.1))
 clear N;subst hlt;go_loop [5,12] (fun v i=>∃k:Nat,k<=T.length/\i= .int .i64 (k:Int)/\v= .int .u32 (num (T.take k):Int)) (fun _ i=>T.length-(intOf i).toNat)
 case atStart=>exact⟨0,by omega,rfl,by simp[num]⟩
 case round=>
  obtain⟨k,hk,rfl,rfl⟩:=hrel;by_cases hlt':k<T.length
  ·obtain⟨ad,rfl,hb,hcell⟩:=k4.num hlt'
   have S:=Hz (zt4 T k hlt' hs h8);generalize T.getD k 0=x at*;go_wp2
   go_round
   case rel=>exact⟨k+1,by omega,by go_num,by rw[S.out]⟩
   case measure=>simp[intOf];omega
  ·obtain rfl:k=T.length:=by omega
   go_wp2
   go_ret
   exact⟨rfl,k2,k3⟩
theorem qbh{w:World}{g:Nat}{l:List Nat}(h:Cur w g l false)(hn:4<=l.length):
 Calls Tryz.prog 95 #[.pointer (some ⟨g,0,none⟩)] w (zda (.returned (.int .u32 (num (l.take 4):Int))) g (l.drop 4) false w):=by
 have N:=Hz (zum 4 h hn (by omega));go_enter Tryz.func95,Tryz.ntmps95
 go_wp2_with (go_at_call 114;refine N.out.mono ?_;rintro e w1 ⟨rfl,k1,k2⟩)
 go_ret
 exact⟨rfl,k1,k2⟩
theorem zun{w:World}{g:Nat}{l:List Nat}(n:Nat)(h:Cur w g l false)(hn:n<=l.length)(hs:n<=8):
 Calls Tryz.prog 205 #[.pointer (some ⟨g,0,none⟩),.int .i64 (n:Int)] w (zda (.returned (.int .u64 (num (l.take n):Int))) g (l.drop n) false w):=by
 have hlt:(l.take n).length=n:=by rw[List.length_take];omega
 have N:=Hz (zkp h hn);have h8:∀x∈l.take n,x<256:=by obtain⟨A,c,_,_,_,_,h5,_⟩:=h;exact fun x hx=>h5 x (List.mem_of_mem_take hx)
 unfold zko at N;generalize l.take n=T at*;generalize hD:l.drop n=D at*;clear hD h hn;go_enter Tryz.func205,Tryz.ntmps205
 go_wp2_with (first
  |(go_at_call 135;refine N.out.mono ?_;rintro e w1 ⟨A',c',rfl,k1,k2,k3⟩
    have k4:=k1.1))
 clear N;subst hlt;go_loop [5,12] (fun v i=>∃k:Nat,k<=T.length/\i= .int .i64 (k:Int)/\v= .int .u64 (num (T.take k):Int)) (fun _ i=>T.length-(intOf i).toNat)
 case atStart=>exact⟨0,by omega,rfl,by simp[num]⟩
 case round=>
  obtain⟨k,hk,rfl,rfl⟩:=hrel;by_cases hlt':k<T.length
  ·obtain⟨ad,rfl,hb,hcell⟩:=k4.num hlt'
   have S:=Hz (zt5 T k hlt' hs h8);generalize T.getD k 0=x at*;go_wp2
   go_round
   case rel=>exact⟨k+1,by omega,by go_num,by rw[S.out]⟩
   case measure=>simp[intOf];omega
  ·obtain rfl:k=T.length:=by omega
   go_wp2
   go_ret
   exact⟨rfl,k2,k3⟩
theorem zxh{w:World}{g:Nat}{l:List Nat}{bad:Bool}{n:Int}(h:Cur w g l bad)(hn:bad=true\/n<0\/(l.length:Int)<n)(h1: -9223372036854775808<=n)(h2:n<=9223372036854775807):
 Calls Tryz.prog 205 #[.pointer (some ⟨g,0,none⟩),.int .i64 n] w (zda (.returned (.int .u64 0)) g [] true w):=by
 have HN:=Hz (zsm h hn h1 h2);clear hn h1 h2 h;go_enter Tryz.func205,Tryz.ntmps205
 go_wp2_with (first
  |(go_at_call 135;refine HN.out.mono ?_;rintro e w1 ⟨rfl,k1,k2⟩))
 refine wp_loop_rounds 1 ?_;rw[rounds_succ];go_wp2
 go_ret
 exact⟨rfl,k1,k2⟩
theorem qbi{w:World}{g:Nat}{l:List Nat}(h:Cur w g l false)(hn:8<=l.length):
 Calls Tryz.prog 189 #[.pointer (some ⟨g,0,none⟩)] w (zda (.returned (.int .u64 (num (l.take 8):Int))) g (l.drop 8) false w):=by
 have N:=Hz (zun 8 h hn (by omega));go_enter Tryz.func189,Tryz.ntmps189
 go_wp2_with (go_at_call 205;refine N.out.mono ?_;rintro e w1 ⟨rfl,k1,k2⟩)
 go_ret
 exact⟨rfl,k1,k2⟩
theorem z57{w:World}{g:Nat}{l:List Nat}{bad:Bool}(h:Cur w g l bad)(hn:bad=true\/l.length<8):
 Calls Tryz.prog 189 #[.pointer (some ⟨g,0,none⟩)] w (zda (.returned (.int .u64 0)) g [] true w):=by
 have N:=Hz (zxh (n:=8) h (by rcases hn with hn|hn;exact .inl hn;exact .inr (.inr (by omega))) (by omega) (by omega));clear hn;go_enter Tryz.func189,Tryz.ntmps189
 go_wp2_with (go_at_call 205;refine N.out.mono ?_;rintro e w1 ⟨rfl,k1,k2⟩)
 go_ret
 exact⟨rfl,k1,k2⟩
theorem zzr{w:World}{g x:Nat}{b:List Nat}(h:Cur w g (x::b) false):
 Calls Tryz.prog 137 #[.pointer (some ⟨g,0,none⟩)] w (zda (.returned (.int .u8 (x:Int))) g b false w):=by
 have:=z56 h (by simp);simpa[num] using this
end Go.Proofs.Y
namespace Go.Hm
open Go Go.RowKit
theorem zax{w:World}{g i:Nat}{x:Value}:w.grownBy (w.setCell ⟨g,i,none⟩ x) (some g):=
 ⟨rfl,rfl,rfl,by simp[World.setCell],fun k _ hne=>Below.heap_setCell _ _ _ _ (fun e=>hne (by rw[e]))⟩
variable{P:Program}
theorem zk0{ops:Array Oper}{rest:List Oper}{op:Oper}{a:Act}{w:World}{Q:Exit->Act->World->Prop}(hgd:op.guard=none)(ty:TypeId)(x y:Operand)(ho:op.op= .store ty x y)
 (g o:Nat){v0 v1 v2 v3 v4:Value}(hx:a.eval x= .pointer (some ⟨g,o,none⟩))(hy:a.eval y= .agg #[v0,v1,v2,v3,v4]){t:TypeId}{cs:Array Value}(hB:Blk w g t cs)(hsz:o+5<=cs.size)
 (hi:(P.info? ty).map (·.size)=some 5)(h1:(#[v0,v1,v2,v3,v4]:Array Value).all (·.oneCell')=true)
 (h:∀W,Blk W g t (((((cs.setIfInBounds o v0).setIfInBounds (o+1) v1).setIfInBounds (o+1+1) v2).setIfInBounds (o+1+1+1) v3).setIfInBounds (o+1+1+1+1) v4)->
  (∀B w0,Below B w0 w->B<=g->Below B w0 W)->(∀g' t' cs',g'≠g->Blk w g' t' cs'->Blk W g' t' cs')->wpList P ops Q rest (a.put op.dst undef) W):wpList P ops Q (op::rest) a w:=by
 have ht:w.there g o (#[v0,v1,v2,v3,v4]:Array Value).size:=by intro j hj;have hj:j<5:=hj;refine⟨?_,hB.frozen _⟩;rw[hB.cell,Array.getElem?_eq_getElem (by omega)];rfl
 refine wpList_store_mid hgd ty x y ho g o #[v0,v1,v2,v3,v4] hx hy ht hi h1 ?_;refine h _ (((((hB.set_ o v0).set_ (o+1) v1).set_ (o+1+1) v2).set_ (o+1+1+1) v3).set_ (o+1+1+1+1) v4) (fun B w0 hb hg=>?_) (fun g' t' cs' hne k=>?_)
 ·exact((((hb.setCell (p:=⟨g,o,none⟩) hg v0).setCell (p:=⟨g,o+1,none⟩) hg v1).setCell (p:=⟨g,o+1+1,none⟩) hg v2).setCell (p:=⟨g,o+1+1+1,none⟩) hg v3).setCell (p:=⟨g,o+1+1+1+1,none⟩) hg v4
 ·exact((((k.far (p:=⟨g,o,none⟩) hne v0).far (p:=⟨g,o+1,none⟩) hne v1).far (p:=⟨g,o+1+1,none⟩) hne v2).far (p:=⟨g,o+1+1+1,none⟩) hne v3).far (p:=⟨g,o+1+1+1+1,none⟩) hne v4
theorem zhv{ops:Array Oper}{rest:List Oper}{o:Oper}{a:Act}{w:World}{Q:Exit->Act->World->Prop}(hgd:o.guard=none)(ty:TypeId)(x y:Operand)(ho:o.op= .store ty x y)
 (g:Nat)(cells:Array Value)(hx:a.eval x= .pointer (some ⟨g,0,none⟩))(hy:a.eval y= .agg cells){t:TypeId}{old:Array Value}(hB:Blk w g t old)(hi:(P.info? ty).map (·.size)=some cells.size)
 (hold:old.size=cells.size)(h1:cells.all (·.oneCell')=true)
 (h:∀W,Blk W g t cells->(∀B w0,Below B w0 w->B<=g->Below B w0 W)->(∀g' t' cs',g'≠g->Blk w g' t' cs'->Blk W g' t' cs')->wpList P ops Q rest (a.put o.dst undef) W):wpList P ops Q (o::rest) a w:=by
 refine wpList_store_row hgd ty x y ho g cells hx hy t old hB hi hold h1 ?_;have hfar:∀k,k≠g->(w.setRow g cells).heap[k]? =w.heap[k]? :=fun k hne=>by simp[World.setRow,Array.getElem?_modify];intro e;exact absurd e.symm hne
 refine h _ ?_ (fun B w0 hb hg=>⟨hb.os,hb.tape,hb.output,by simpa[World.setRow] using hb.size,fun k hk=>?_⟩) (fun g' t' cs' hne k=>(hfar g' hne).trans k)
 ·unfold Blk at hB⊢
  simp[World.setRow,Array.getElem?_modify,hB]
 ·rw[hfar k (by omega)]
  exact hb.block k hk
theorem z6m{o:Oper}{a:Act}{w:World}{K:Act->World->Prop}{Q:Exit->Act->World->Prop}(ty:TypeId)(x y:Operand)(ho:o.op= .store ty x y)
 (g:Nat)(cells:Array Value)(hx:a.eval x= .pointer (some ⟨g,0,none⟩))(hy:a.eval y= .agg cells){t:TypeId}{old:Array Value}(hB:Blk w g t old)(hi:(P.info? ty).map (·.size)=some cells.size)
 (hold:old.size=cells.size)(h1:cells.all (·.oneCell')=true)
 (h:∀W,Blk W g t cells->(∀B w0,Below B w0 w->B<=g->Below B w0 W)->(∀g' t' cs',g'≠g->Blk w g' t' cs'->Blk W g' t' cs')->K (a.put o.dst undef) W):o.wp P a w K Q:=by
 refine wp_store_row ty x y ho g cells hx hy t old hB hi hold h1 ?_;have hfar:∀k,k≠g->(w.setRow g cells).heap[k]? =w.heap[k]? :=fun k hne=>by simp[World.setRow,Array.getElem?_modify];intro e;exact absurd e.symm hne
 refine h _ ?_ (fun B w0 hb hg=>⟨hb.os,hb.tape,hb.output,by simpa[World.setRow] using hb.size,fun k hk=>?_⟩) (fun g' t' cs' hne k=>(hfar g' hne).trans k)
 ·unfold Blk at hB⊢
  simp[World.setRow,Array.getElem?_modify,hB]
 ·rw[hfar k (by omega)]
  exact hb.block k hk
theorem zba{w:World}{g:Nat}{ty:TypeId}{a0 a1 a2 a3 a4 a5 a6 a7 a8 a9 aa ab:Value}(h:Blk w g ty #[a0,a1,a2,a3,a4,a5,a6,a7,a8,a9,aa,ab]):
 w.cell? ⟨g,0,none⟩=some a0/\w.cell? ⟨g,1,none⟩=some a1/\w.cell? ⟨g,2,none⟩=some a2/\w.cell? ⟨g,3,none⟩=some a3/\w.cell? ⟨g,4,none⟩=some a4/\w.cell? ⟨g,5,none⟩=some a5
  /\w.cell? ⟨g,6,none⟩=some a6/\w.cell? ⟨g,7,none⟩=some a7/\w.cell? ⟨g,8,none⟩=some a8/\w.cell? ⟨g,9,none⟩=some a9/\w.cell? ⟨g,10,none⟩=some aa/\w.cell? ⟨g,11,none⟩=some ab:=by
 have h0:=h.cell 0;have h1:=h.cell 1;have h2:=h.cell 2;have h3:=h.cell 3;have h4:=h.cell 4;have h5:=h.cell 5;have h6:=h.cell 6;have h7:=h.cell 7;have h8:=h.cell 8;have h9:=h.cell 9;have h10:=h.cell 10;have h11:=h.cell 11;simp at h0 h1 h2 h3 h4 h5 h6 h7 h8 h9 h10 h11;exact⟨h0,h1,h2,h3,h4,h5,h6,h7,h8,h9,h10,h11⟩
theorem zaf{ops:Array Oper}{rest:List Oper}{o:Oper}{a:Act}{w:World}{Q:Exit->Act->World->Prop}(hgd:o.guard=none)(ty:TypeId)(x y:Operand)(ho:o.op= .store ty x y)
 (g:Nat)(cells:Array Value)(hx:a.eval x= .pointer (some ⟨g,0,none⟩))(hy:a.eval y= .agg cells){t:TypeId}{old:Array Value}(hB:Blk w g t old)(hi:(P.info? ty).map (·.size)=some cells.size)
 (hold:old.size=cells.size)(h1:cells.all (·.oneCell')=true)
 (h:∀W,Blk W g t cells->w.grownBy W (some g)->wpList P ops Q rest (a.put o.dst undef) W):wpList P ops Q (o::rest) a w:=by
 refine wpList_store_row hgd ty x y ho g cells hx hy t old hB hi hold h1 ?_;refine h _ ?_ ⟨rfl,rfl,rfl,by simp[World.setRow],fun k _ hne=>?_⟩
 ·unfold Blk at hB⊢
  simp[World.setRow,Array.getElem?_modify,hB]
 ·simp[World.setRow,Array.getElem?_modify]
  intro e;exact absurd (by rw[e]) hne
theorem zq7{w w':World}{row:Option Nat}(h:w.grownBy w' row):Below 0 w w':=⟨h.os,h.tape,h.output,h.size,fun k hk=>by omega⟩
theorem zf7{w w3 W:World}{g:Nat}{row:Option Nat}(G:w.grownBy w3 (some g))(k:w3.grownBy W row)(hb:∀b,row=some b->w.heap.size<=b):w.grownBy W (some g):=
 ⟨k.os.trans G.os,k.tape.trans G.tape,k.output.trans G.output,Nat.le_trans G.size k.size,fun i hi hne=>(k.block i (Nat.lt_of_lt_of_le hi G.size) (fun e=>by have:=hb i e.symm;omega)).trans (G.block i hi hne)⟩
theorem zbd{w w3 W:World}{g b:Nat}(G:w.grownBy w3 (some g))(k:w3.grownBy W (some b))(hb:w.heap.size<=b):w.grownBy W (some g):=
 ⟨k.os.trans G.os,k.tape.trans G.tape,k.output.trans G.output,Nat.le_trans G.size k.size,fun i hi hne=>(k.block i (Nat.lt_of_lt_of_le hi G.size) (fun e=>by injection e with e;omega)).trans (G.block i hi hne)⟩
theorem zjw{ops:Array Oper}{rest:List Oper}{op:Oper}{a:Act}{w:World}{Q:Exit->Act->World->Prop}(hgd:op.guard=none)(ty:TypeId)(x y:Operand)(ho:op.op= .store ty x y)
 (g o:Nat){v0 v1 v2 v3 v4:Value}(hx:a.eval x= .pointer (some ⟨g,o,none⟩))(hy:a.eval y= .agg #[v0,v1,v2,v3,v4]){t:TypeId}{cs:Array Value}(hB:Blk w g t cs)(hsz:o+5<=cs.size)
 (hi:(P.info? ty).map (·.size)=some 5)(h1:(#[v0,v1,v2,v3,v4]:Array Value).all (·.oneCell')=true)
 (h:∀W,Blk W g t (((((cs.setIfInBounds o v0).setIfInBounds (o+1) v1).setIfInBounds (o+1+1) v2).setIfInBounds (o+1+1+1) v3).setIfInBounds (o+1+1+1+1) v4)->
  w.grownBy W (some g)->wpList P ops Q rest (a.put op.dst undef) W):wpList P ops Q (op::rest) a w:=by
 have ht:w.there g o (#[v0,v1,v2,v3,v4]:Array Value).size:=by intro j hj;have hj:j<5:=hj;refine⟨?_,hB.frozen _⟩;rw[hB.cell,Array.getElem?_eq_getElem (by omega)];rfl
 refine wpList_store_mid hgd ty x y ho g o #[v0,v1,v2,v3,v4] hx hy ht hi h1 ?_;exact h _ (((((hB.set_ o v0).set_ (o+1) v1).set_ (o+1+1) v2).set_ (o+1+1+1) v3).set_ (o+1+1+1+1) v4)
  (((((zax (w:=w) (g:=g) (i:=o) (x:=v0)).trans zax).trans zax).trans zax).trans zax)
end Go.Hm
set_option maxRecDepth 100000
namespace Go.Hm
open Go Go.RowKit
abbrev zex:=Option Addr × Nat × List zab
def zk2(d:zex):List Value:=[.slice d.1 d.2.2.length d.2.1]
def CellFine(c:zab):Prop:=(c.2.2.1.length<=140737488351232/\ ∀z∈c.2.2.1,z<256)/\(-9223372036854775808<=c.2.1/\c.2.1<=9223372036854775807)/\(-9223372036854775808<=c.2.2.2.1/\c.2.2.2.1<=9223372036854775807)/\(-9223372036854775808<=c.2.2.2.2/\c.2.2.2.2<=9223372036854775807)
end Go.Hm
namespace Go.Proofs.Y
open Go.RowKit Go.Hm Go.WideShapes Go.ChangeShapes
section
variable{H:Type}{enc:TypeId × Value->H}{W:World}{base:Nat}{v:Value}{d:DataW H}{ps:List MemPlace}
end
end Go.Proofs.Y
namespace Go.Hm
open Go Go.RowKit
theorem zhw{W1 W2:World}{base:Nat}{e e':TypeId}{u v:Value}{xs ys:List Value}(h2:Own W2 W1.heap.size e u xs)(h1:Own W1 base e' v ys):u.ownBlock=none\/u.ownBlock≠v.ownBlock:=by
 rcases hu:u.ownBlock with _|k
 ·exact .inl rfl
 ·refine .inr fun e=>?_
  have a:=(h2.lt k hu).1;have b:=(h1.lt k e.symm).2;omega
theorem zk4{W:World}{base:Nat}{e:TypeId}{u v v':Value}{xs:List Value}(h:u.ownBlock=none\/u.ownBlock≠v.ownBlock)(d:v'.ownBlock=v.ownBlock\/ ∃g,v'.ownBlock=some g/\W.heap.size<=g)(k:Own W base e u xs):u.ownBlock=none\/u.ownBlock≠v'.ownBlock:=by
 rcases hu:u.ownBlock with _|g
 ·exact .inl rfl
 ·right
  rcases d with d|⟨g',d,hg⟩
  ·rw[d,<-hu]
   rcases h with h|h
   ·rw[hu] at h;cases h
   ·exact h
  ·rw[d]
   intro e;injection e with e;have:=(k.lt g hu).2;omega
theorem zf9{u v:Value}(h:u.ownBlock=none\/u.ownBlock≠v.ownBlock):v.ownBlock=none\/v.ownBlock≠u.ownBlock:=by
 rcases hv:v.ownBlock with _|k
 ·exact .inl rfl
 ·refine .inr fun e=>?_
  rcases h with h|h
  ·rw[h] at e;cases e
  ·exact h (by rw[hv,e])
end Go.Hm
namespace Go.Proofs.Y
open Go.RowKit Go.Hm
def qgr(x y:Int)(w:World)(e:Ending)(w':World):Prop:=∃a b,e= .returned (.complex .f64 a b)/\z2s x y a b/\New w w'
set_option maxRecDepth 100000 in
theorem zl7{w:World}{x y:Int}(hx:x.natAbs<9007199254740992)(hy:y.natAbs<9007199254740992):
 Calls Tryz.prog 204 #[.agg #[.int .i64 x,.int .i64 y]] w (qgr x y w):=by
 obtain⟨W0,hW0⟩:∃W,W=w.alloc (.cells #[.int .i64 x,.int .i64 y] 73):=⟨_,rfl⟩;have b0:New w W0:=by rw[hW0];exact(Below.refl _ _).alloc (Nat.le_refl _) _
 have B0:Blk W0 w.heap.size 73 #[.int .i64 x,.int .i64 y]:=by rw[hW0];exact Blk.new _ _ _
 obtain⟨x0,x1⟩:=zbw B0;rw[hW0] at x0 x1;have R:=Hz (show z2s x y (floatOfInt .f64 x) (floatOfInt .f64 y) from⟨zu7 x hx,zu7 y hy⟩);clear B0 hx hy;go_enter Tryz.func204,Tryz.ntmps204
 go_wp2
 go_ret
 exact⟨_,_,rfl,R.out,by rw[<-hW0];exact b0⟩
set_option maxRecDepth 100000 in
theorem z0b{w:World}{x y:Int}(hx: -2097152<=x/\x<=2097152)(hy: -2097152<=y/\y<=2097152):
 Calls Tryz.prog 187 #[.agg #[.int .i64 x,.int .i64 y]] w (zal (.int .i64 (x*x+y*y)) w):=by
 obtain⟨W0,hW0⟩:∃W,W=w.alloc (.cells #[.int .i64 x,.int .i64 y] 73):=⟨_,rfl⟩;have b0:New w W0:=by rw[hW0];exact(Below.refl _ _).alloc (Nat.le_refl _) _
 have B0:Blk W0 w.heap.size 73 #[.int .i64 x,.int .i64 y]:=by rw[hW0];exact Blk.new _ _ _
 obtain⟨x0,x1⟩:=zbw B0;rw[hW0] at x0 x1;have P:=Hz (zl7 (w:=W0) (x:=x) (y:=y) (by omega) (by omega));have KN:=Hz (fun(a b:Nat) (h:z2s x y a b)=>z7f h hx hy);have HW:=Hz hW0;have HB:=Hz b0;clear B0 hx hy hW0 b0;go_enter Tryz.func187,Tryz.ntmps187
 go_wp2_with fail
 rw[<-HW.out];refine P.out.mono ?_;rintro e w1 ⟨a,b,rfl,hr,b1⟩;obtain⟨re,im,e1,e2⟩:=KN.out a b hr;have u:=z2t .f64 b;have m:=fun w:World=>run_complex_mul (P:=Tryz.prog) w 262 a b a (Op.negFloat .f64 b) re im e1
 have f:=fun w:World=>run_convert_float_int (P:=Tryz.prog) w 264 3 .f64 .i64 re _ (by kernel_rfl) (by kernel_rfl) e2
 clear x0 x1 e1 e2 hr P KN;go_wp2
 go_ret
 exact⟨rfl,New.trans HB.out b1⟩
end Go.Proofs.Y
namespace Go.Hm
open Go Go.RowKit
def orI:List Int->Int
 | []=>0
 |x::l=>if x=0 then orI l else x
theorem qij{l:List Int}{k:Nat}(h:∀j,j<k->l.getD j 0=0)(hk:k<l.length)(hn:l.getD k 0≠0):orI l=l.getD k 0:=by
 induction l generalizing k with
 |nil=>simp at hk
 |cons x l ih=>
  cases k with
  |zero=>
   have:x≠0:=by simpa using hn
   simp[orI,this]
  |succ k=>
   have hx:x=0:=by simpa using h 0 (by omega)
   have:=ih (k:=k) (fun j hj=>by simpa using h (j+1) (by omega)) (by simpa using hk) (by simpa using hn);simp[orI,hx,this]
theorem qcm{l:List Int}(h:∀j,j<l.length->l.getD j 0=0):orI l=0:=by
 induction l with
 |nil=>rfl
 |cons x l ih=>
  have hx:x=0:=by simpa using h 0 (by simp)
  have:=ih (fun j hj=>by simpa using h (j+1) (by simpa using hj));simp[orI,hx,this]
def cmpP(x y u v:Int):Int:=orI [zia (x*x+y*y) (u*u+v*v),zia x u,zia y v]
theorem z7g(x:Int):zia x x=0:=by simp[zia]
end Go.Hm
namespace Go.Proofs.Y
open Go.RowKit Go.Hm
set_option maxRecDepth 100000 in
theorem qik{w:World}{A:Option Addr}{n c:Nat}{l:List Int}(h:Reads w w.heap.size 1 A n (za0 .i64 l))(hn:n<=4611686018427387903):
 Calls Tryz.prog 186 #[.slice A n c] w (zdl (.int .i64 (orI l)) w):=by
 obtain rfl:=h.lenI;have K1:=Hz (fun(k:Nat) (h:∀j,j<k->l.getD j 0=0) (hk:k<l.length) (hn:l.getD k 0≠0)=>qij h hk hn);have K2:=Hz (fun(h:∀j,j<l.length->l.getD j 0=0)=>qcm h);generalize orI l=O at*;go_enter Tryz.func186,Tryz.ntmps186
 go_wp2
 go_loop [8] (fun i=>∃k:Nat,k<=l.length/\i= .int .i64 (k:Int)/\Hid (∀j,j<k->l.getD j 0=0)) (fun i=>l.length-(intOf i).toNat)
 case atStart=>exact⟨0,by omega,rfl,Hz (by intro j hj;omega)⟩
 case round=>
  obtain⟨k,hk,rfl,H⟩:=hrel;by_cases hlt:k<l.length
  ·obtain⟨ad,rfl,hbk,hcell⟩:=h.int hlt
   have M1:=Hz (fun(hn:l.getD k 0≠0)=>K1.out k H.out hlt hn);have M0:=Hz (fun(hz:l.getD k 0=0)=>show∀j,j<k+1->l.getD j 0=0 by
    intro j hj;rcases Nat.lt_succ_iff_lt_or_eq.1 hj with hj|rfl
    ·exact H.out j hj
    ·exact hz)
   generalize l.getD k 0=x at*;by_cases hx:x=0
   ·have M2:=Hz (M0.out hx)
    subst hx;clear M0 M1 K1 H;go_wp2
    go_round
    case rel=>exact⟨k+1,by omega,by go_num,M2⟩
    case measure=>simp[intOf];omega
   ·have M2:=Hz (M1.out hx)
    have e1:(x != 0)=true:=by simpa using hx
    clear M0 M1 K1 H hx;go_wp2
    go_ret
    exact⟨by rw[M2.out];rfl,rfl⟩
  ·obtain rfl:k=l.length:=by omega
   have M2:=Hz (K2.out H.out);clear K1 K2 H hlt;go_wp2
   go_ret
   exact⟨by rw[M2.out];rfl,rfl⟩
set_option maxRecDepth 100000 in
theorem zu8{w:World}{x y u v:Int}(hx: -2097152<=x/\x<=2097152)(hy: -2097152<=y/\y<=2097152)(hu: -2097152<=u/\u<=2097152)(hv: -2097152<=v/\v<=2097152):
 Calls Tryz.prog 166 #[.agg #[.int .i64 x,.int .i64 y],.agg #[.int .i64 u,.int .i64 v]] w (zal (.int .i64 (cmpP x y u v)) w):=by
 obtain⟨W0,hW0⟩:∃W,W=(w.alloc (.cells #[.int .i64 x,.int .i64 y] 73)).alloc (.cells #[.int .i64 u,.int .i64 v] 73):=⟨_,rfl⟩;have b0:New w W0:=by rw[hW0];exact((Below.refl _ _).alloc (Nat.le_refl _) _).alloc (by simp) _
 have B0:Blk W0 w.heap.size 73 #[.int .i64 x,.int .i64 y]:=by rw[hW0];exact(Blk.new _ _ _).alloc _
 have C0:Blk W0 (w.heap.size+1) 73 #[.int .i64 u,.int .i64 v]:=by rw[hW0];have:=Blk.new (w.alloc (.cells #[.int .i64 x,.int .i64 y] 73)) 73 #[.int .i64 u,.int .i64 v];simpa using this
 have F1:=Hz (fun(W:World) (hW:New W0 W)=>zbw (B0.below hW B0.lt));have F2:=Hz (fun(W:World) (hW:New W0 W)=>zbw (C0.below hW C0.lt));have P1:=Hz (fun(W:World)=>z0b (w:=W) hx hy);have P2:=Hz (fun(W:World)=>z0b (w:=W) hu hv);have HW:=Hz hW0;have HB:=Hz b0;have HO:=Hz (show cmpP x y u v=orI [zia (x*x+y*y) (u*u+v*v),zia x u,zia y v] from rfl);generalize cmpP x y u v=O at*;generalize x*x+y*y=nx at*;generalize u*u+v*v=nu at*;clear B0 C0 hx hy hu hv hW0 b0;go_enter Tryz.func166,Tryz.ntmps166
 go_wp2_with fail
 rw[<-HW.out];refine zaw New [(true,0),(true,2),(true,5),(true,6),(true,7),(true,8),(true,10),(true,11),(true,12),(true,13),(false,1),(false,3),(false,4),(false,9),(false,14),(false,15),(false,16),(true,17)]
  New.refl New.trans (by kernel_rfl) (by kernel_rfl) (by kernel_rfl) (by kernel_rfl) ?_
 have hU:=New.drew W0;repeat(first
  |(refine zar rfl rfl (v:=?_) (fun W hW=>?_) ?_;rotate_left;(obtain⟨x0,x1⟩:=F1.out W (New.trans hU hW);obtain⟨y0,y1⟩:=F2.out W (New.trans hU hW);go_simp<;> with_reducible rfl);simp only[Act.put,List.setIfInBounds_toArray,List.set_cons_zero,List.set_cons_succ])
  |(refine za7 rfl rfl (fun K hK=>?_);go_simp
    first
     |(with_reducible refine(P1.out _).mono ?_)
     |(with_reducible refine(P2.out _).mono ?_)
    rintro e w9 ⟨rfl,c⟩;refine hK _ _ c ?_;clear hK;replace hU:=New.trans hU c)
  |(refine za7 rfl rfl (fun K hK=>?_);go_simp
    (with_reducible refine cmpI_any.mono ?_)
    rintro e w9 ⟨rfl,rfl⟩;refine hK _ _ (New.refl _) ?_;clear hK))
 have bA:New w9 (w9.alloc (.cells #[.int .i64 (zia nx nu),.int .i64 (zia x u),.int .i64 (zia y v)] 3)):=(Below.refl _ _).alloc (Nat.le_refl _) _;have RL:=Hz (qik (c:=3) (Reads.litV w9 3 #[.int .i64 (zia nx nu),.int .i64 (zia x u),.int .i64 (zia y v)] 3 (za0 .i64 [zia nx nu,zia x u,zia y v]) rfl rfl) (by omega));rw[<-HO.out] at RL;refine za7 rfl rfl (fun K hK=>?_);go_simp
 refine hK _ _ bA ?_;clear hK;refine za7 rfl rfl (fun K hK=>?_);go_simp
 refine RL.out.mono ?_;rintro e w8 ⟨rfl,rfl⟩;refine hK _ _ (New.refl _) ?_;clear hK;replace hU:=New.trans hU bA;refine zar rfl rfl (v:=?_) (fun W hW=>?_) ?_;rotate_left
 ·go_simp<;> with_reducible rfl
 simp only[Act.put,List.setIfInBounds_toArray,List.set_cons_zero,List.set_cons_succ];refine zdh ?_;go_wp2
 go_ret
 exact⟨rfl,New.trans HB.out hU⟩
end Go.Proofs.Y
namespace Go.Hm
open Go Go.RowKit
theorem zpa{x y:Int}:zia x y<=0↔x<=y:=by
 unfold zia;split
 ·omega
 ·split<;> omega
theorem cmpI_zero{x y:Int}:zia x y=0↔x=y:=by
 unfold zia;split
 ·omega
 ·split<;> omega
theorem znm(x y:Int):zia y x= -zia x y:=by
 unfold zia;by_cases h1:x<y
 ·rw[if_pos h1,if_neg (by omega),if_pos h1];rfl
 ·by_cases h2:y<x
  ·rw[if_pos h2,if_neg h1,if_pos h2]
  ·rw[if_neg h2,if_neg h1,if_neg h1,if_neg h2];rfl
theorem qjl(a b c:Int):orI [a,b,c]=if a=0 then(if b=0 then c else b) else a:=by simp only[orI];by_cases h1:a=0<;> by_cases h2:b=0<;> by_cases h3:c=0<;> simp[h1,h2,h3]
theorem qcn(x y u v:Int):cmpP u v x y= -cmpP x y u v:=by
 unfold cmpP;rw[znm (x*x+y*y),znm x,znm y,qjl,qjl];by_cases h1:zia (x*x+y*y) (u*u+v*v)=0
 ·rw[if_pos (by omega),if_pos h1]
  by_cases h2:zia x u=0
  ·rw[if_pos (by omega),if_pos h2]
  ·rw[if_neg (by omega),if_neg h2]
 ·rw[if_neg (by omega),if_neg h1]
theorem z7h{x y u v:Int}:cmpP x y u v=0↔x=u/\y=v:=by
 unfold cmpP;rw[qjl];constructor
 ·intro h
  split at h
  ·split at h
   ·rename_i h1 h2
    exact⟨cmpI_zero.1 h2,cmpI_zero.1 h⟩
   ·rename_i h1 h2
    exact absurd h h2
  ·rename_i h1
   exact absurd h h1
 ·rintro⟨rfl,rfl⟩
  simp[z7g]
theorem z7i{x y u v:Int}:cmpP x y u v<=0↔x*x+y*y<u*u+v*v\/(x*x+y*y=u*u+v*v/\(x<u\/(x=u/\y<=v))):=by
 unfold cmpP;rw[qjl];generalize x*x+y*y=n;generalize u*u+v*v=m;have a1:= @zpa n m;have a2:= @cmpI_zero n m;have b1:= @zpa x u;have b2:= @cmpI_zero x u;have c1:= @zpa y v;split
 ·split
  ·omega
  ·omega
 ·omega
open Go Go.RowKit
def zgb:Int × Int->List (Int × Int)->Option (List (Int × Int))
 |_,[]=>some []
 |h,p::r=>if inBox p.1 p.2 then(zgb p r).map ((p.1-h.1,p.2-h.2):: ·) else none
theorem inBox_iff{x y:Int}:inBox x y=true↔(-1048576<=x/\x<=1048576)/\(-1048576<=y/\y<=1048576):=by simp[inBox];omega
open Go Go.RowKit
variable{P:Program}
theorem zlq{o:Oper}{a:Act}{w:World}{K:Act->World->Prop}{Q:Exit->Act->World->Prop}(ty:TypeId)(x y:Operand)(ho:o.op= .store ty x y)
 (g:Nat)(cells:Array Value)(hx:a.eval x= .pointer (some ⟨g,0,none⟩))(hy:a.eval y= .agg cells){t:TypeId}{old:Array Value}(hB:Blk w g t old)(hi:(P.info? ty).map (·.size)=some cells.size)
 (hold:old.size=cells.size)(h1:cells.all (·.oneCell')=true)
 (h:∀W,Blk W g t cells->w.grownBy W (some g)->K (a.put o.dst undef) W):o.wp P a w K Q:=by
 refine wp_store_row ty x y ho g cells hx hy t old hB hi hold h1 ?_;refine h _ ?_ ⟨rfl,rfl,rfl,by simp[World.setRow],fun k _ hne=>?_⟩
 ·unfold Blk at hB⊢
  simp[World.setRow,Array.getElem?_modify,hB]
 ·simp[World.setRow,Array.getElem?_modify]
  intro e;exact absurd (by rw[e]) hne
end Go.Hm
