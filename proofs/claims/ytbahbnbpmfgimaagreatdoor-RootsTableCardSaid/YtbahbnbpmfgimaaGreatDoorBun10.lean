import Derived.Deep.DeepCutAuto
import Derived.StillTailTactics
import Derived.Test.YtbahbnbpmfgimaaGreatDoorBun6
import Derived.Test.YtbahbnbpmfgimaaGreatDoorBun9
set_option maxHeartbeats 1000000
set_option maxRecDepth 100000
namespace Go.Proofs.Y
open Go.RowKit Go.Hm
def zcx(l:List Nat)(w:World)(e:Ending)(w':World):Prop:=
 ∃A n c,e= .returned (.slice A n c)/\Own w' w.heap.size 5 (.slice A n c) (zar .u8 l)/\Below w.heap.size w w'
theorem qkc{w:World}{A:Option Addr}{n c:Nat}{l:List Nat}(x:Nat)(h:Reads w w.heap.size 1 A n (zar .u8 l))(H:n<=140737488355200):
 Calls Tryz.prog 91 #[.slice A n c,.int .u32 (x:Int),.int .i64 4] w (zcx (l++low x 4) w):=by
 obtain rfl:=h.len;go_enter Tryz.func91,Tryz.ntmps91
 go_wp2_with (first
  |(refine zcf elB rfl (.tmp 10) (.tmp 14) rfl (W:=w) (B:=w.heap.size) l.length (l.length+4) rfl rfl rfl (by simp) (by omega) (qwd _ _) (qq0 _) rfl (by omega) (by simp only[maxLen];omega) ?_
    intro J a m g r)
  |(refine zpr elB rfl (.tmp 16) (.tmp 17) rfl (W:=w) (B:=w.heap.size) a (h.grown_far m (by simp)) rfl rfl l.length (Nat.min_self _) g (qq0 _) (zcr _ _) ?_
    intro K b q j s))
 rw[qru (by rw[zaa];omega),qt8 (by simp),qra] at b;have E:=j.size;clear a m g r q s;go_loopw [7,20] (fun v i wr=>∃(k:Nat) (A:Option Addr) (c:Nat),k<=4/\i= .int .i64 (k:Int)/\v= .slice A (l.length+k) c/\Own wr w.heap.size 5 (.slice A (l.length+k) c) (zar .u8 (l++low x k))/\Below w.heap.size w wr) (fun _ i _=>4-(intOf i).toNat)
 case atStart=>exact⟨0,_,_,by omega,rfl,rfl,by simpa[low] using b,j⟩
 case round=>
  obtain⟨k,t,y,G,rfl,rfl,f,o⟩:=hrel;have I:=o.size;by_cases D:k<4
  ·have S:=qwk (zy1 x k)
   have e:(l++low x k).length=l.length+k:=by rw[qrp,za0]
   have F:=qwk e;clear e;go_wp2_with (first
    |(refine zcs elB rfl (.tmp 23) (.tmp 29) rfl (W:=w) (B:=w.heap.size) f rfl rfl (x/256^k%256) (by rw[S.out]) o (qq0 _) (by omega) (by omega) (by simp only[maxLen];omega) ?_
      intro u z L _ _ d C p _ _))
   go_roundw
   case rel=>exact⟨k+1,u,z,by omega,by go_num,rfl,by rw[qrc] at d;exact d,p⟩
   case measure=>simp[intOf];omega
  ·obtain rfl:k=4:=by omega
   go_wp2
   go_ret
   exact⟨t,_,y,rfl,f,o⟩
theorem qkd{w:World}{A:Option Addr}{n c:Nat}{l:List Nat}(x:Nat)(h:Reads w w.heap.size 1 A n (zar .u8 l))(d:n<=140737488355200):
 Calls Tryz.prog 53 #[.slice A n c,.int .u32 (x:Int)] w (zcx (l++low x 4) w):=by
 obtain rfl:=h.len;go_enter Tryz.func53,Tryz.ntmps53
 go_wp2_with (go_at_call 91;refine(qkc x h d).mono ?_;rintro e j ⟨a,i,b,rfl,f,g⟩)
 go_ret
 exact⟨a,i,b,rfl,f,g⟩
theorem qke{w:World}{A:Option Addr}{n c:Nat}{l:List Nat}(x:Nat)(h:Reads w w.heap.size 1 A n (zar .u8 l))(H:n<=140737488355200):
 Calls Tryz.prog 102 #[.slice A n c,.int .u64 (x:Int),.int .i64 8] w (zcx (l++low x 8) w):=by
 obtain rfl:=h.len;go_enter Tryz.func102,Tryz.ntmps102
 go_wp2_with (first
  |(refine zcf elB rfl (.tmp 10) (.tmp 14) rfl (W:=w) (B:=w.heap.size) l.length (l.length+8) rfl rfl rfl (by simp) (by omega) (qwd _ _) (qq0 _) rfl (by omega) (by simp only[maxLen];omega) ?_
    intro J a m g r)
  |(refine zpr elB rfl (.tmp 16) (.tmp 17) rfl (W:=w) (B:=w.heap.size) a (h.grown_far m (by simp)) rfl rfl l.length (Nat.min_self _) g (qq0 _) (zcr _ _) ?_
    intro K b q j s))
 rw[qru (by rw[zaa];omega),qt8 (by simp),qra] at b;have E:=j.size;clear a m g r q s;go_loopw [7,20] (fun v i wr=>∃(k:Nat) (A:Option Addr) (c:Nat),k<=8/\i= .int .i64 (k:Int)/\v= .slice A (l.length+k) c/\Own wr w.heap.size 5 (.slice A (l.length+k) c) (zar .u8 (l++low x k))/\Below w.heap.size w wr) (fun _ i _=>8-(intOf i).toNat)
 case atStart=>exact⟨0,_,_,by omega,rfl,rfl,by simpa[low] using b,j⟩
 case round=>
  obtain⟨k,t,y,G,rfl,rfl,f,o⟩:=hrel;have I:=o.size;by_cases D:k<8
  ·have S:=qwk (zy1 x k)
   have e:(l++low x k).length=l.length+k:=by rw[qrp,za0]
   have F:=qwk e;clear e;go_wp2_with (first
    |(refine zcs elB rfl (.tmp 23) (.tmp 29) rfl (W:=w) (B:=w.heap.size) f rfl rfl (x/256^k%256) (by rw[S.out]) o (qq0 _) (by omega) (by omega) (by simp only[maxLen];omega) ?_
      intro u z L _ _ d C p _ _))
   go_roundw
   case rel=>exact⟨k+1,u,z,by omega,by go_num,rfl,by rw[qrc] at d;exact d,p⟩
   case measure=>simp[intOf];omega
  ·obtain rfl:k=8:=by omega
   go_wp2
   go_ret
   exact⟨t,_,y,rfl,f,o⟩
theorem z8t{w:World}{A:Option Addr}{n c:Nat}{l:List Nat}(x:Nat)(h:Reads w w.heap.size 1 A n (zar .u8 l))(d:n<=140737488355200):
 Calls Tryz.prog 70 #[.slice A n c,.int .u64 (x:Int)] w (zcx (l++low x 8) w):=by
 obtain rfl:=h.len;go_enter Tryz.func70,Tryz.ntmps70
 go_wp2_with (go_at_call 102;refine(qke x h d).mono ?_;rintro e j ⟨a,i,b,rfl,f,g⟩)
 go_ret
 exact⟨a,i,b,rfl,f,g⟩
theorem zzh{w:World}{g:Nat}{l:List Nat}(n:Nat)(h:Cur w g l false)(f:n<=l.length)(p:n<=1):
 Calls Tryz.prog 150 #[.pointer (some ⟨g,0,none⟩),.int .i64 (n:Int)] w (zdn (.returned (.int .u8 (num (l.take n):Int))) g (l.drop n) false w):=by
 have d:(l.take n).length=n:=by rw[qqx];omega
 have N:=qwk (zl7 h f);have m:∀x∈l.take n,x<256:=by obtain⟨A,c,_,_,_,_,j,_⟩:=h;exact fun x q=>j x (qro q)
 unfold zl6 at N;generalize l.take n=T at*;generalize o:l.drop n=D at*;clear o h f;go_enter Tryz.func150,Tryz.ntmps150
 go_wp2_with (first
  |(go_at_call 135;refine N.out.mono ?_;rintro e F ⟨y,B,rfl,r,s,t⟩
    have u:=r.1))
 clear N;subst d;go_loop [5,12] (fun v i=>∃k:Nat,k<=T.length/\i= .int .i64 (k:Int)/\v= .int .u8 (num (T.take k):Int)) (fun _ i=>T.length-(intOf i).toNat)
 case atStart=>exact⟨0,by omega,rfl,by simp[num]⟩
 case round=>
  obtain⟨k,E,rfl,rfl⟩:=hrel;by_cases a:k<T.length
  ·obtain⟨z,rfl,C,b⟩:=u.num a
   have S:=qwk (zy0 T k a p m);generalize T.getD k 0=x at*;go_wp2
   go_round
   case rel=>exact⟨k+1,by omega,by go_num,by rw[S.out]⟩
   case measure=>simp[intOf];omega
  ·obtain rfl:k=T.length:=by omega
   go_wp2
   go_ret
   exact⟨rfl,s,t⟩
theorem z4p{w:World}{g:Nat}{l:List Nat}{a:Bool}{n:Int}(h:Cur w g l a)(d:a=true\/n<0\/(l.length:Int)<n)(b: -9223372036854775808<=n)(c:n<=9223372036854775807):
 Calls Tryz.prog 150 #[.pointer (some ⟨g,0,none⟩),.int .i64 n] w (zdn (.returned (.int .u8 0)) g [] true w):=by
 have f:=qwk (zuj h d b c);clear d b c h;go_enter Tryz.func150,Tryz.ntmps150
 go_wp2_with (first
  |(go_at_call 135;refine f.out.mono ?_;rintro e k ⟨rfl,i,j⟩))
 refine wp_loop_rounds 1 ?_;rw[rounds_succ];go_wp2
 go_ret
 exact⟨rfl,i,j⟩
theorem z81{w:World}{g:Nat}{l:List Nat}(h:Cur w g l false)(a:1<=l.length):
 Calls Tryz.prog 137 #[.pointer (some ⟨g,0,none⟩)] w (zdn (.returned (.int .u8 (num (l.take 1):Int))) g (l.drop 1) false w):=by
 have N:=qwk (zzh 1 h a (by omega));go_enter Tryz.func137,Tryz.ntmps137
 go_wp2_with (go_at_call 150;refine N.out.mono ?_;rintro e d ⟨rfl,b,c⟩)
 go_ret
 exact⟨rfl,b,c⟩
theorem zo6{w:World}{g:Nat}{l:List Nat}{a:Bool}(h:Cur w g l a)(b:a=true\/l.length<1):
 Calls Tryz.prog 137 #[.pointer (some ⟨g,0,none⟩)] w (zdn (.returned (.int .u8 0)) g [] true w):=by
 have N:=qwk (z4p (n:=1) h (by rcases b with b|b;exact .inl b;exact .inr (.inr (by omega))) (by omega) (by omega));clear b;go_enter Tryz.func137,Tryz.ntmps137
 go_wp2_with (go_at_call 150;refine N.out.mono ?_;rintro e f ⟨rfl,c,d⟩)
 go_ret
 exact⟨rfl,c,d⟩
theorem zwh{w:World}{g:Nat}{l:List Nat}(n:Nat)(h:Cur w g l false)(f:n<=l.length)(p:n<=4):
 Calls Tryz.prog 114 #[.pointer (some ⟨g,0,none⟩),.int .i64 (n:Int)] w (zdn (.returned (.int .u32 (num (l.take n):Int))) g (l.drop n) false w):=by
 have d:(l.take n).length=n:=by rw[qqx];omega
 have N:=qwk (zl7 h f);have m:∀x∈l.take n,x<256:=by obtain⟨A,c,_,_,_,_,j,_⟩:=h;exact fun x q=>j x (qro q)
 unfold zl6 at N;generalize l.take n=T at*;generalize o:l.drop n=D at*;clear o h f;go_enter Tryz.func114,Tryz.ntmps114
 go_wp2_with (first
  |(go_at_call 135;refine N.out.mono ?_;rintro e F ⟨y,B,rfl,r,s,t⟩
    have u:=r.1))
 clear N;subst d;go_loop [5,12] (fun v i=>∃k:Nat,k<=T.length/\i= .int .i64 (k:Int)/\v= .int .u32 (num (T.take k):Int)) (fun _ i=>T.length-(intOf i).toNat)
 case atStart=>exact⟨0,by omega,rfl,by simp[num]⟩
 case round=>
  obtain⟨k,E,rfl,rfl⟩:=hrel;by_cases a:k<T.length
  ·obtain⟨z,rfl,C,b⟩:=u.num a
   have S:=qwk (zvz T k a p m);generalize T.getD k 0=x at*;go_wp2
   go_round
   case rel=>exact⟨k+1,by omega,by go_num,by rw[S.out]⟩
   case measure=>simp[intOf];omega
  ·obtain rfl:k=T.length:=by omega
   go_wp2
   go_ret
   exact⟨rfl,s,t⟩
theorem qe3{w:World}{g:Nat}{l:List Nat}(h:Cur w g l false)(a:4<=l.length):
 Calls Tryz.prog 95 #[.pointer (some ⟨g,0,none⟩)] w (zdn (.returned (.int .u32 (num (l.take 4):Int))) g (l.drop 4) false w):=by
 have N:=qwk (zwh 4 h a (by omega));go_enter Tryz.func95,Tryz.ntmps95
 go_wp2_with (go_at_call 114;refine N.out.mono ?_;rintro e d ⟨rfl,b,c⟩)
 go_ret
 exact⟨rfl,b,c⟩
theorem zwi{w:World}{g:Nat}{l:List Nat}(n:Nat)(h:Cur w g l false)(f:n<=l.length)(p:n<=8):
 Calls Tryz.prog 205 #[.pointer (some ⟨g,0,none⟩),.int .i64 (n:Int)] w (zdn (.returned (.int .u64 (num (l.take n):Int))) g (l.drop n) false w):=by
 have d:(l.take n).length=n:=by rw[qqx];omega
 have N:=qwk (zl7 h f);have m:∀x∈l.take n,x<256:=by obtain⟨A,c,_,_,_,_,j,_⟩:=h;exact fun x q=>j x (qro q)
 unfold zl6 at N;generalize l.take n=T at*;generalize o:l.drop n=D at*;clear o h f;go_enter Tryz.func205,Tryz.ntmps205
 go_wp2_with (first
  |(go_at_call 135;refine N.out.mono ?_;rintro e F ⟨y,B,rfl,r,s,t⟩
    have u:=r.1))
 clear N;subst d;go_loop [5,12] (fun v i=>∃k:Nat,k<=T.length/\i= .int .i64 (k:Int)/\v= .int .u64 (num (T.take k):Int)) (fun _ i=>T.length-(intOf i).toNat)
 case atStart=>exact⟨0,by omega,rfl,by simp[num]⟩
 case round=>
  obtain⟨k,E,rfl,rfl⟩:=hrel;by_cases a:k<T.length
  ·obtain⟨z,rfl,C,b⟩:=u.num a
   have S:=qwk (zv0 T k a p m);generalize T.getD k 0=x at*;go_wp2
   go_round
   case rel=>exact⟨k+1,by omega,by go_num,by rw[S.out]⟩
   case measure=>simp[intOf];omega
  ·obtain rfl:k=T.length:=by omega
   go_wp2
   go_ret
   exact⟨rfl,s,t⟩
theorem zzi{w:World}{g:Nat}{l:List Nat}{a:Bool}{n:Int}(h:Cur w g l a)(d:a=true\/n<0\/(l.length:Int)<n)(b: -9223372036854775808<=n)(c:n<=9223372036854775807):
 Calls Tryz.prog 205 #[.pointer (some ⟨g,0,none⟩),.int .i64 n] w (zdn (.returned (.int .u64 0)) g [] true w):=by
 have f:=qwk (zuj h d b c);clear d b c h;go_enter Tryz.func205,Tryz.ntmps205
 go_wp2_with (first
  |(go_at_call 135;refine f.out.mono ?_;rintro e k ⟨rfl,i,j⟩))
 refine wp_loop_rounds 1 ?_;rw[rounds_succ];go_wp2
 go_ret
 exact⟨rfl,i,j⟩
theorem qe4{w:World}{g:Nat}{l:List Nat}(h:Cur w g l false)(a:8<=l.length):
 Calls Tryz.prog 189 #[.pointer (some ⟨g,0,none⟩)] w (zdn (.returned (.int .u64 (num (l.take 8):Int))) g (l.drop 8) false w):=by
 have N:=qwk (zwi 8 h a (by omega));go_enter Tryz.func189,Tryz.ntmps189
 go_wp2_with (go_at_call 205;refine N.out.mono ?_;rintro e d ⟨rfl,b,c⟩)
 go_ret
 exact⟨rfl,b,c⟩
theorem z82{w:World}{g:Nat}{l:List Nat}{a:Bool}(h:Cur w g l a)(b:a=true\/l.length<8):
 Calls Tryz.prog 189 #[.pointer (some ⟨g,0,none⟩)] w (zdn (.returned (.int .u64 0)) g [] true w):=by
 have N:=qwk (zzi (n:=8) h (by rcases b with b|b;exact .inl b;exact .inr (.inr (by omega))) (by omega) (by omega));clear b;go_enter Tryz.func189,Tryz.ntmps189
 go_wp2_with (go_at_call 205;refine N.out.mono ?_;rintro e f ⟨rfl,c,d⟩)
 go_ret
 exact⟨rfl,c,d⟩
theorem z1w{w:World}{g x:Nat}{b:List Nat}(h:Cur w g (x::b) false):
 Calls Tryz.prog 137 #[.pointer (some ⟨g,0,none⟩)] w (zdn (.returned (.int .u8 (x:Int))) g b false w):=by
 have:=z81 h (by simp);simpa[num] using this
end Go.Proofs.Y
namespace Go.Hm
open Go Go.RowKit
def qgp(x y:Int):Bool:=decide (-2097152<=x)&&decide (x<=2097152)&&decide (-2097152<=y)&&decide (y<=2097152)
theorem nearB_iff{x y:Int}:qgp x y=true↔(-2097152<=x/\x<=2097152)/\(-2097152<=y/\y<=2097152):=by simp[qgp];omega
def zsd:Int × Int->List (Int × Int)->Option (List (Int × Int))
 |_,[]=>some []
 |h,s::r=>if qgp s.1 s.2&&inBox (h.1+s.1) (h.2+s.2) then(zsd (h.1+s.1,h.2+s.2) r).map ((h.1+s.1,h.2+s.2):: ·) else none
def zgw:Int × Int->List (Int × Int)->Option (List (Int × Int))
 |_,[]=>some []
 |h,p::r=>if inBox p.1 p.2 then(zgw p r).map ((p.1-h.1,p.2-h.2):: ·) else none
theorem inBox_iff{x y:Int}:inBox x y=true↔(-1048576<=x/\x<=1048576)/\(-1048576<=y/\y<=1048576):=by simp[inBox];omega
end Go.Hm
namespace Go.Proofs.Y
open Go.RowKit Go.Hm
def RowsIn(w:World)(B:Nat)(D:List zdw):Prop:=∀d∈D,w.ownsRow B 75 5 (.slice d.1 d.2.2.length d.2.1) d.2.2.length (recs zay d.2.2)
theorem RowsIn.later{w w':World}{B:Nat}{D:List zdw}(h:RowsIn w B D)(a:New w w'):RowsIn w' B D:=fun d b=>zba (h d b) a
theorem RowsIn.base{w:World}{B a:Nat}{D:List zdw}(h:RowsIn w B D)(b:a<=B):RowsIn w a D:=fun d c=>zfd (h d c) b
theorem RowsIn.keepT{w w':World}{B g:Nat}{t:TypeId}{cs:Array Value}{D:List zdw}(h:RowsIn w B D)(c:Blk w g t cs)(a:75≠t)(e:w.grownBy w' (some g)):RowsIn w' B D:=fun d b=>qqi (h d b) e (.inr (zat (h d b) c a))
theorem RowsIn.snoc{w:World}{B:Nat}{D:List zdw}{d:zdw}(h:RowsIn w B D)(b:w.ownsRow B 75 5 (.slice d.1 d.2.2.length d.2.1) d.2.2.length (recs zay d.2.2)):RowsIn w B (D++[d]):=by
 intro x a;rcases qr5.1 a with a|a
 ·exact h x a
 ·obtain rfl:=qr6.1 a
  exact b
def TabPost(er:Int)(L:List za2)(r:Int)(C:List (List zab))(w:World)(e:Ending)(w':World):Prop:=
 ∃(Ac Ad:Option Addr) (cc cd:Nat) (D:List zdw),e= .returned (.tuple #[.agg #[.slice Ac L.length cc,.int .i64 r,.slice Ad D.length cd],.int .i64 er])/\
  w'.ownsRow w.heap.size 71 3 (.slice Ac L.length cc) L.length (recs zle L)/\w'.ownsRow w.heap.size 76 1 (.slice Ad D.length cd) D.length (recs zjl D)/\RowsIn w' w.heap.size D/\D.map (·.2.2)=C/\New w w'
def qnw(er:Int)(L:List za2)(l:List Int):List za2:=if er=0 then l.map (fun c=>L.getD c.toNat ([],0,false)) else []
def qnx(er fr to_:Int):Int:=if er=0 then to_-fr else 0
def qpx(D:List zdw)(fr to_ c:Int):List zab:=((D.getD c.toNat (none,0,[])).2.2.drop fr.toNat).take (to_-fr).toNat
def qny(er:Int)(D:List zdw)(l:List Int)(fr to_:Int):List (List zab):=if er=0 then l.map (qpx D fr to_) else []
def ProjPost(er:Int)(L:List za2)(D:List zdw)(l:List Int)(fr to_:Int)(w:World)(e:Ending)(w':World):Prop:=
 (er≠0/\e= .returned (.tuple #[.agg #[.slice none 0 0,.int .i64 0,.slice none 0 0],.int .i64 er])/\New w w')\/(er=0/\TabPost 0 (l.map (fun c=>L.getD c.toNat ([],0,false))) (to_-fr) (l.map (qpx D fr to_)) w e w')
theorem ProjPost.u{b:Int}{L:List za2}{D:List zdw}{l:List Int}{c a:Int}{w w':World}{e:Ending}(h:ProjPost b L D l c a w e w'):TabPost b (qnw b L l) (qnx b c a) (qny b D l c a) w e w':=by
 rcases h with⟨d,rfl,f⟩|⟨rfl,h⟩
 ·rw[qnw,qnx,qny,if_neg d,if_neg d,if_neg d]
  exact⟨none,none,0,0,[],rfl,zd8,zd8,fun _ g=>absurd g (by simp),rfl,f⟩
 ·exact h
theorem zm6{L:List za2}{r:Int}{D:List zdw}(h:ze1 L r D=0):D.length=L.length/\0<=r/\r<=65536/\L.length<=64/\ ∀d∈D,((d.2.2.length:Nat):Int)=r:=by
 unfold ze1 at h;split at h
 ·rename_i e;exact absurd h e
 ·rename_i e
  split at h
  ·rename_i f;exact absurd h f
  ·rename_i f
   obtain⟨a,b,c,d⟩:=zx5 (qt9.1 f);refine⟨a,b,c,?_,d⟩;have g:=qt9.1 e;unfold zcz at g;split at g
   ·cases g
   ·omega
end Go.Proofs.Y
set_option maxRecDepth 100000
namespace Go.Hm
structure TabIn(w:World)(Ac:Option Addr)(cc:Nat)(L:List za2)(Ad:Option Addr)(D:List zdw):Prop where
 cols:Reads w w.heap.size 3 Ac L.length (recs zle L)
 fine:∀x∈L,(∀z∈x.1,z<256)/\x.1.length<=140737488351232
 cap:L.length<=cc
 few:L.length<=4611686018427387903
 data:Reads w w.heap.size 1 Ad D.length (recs zjl D)
 few2:D.length<=4611686018427387903
 within:DataIn w w.heap.size D
theorem TabIn.later{w w':World}{Ac:Option Addr}{cc:Nat}{L:List za2}{b:Option Addr}{D:List zdw}(h:TabIn w Ac cc L b D)(a:New w w'):TabIn w' Ac cc L b D:=
 ⟨qxj h.cols a,h.fine,h.cap,h.few,qxj h.data a,h.few2,h.within.later a⟩
end Go.Hm
namespace Go.Proofs.Y
open Go.RowKit Go.Hm Go.WideShapes Go.ChangeShapes
section
variable{H:Type}{enc:TypeId × Value->H}{W:World}{base:Nat}{v:Value}{d:DataW H}{ps:List MemPlace}
theorem qcf{cs:List Value}(h:Held enc Tryz.prog W 54 cs):∃(A:Option Addr) (c:Nat) (D:List zdw),cs=[.slice A D.length c]/\D.length<=4611686018427387903/\Reads W W.heap.size 1 A D.length (recs zjl D)/\DataIn W W.heap.size D/\ ∀d∈D,∀y∈d.2.2,CellFine y:=by
 have k:Tryz.prog.underlying 54=some (.slice 76):=by kernel_rfl
 obtain⟨A,c,l,e,n,_,g,i,b⟩:=h.recs (f:=zjl) (sz:=1) (by_:=24) (Q:=fun x=>(Reads W W.heap.size 5 x.1 x.2.2.length (recs zay x.2.2)/\(∀y∈x.2.2,CellFine y)/\x.2.2.length<=x.2.1/\x.2.1<=9223372036854775807/\(x.1=none->x.2.1=0))) (none,0,[]) k (by kernel_rfl) (by kernel_rfl) (fun _=>rfl) (by omega) (fun cs j=>z4w j);exact⟨A,c,l,e,by unfold reachBytes at g;omega,i,fun d a=>⟨(b d a).1,fun y m=>((b d a).2.1 y m).1,(b d a).2.2⟩,fun d a=>(b d a).2.1⟩
theorem qcg(c:Value.okWide Tryz.prog W .any base 56 v)(h:DataW.Trod enc Tryz.prog W 0 (fun _=>true) true 56 v d ps)(i:∀p∈ps,p.block<W.heap.size)(S:∀n∈d.weights Tryz.prog 56,n<=reachBytes):
 ∃(Ac:Option Addr) (cc:Nat) (L:List za2) (r:Int) (e:Option Addr) (cd:Nat) (D:List zdw),v= .agg #[.slice Ac L.length cc,.int .i64 r,.slice e D.length cd]/\TabIn W Ac cc L e D/\(-9223372036854775808<=r/\r<=9223372036854775807)/\ ∀d∈D,∀y∈d.2.2,CellFine y:=by
 have b:Tryz.prog.underlying 56=some (.struct (zdm Tryz.prog 56)):=by kernel_rfl
 have g:Tryz.prog.underlying 71=some (.struct (zdm Tryz.prog 71)):=by kernel_rfl
 have P:Tryz.prog.underlying 53=some (.slice 71):=by kernel_rfl
 obtain⟨⟨w⟩,rfl,R⟩:=okWide_struct b c;have a:=Held.of h i S;simp only[Value.cells] at a;obtain⟨U,V,X,rfl⟩:=qj2 (a.partLen b (n:=3) (by kernel_rfl));have j:=a.part b 0 0 1 (ft:=53) (by kernel_rfl) (by kernel_rfl);have k:=a.part b 1 1 1 (ft:=3) (by kernel_rfl) (by kernel_rfl);have l:=a.part b 2 2 1 (ft:=54) (by kernel_rfl) (by kernel_rfl);obtain⟨Ac,cc,L,t,I,_,J,K,M⟩:=j.recs (f:=zle) (sz:=3) (by_:=32) (Q:=fun x=>(∀z∈x.1,z<256)/\x.1.length<=140737488351232) ([],0,false) P (by kernel_rfl) (by kernel_rfl) (fun _=>rfl) (by omega) (fun w a=>by obtain⟨U,V,X,rfl⟩:=qj2 (a.partLen g (n:=3) (by kernel_rfl));have j:=a.part g 0 0 1 (ft:=9) (by kernel_rfl) (by kernel_rfl);have k:=a.part g 1 1 1 (ft:=3) (by kernel_rfl) (by kernel_rfl);have l:=a.part g 2 2 1 (ft:=4) (by kernel_rfl) (by kernel_rfl);obtain⟨nm,m,A,B⟩:=j.string (by kernel_rfl);obtain⟨ty,o,Y,Z⟩:=k.i64 (by kernel_rfl);obtain⟨T,q⟩:=l.bool (by kernel_rfl);simp only[qu8,qu9,qva,qrq,qqe,and_true] at m o q;subst m o q;exact⟨(nm,ty,T),rfl,A,B⟩)
 obtain⟨r,u,N,O⟩:=k.i64 (by kernel_rfl);obtain⟨e,cd,D,s,C,E,F,G⟩:=qcf l;simp only[qu8,qu9,qva,qrq,qqe,and_true] at t u s;subst t u s;exact⟨Ac,cc,L,r,e,cd,D,rfl,⟨K,M,I,by unfold reachBytes at J;omega,E,C,F⟩,⟨N,O⟩,G⟩
end
open Go.RowKit Go.Hm
theorem RowsIn.touch{w w':World}{B base sz n:Nat}{e:TypeId}{v:Value}{xs:List Value}{D:List zdw}(h:RowsIn w B D)(c:w.ownsRow base e sz v n xs)(a:75≠e)(k:Turns (zbt v) w w'):RowsIn w' B D:=fun d b=>zp7 (h d b) k (zp8 (h d b) c a)
end Go.Proofs.Y
