/- Merged. -/
import Derived.Test.YtmgfkpnghlmheaaGreatBun5
set_option maxHeartbeats 2000000
namespace Go.Proofs.Y
open Go.RowKit Go.Hm
def Cur(w:World)(g:Nat)(l:List Nat)(bad:Bool):Prop:=
 ∃A c,Blk w g 154 #[.slice A l.length c,.bool bad]/\l.length<=c/\c<=maxLen/\TR w 5 A l.length (za2 .u8 l)/\(∀x∈l,x<256)/\(bad=true->l=[])
section
variable{w w':World}{g:Nat}{l:List Nat}{bad:Bool}
theorem Cur.lt(h:Cur w g l bad):g<w.heap.size:=by obtain⟨A,c,h1,_⟩:=h;exact h1.lt
theorem Cur.len(h:Cur w g l bad):l.length<=maxLen:=by obtain⟨A,c,_,h1,h2,_⟩:=h;omega
theorem Cur.below(h:Cur w g l bad)(hb:Below w.heap.size w w'):Cur w' g l bad:=by obtain⟨A,c,h1,h2,h3,h4,h5,h6⟩:=h;exact⟨A,c,h1.below hb h1.lt,h2,h3,h4.below hb,h5,h6⟩
theorem Cur.keep{g':Nat}{t:TypeId}{cs:Array Value}(h:Cur w g l bad)(hg:w.grownBy w' (some g'))(hT:Blk w g' t cs)(hne:g≠g')(ht:5≠t):Cur w' g l bad:=by obtain⟨A,c,h1,h2,h3,h4,h5,h6⟩:=h;exact⟨A,c,h1.grown hg (by simpa using hne),h2,h3,h4.keep hg hT ht,h5,h6⟩
theorem Cur.blk(h:Cur w g l bad):∃cs,Blk w g 154 cs:=by obtain⟨A,c,h1,_⟩:=h;exact⟨_,h1⟩
end
def zde(e0:Ending)(g:Nat)(l:List Nat)(bad:Bool)(w:World)(e:Ending)(w':World):Prop:=e=e0/\Cur w' g l bad/\w.grownBy w' (some g)
theorem zje{w:World}{g i j:Nat}{x y:Value}:w.grownBy ((w.setCell ⟨g,i,none⟩ x).setCell ⟨g,j,none⟩ y) (some g):=
 ⟨rfl,rfl,rfl,by simp[World.setCell],fun k _ hne=>(Below.heap_setCell _ _ _ _ (by intro e;exact hne (by rw[e]))).trans (Below.heap_setCell _ _ _ _ (by intro e;exact hne (by rw[e])))⟩
theorem zb0{w:World}{g i:Nat}{x:Value}:w.grownBy (w.setCell ⟨g,i,none⟩ x) (some g):=
 ⟨rfl,rfl,rfl,by simp[World.setCell],fun k _ hne=>Below.heap_setCell _ _ _ _ (by intro e;exact hne (by rw[e]))⟩
theorem zhg{w:World}{g:Nat}{l:List Nat}{bad:Bool}(h:Cur w g l bad):
 Calls Tryz.prog 110 #[.pointer (some ⟨g,0,none⟩)] w (zde (.returned (.tuple #[])) g [] true w):=by
 obtain⟨A,c,h1,h2,h3,h4,h5,h6⟩:=h;have c0:=h1.cell 0;have c1:=h1.cell 1;have f0:=h1.frozen 0;have f1:=h1.frozen 1;simp at c0 c1;have H1:=Hz h1;clear h1;go_enter Tryz.func110,Tryz.ntmps110
 go_wp2
 go_end0
 refine⟨rfl,⟨none,0,?_,by simp,by simp[maxLen],TR.nil_,by simp,by simp⟩,zje⟩;simpa using(H1.out.set_ 0 (.slice none 0 0)).set_ 1 (.bool true)
def zfg(l:List Nat)(w:World)(e:Ending)(w':World):Prop:=e= .returned (.int .i64 (l.length:Int))/\w=w'
def zr6(b:Bool)(w:World)(e:Ending)(w':World):Prop:=e= .returned (.bool b)/\w=w'
theorem z9w{w:World}{g:Nat}{l:List Nat}{bad:Bool}(h:Cur w g l bad):Calls Tryz.prog 126 #[.pointer (some ⟨g,0,none⟩)] w (zfg l w):=by
 obtain⟨A,c,h1,h2,h3,h4,h5,h6⟩:=h;have c0:=h1.cell 0;simp at c0;clear h1 h4 h5 h6;go_enter Tryz.func126,Tryz.ntmps126
 go_wp2
 go_ret
 exact⟨rfl,rfl⟩
theorem zjl{w:World}{g:Nat}{l:List Nat}{bad:Bool}(h:Cur w g l bad):Calls Tryz.prog 80 #[.pointer (some ⟨g,0,none⟩)] w (zr6 bad w):=by
 obtain⟨A,c,h1,h2,h3,h4,h5,h6⟩:=h;have c1:=h1.cell 1;simp at c1;clear h1 h4 h5 h6;go_enter Tryz.func80,Tryz.ntmps80
 go_wp2
 go_ret
 exact⟨rfl,rfl⟩
theorem qej{w:World}{g:Nat}{l:List Nat}{bad:Bool}(h:Cur w g l bad):Calls Tryz.prog 82 #[.pointer (some ⟨g,0,none⟩)] w (zr6 (!bad&&l.isEmpty) w):=by
 obtain⟨A,c,h1,h2,h3,h4,h5,h6⟩:=h;have c0:=h1.cell 0;have c1:=h1.cell 1;simp at c0 c1;clear h1 h4 h5 h6;cases bad
 ·go_enter Tryz.func82,Tryz.ntmps82
  go_wp2
  go_ret
  refine⟨?_,rfl⟩;cases l<;> simp;omega
 ·go_enter Tryz.func82,Tryz.ntmps82
  go_wp2
  go_ret
  exact⟨rfl,rfl⟩
def zj3(g:Nat)(l:List Nat)(n:Nat)(w:World)(e:Ending)(w':World):Prop:=
 ∃A c,e= .returned (.slice A n c)/\TR w' 5 A n (za2 .u8 (l.take n))/\Cur w' g (l.drop n) false/\w.grownBy w' (some g)
theorem z9x{w:World}{g:Nat}{l:List Nat}{n c:Nat}{A A':Option Addr}(h1:Blk w g 154 #[.slice A l.length c,.bool false])(h2:l.length<=c)(h3:c<=maxLen)(h4:TR w 5 A l.length (za2 .u8 l))(h5:∀x∈l,x<256)(hn:n<=l.length)
 (hA:A'=if c=n then A else A.map (·.add n)):zj3 g l n w (.returned (.slice A n c)) (w.setCell ⟨g,0,none⟩ (.slice A' (l.length-n) (c-n))):=by
 have hg:w.grownBy (w.setCell ⟨g,0,none⟩ (.slice A' (l.length-n) (c-n))) (some g):=zb0;have ht:=h4.take hn;rw[zfw] at ht;have hc:=h4.cut hn h2;rw[ze3,<-hA] at hc;refine⟨A,c,rfl,ht.keep hg h1 (by decide),⟨A',c-n,?_,by rw[List.length_drop];omega,by omega,?_,fun x hx=>h5 x (List.mem_of_mem_drop hx),by simp⟩,hg⟩
 ·rw[List.length_drop]
  simpa using h1.set_ 0 (.slice A' (l.length-n) (c-n))
 ·rw[List.length_drop]
  exact hc.keep hg h1 (by decide)
theorem zj4{w:World}{g:Nat}{l:List Nat}{n:Nat}(h:Cur w g l false)(hn:n<=l.length):Calls Tryz.prog 148 #[.pointer (some ⟨g,0,none⟩),.int .i64 (n:Int)] w (zj3 g l n w):=by
 obtain⟨A,c,h1,h2,h3,h4,h5,_⟩:=h;have c0:=h1.cell 0;have c1:=h1.cell 1;have f0:=h1.frozen 0;simp at c0 c1;have F:=Hz (z9x (A':=if c=n then A else A.map (·.add n)) h1 h2 h3 h4 h5 hn rfl);clear h1 h4 h5;have h3':=h3;unfold maxLen at h3';by_cases hcn:c=n
 ·subst hcn
  go_enter Tryz.func148,Tryz.ntmps148
  go_wp2
  all_goals first|(exfalso;omega)|go_ret
  have F':=F.out;rw[show l.length-c=0 by omega,Nat.sub_self] at F';simpa using F'
 ·have Hcn:=Hz hcn
  clear hcn;go_enter Tryz.func148,Tryz.ntmps148
  go_wp2
  all_goals first|(exfalso;have:=Hcn.out;omega)|go_ret
  have F':=F.out;rw[if_neg Hcn.out] at F';exact F'
theorem zr7{w:World}{g:Nat}{l:List Nat}{bad:Bool}{n:Int}(h:Cur w g l bad)(hn:bad=true\/n<0\/(l.length:Int)<n)(h1: -9223372036854775808<=n)(h2:n<=9223372036854775807):
 Calls Tryz.prog 148 #[.pointer (some ⟨g,0,none⟩),.int .i64 n] w (zde (.returned (.slice none 0 0)) g [] true w):=by
 have hF:=zhg h;have HF:=Hz hF;clear hF;obtain⟨A,c,b1,_,_,_,_,_⟩:=h;have c0:=b1.cell 0;have c1:=b1.cell 1;simp at c0 c1;clear b1;cases bad
 ·by_cases hn0:n<0
  ·clear hn
   go_enter Tryz.func148,Tryz.ntmps148
   go_wp2_with (go_at_call 110;refine HF.out.mono ?_;rintro e w' ⟨rfl,k1,k2⟩)
   go_ret
   exact⟨rfl,k1,k2⟩
  ·have hn1:(l.length:Int)<n:=by rcases hn with hn|hn|hn<;> first|cases hn|omega
   clear hn;have hn0':0<=n:=by omega
   clear hn0;go_enter Tryz.func148,Tryz.ntmps148
   go_wp2_with (go_at_call 110;refine HF.out.mono ?_;rintro e w' ⟨rfl,k1,k2⟩)
   go_ret
   exact⟨rfl,k1,k2⟩
 ·clear hn
  go_enter Tryz.func148,Tryz.ntmps148
  go_wp2_with (go_at_call 110;refine HF.out.mono ?_;rintro e w' ⟨rfl,k1,k2⟩)
  go_ret
  exact⟨rfl,k1,k2⟩
def z4c(l:List Nat)(w:World)(e:Ending)(w':World):Prop:=
 ∃A n c,e= .returned (.slice A n c)/\Own w' w.heap.size 5 (.slice A n c) (za2 .u8 l)/\Below w.heap.size w w'
theorem zgw{w:World}{A:Option Addr}{n c:Nat}{l:List Nat}(h:Reads w w.heap.size 1 A n (za2 .u8 l))(hl:n<=140737488355328):
 Calls Tryz.prog 42 #[.slice A n c] w (z4c l w):=by
 obtain rfl:=h.len;rcases A with _|ad
 ·have hl0:l.length=0:=by
   rcases Nat.eq_zero_or_pos l.length with h0|h0
   ·exact h0
   ·obtain⟨ad,h',_⟩:=h.2 h0
    cases h'
  obtain rfl:l=[]:=List.eq_nil_of_length_eq_zero hl0;have hq:=fun W:World=>Lib.run_eql_slice_nil (P:=Tryz.prog) W 31 5 none 0 c 0 0 elB.ht
  go_enter Tryz.func42,Tryz.ntmps42
  go_wp2
  go_ret
  exact⟨none,0,0,rfl,Own.nil_,Below.refl _ _⟩
 ·have hq:=fun W:World=>Lib.run_eql_slice_nil (P:=Tryz.prog) W 31 5 (some ad) l.length c 0 0 elB.ht
  go_enter Tryz.func42,Tryz.ntmps42
  go_wp2_with (first
   |(refine zau elB rfl (.tmp 5) (.tmp 6) rfl (W:=w) (B:=w.heap.size) (k:= .u8) (l:=[]) (l2:=l) (c2:=c) (Own.empty _ _) ((h.alloc (Nat.le_refl _) _).more (by simp)) rfl rfl ((Below.refl _ _).alloc (Nat.le_refl _) _) (Nat.le_refl _) (by simp) (by omega) (by simp only[maxLen];omega) ?_
     simp only[Nat.zero_add,List.nil_append];intro A' c' w' k1 k2 k3 k4 k5 k6))
  go_ret
  exact⟨A',_,c',rfl,k3,k5⟩
def z9y(l:List Nat)(w:World)(e:Ending)(w':World):Prop:=
 ∃g,e= .returned (.pointer (some ⟨g,0,none⟩))/\w.heap.size<=g/\Cur w' g l false/\Below w.heap.size w w'
theorem zfh{w:World}{A:Option Addr}{n c:Nat}{l:List Nat}(h:Reads w w.heap.size 1 A n (za2 .u8 l))(hl:n<=140737488355328)(h8:∀x∈l,x<256):
 Calls Tryz.prog 76 #[.slice A n c] w (z9y l w):=by
 obtain rfl:=h.len;go_enter Tryz.func76,Tryz.ntmps76
 go_wp2_with (go_at_call 42;refine(zgw h hl).mono ?_;rintro e w1 ⟨A',n',c',rfl,k1,k2⟩)
 go_ret
 have hc:=k1.cap;obtain rfl:n'=l.length:=by have:=k1.len;rwa[zaa] at this
 exact⟨_,rfl,k2.size,⟨A',c',Blk.new _ _ _,by omega,by omega,(TR.of_own k1).alloc _,h8,by simp⟩,k2.alloc k2.size _⟩
def z9z(g:Nat)(l:List Nat)(n:Nat)(w:World)(e:Ending)(w':World):Prop:=
 ∃A c,e= .returned (.slice A n c)/\Own w' w.heap.size 5 (.slice A n c) (za2 .u8 (l.take n))/\Cur w' g (l.drop n) false/\w.grownBy w' (some g)
theorem zhh{w w1 w2:World}{row:Option Nat}(h:w.grownBy w1 row)(hb:Below w1.heap.size w1 w2):w.grownBy w2 row:=
 ⟨hb.os.trans h.os,hb.tape.trans h.tape,hb.output.trans h.output,Nat.le_trans h.size hb.size,fun k hk hne=>(hb.block k (Nat.lt_of_lt_of_le hk h.size)).trans (h.block k hk hne)⟩
theorem z4d{w:World}{g:Nat}{l:List Nat}{n:Nat}(h:Cur w g l false)(hn:n<=l.length)(hs:n<=140737488355328):
 Calls Tryz.prog 123 #[.pointer (some ⟨g,0,none⟩),.int .i64 (n:Int)] w (z9z g l n w):=by
 have hlt:(l.take n).length=n:=by rw[List.length_take];omega
 go_enter Tryz.func123,Tryz.ntmps123
 go_wp2_with (first
  |(go_at_call 148;refine(zj4 h hn).mono ?_;rintro e w1 ⟨A',c',rfl,k1,k2,k3⟩
    have k4:=k1.1;have C:=Hz (zgw (c:=c') k4 hs);have hg:=k3.size)
  |(go_at_call 42;refine C.out.mono ?_;rintro e w2 ⟨A2,n2,c2,rfl,k5,k6⟩))
 go_ret
 obtain rfl:n2=n:=by have:=k5.len;rwa[zaa,hlt] at this
 exact⟨A2,c2,rfl,k5.base_le hg,k2.below k6,zhh k3 k6⟩
theorem z90{w:World}{g:Nat}{l:List Nat}{bad:Bool}{n:Int}(h:Cur w g l bad)(hn:bad=true\/n<0\/(l.length:Int)<n)(h1: -9223372036854775808<=n)(h2:n<=9223372036854775807):
 Calls Tryz.prog 123 #[.pointer (some ⟨g,0,none⟩),.int .i64 n] w (zde (.returned (.slice none 0 0)) g [] true w):=by
 have HN:=Hz (zr7 h hn h1 h2);clear hn h1 h2;have hq:=fun W:World=>Lib.run_eql_slice_nil (P:=Tryz.prog) W 31 5 none 0 0 0 0 elB.ht
 go_enter Tryz.func123,Tryz.ntmps123
 go_wp2_with (first
  |(go_at_call 148;refine HN.out.mono ?_;rintro e w1 ⟨rfl,k1,k2⟩)
  |(go_at_call 42;go_in))
 go_ret
 exact⟨rfl,k1,k2⟩
open Go.RowKit Go.Hm
theorem zqo(w:World)(a b:Obj):New w ((w.alloc a).alloc b):=New.trans ((Below.refl _ _).alloc (Nat.le_refl _) _) ((Below.refl _ _).alloc (Nat.le_refl _) _)
theorem zjf{s:List Nat}:(zac s).toList=[]↔s=[]:=by rw[zes];simp
set_option maxRecDepth 100000 in
theorem zfs{w:World}{b:Bool}{n:Int}{s:List Nat}{x y:Int}{cn:List Nat}{t:Int}{nu:Bool}(hs:s.length<=140737488351232):
 Calls Tryz.prog 52 #[.agg #[.bool b,.int .i64 n,.string (zac s),.int .i64 x,.int .i64 y],.agg #[.string (zac cn),.int .i64 t,.bool nu]] w (zak (.bool (zaf (b,n,s,x,y) t nu)) w):=by
 have z1:=za4 s;generalize hO:zaf (b,n,s,x,y) t nu=O;have HO:=Hz hO;have Z:=Hz (zjf (s:=s));clear hO;have B0:=Blk.new w 61 #[.bool b,.int .i64 n,.string (zac s),.int .i64 x,.int .i64 y];have B1:=Blk.new (w.alloc (.cells #[.bool b,.int .i64 n,.string (zac s),.int .i64 x,.int .i64 y] 61)) 70 #[.string (zac cn),.int .i64 t,.bool nu];obtain⟨x0,x1,x2,x3,x4⟩:=zcb (B0.alloc (.cells #[.string (zac cn),.int .i64 t,.bool nu] 70));obtain⟨y0,y1,y2⟩:=zad B1;clear B0 B1;go_enter Tryz.func52,Tryz.ntmps52
 go_wp2_with (first
  |(go_at_call 91;refine(zlb x y).mono ?_;rintro e w' ⟨rfl,b1⟩))
 all_goals go_ret
 all_goals try refine⟨?_,zqo w _ _⟩
 all_goals try refine⟨?_,New.trans (zqo w _ _) (by assumption)⟩
 all_goals
  rw[<-HO.out];have Z:=Z.out;clear x0 x1 x2 x3 x4 y0 y1 y2 HO;simp_all[zaf]
 ·by_cases h1:n=1<;> simp[*]
 ·omega
end Go.Proofs.Y
namespace Go.Hm
open Go Go.RowKit
inductive Plan3 where
 |done
 |quiet (i:Nat) (p:Plan3)
 |alone (i:Nat) (p:Plan3)
 |two (i:Nat) (p:Plan3) (j:Nat) (q:Plan3)
 |three (i:Nat) (p:Plan3) (j:Nat) (q:Plan3) (k:Nat) (r:Plan3)
section
variable{P:Program}{ops:Array Oper}{Q:Exit->Act->World->Prop}
def Plan3.ok(ops:Array Oper):Array Bool->Plan3->Bool
 |listed,.done=>(Region.ready .any ops listed).isEmpty
 |listed,.quiet i p=>(Region.ready .any ops listed).contains i&&(Region.free .any ops listed i&&p.ok ops (listed.setIfInBounds i true))
 |listed,.alone i p=>decide (Region.ready .any ops listed=[i])&&p.ok ops (listed.setIfInBounds i true)
 |listed,.two i p j q=>decide (Region.ready .any ops listed=[i,j])&&(p.ok ops (listed.setIfInBounds i true)&&q.ok ops (listed.setIfInBounds j true))
 |listed,.three i p j q k r=>decide (Region.ready .any ops listed=[i,j,k])&&(p.ok ops (listed.setIfInBounds i true)&&(q.ok ops (listed.setIfInBounds j true)&&r.ok ops (listed.setIfInBounds k true)))
def Plan3.size:Plan3->Nat
 | .done=>0
 | .quiet _ p=>p.size+1
 | .alone _ p=>p.size+1
 | .two _ p _ q=>Nat.max p.size q.size+1
 | .three _ p _ q _ r=>Nat.max p.size (Nat.max q.size r.size)+1
def zep(P:Program)(ops:Array Oper)(R:World->World->Prop)(Q:Exit->Act->World->Prop)(i:Nat)(K:Act->World->Prop)(a:Act)(w:World):Prop:=
 ∃o,ops[i]? =some o/\if Region.wanted o (yielded ops a.tmps) then o.wp P a w (fun a' w'=>R w w'/\K a' w') (NoPanic Q) else K (a.put o.dst undef) w
def zcj(P:Program)(ops:Array Oper)(R:World->World->Prop)(Q:Exit->Act->World->Prop):Plan3->Act->World->Prop
 | .done,a,w=>Q .normal a w
 | .quiet i p,a,w=>∃o v,ops[i]? =some o/\((Region.wanted o (yielded ops a.tmps)=true/\ ∀w',R w w'->(execOp a.eval o).run P w'= .ok (.value v) w')\/(Region.wanted o (yielded ops a.tmps)=false/\v=undef))/\zcj P ops R Q p (a.put o.dst v) w
 | .alone i p,a,w=>zep P ops R Q i (zcj P ops R Q p) a w
 | .two i p j q,a,w=>zep P ops R Q i (zcj P ops R Q p) a w/\zep P ops R Q j (zcj P ops R Q q) a w
 | .three i p j q k r,a,w=>zep P ops R Q i (zcj P ops R Q p) a w/\(zep P ops R Q j (zcj P ops R Q q) a w/\zep P ops R Q k (zcj P ops R Q r) a w)
variable{R:World->World->Prop}
theorem zpr(hrefl:∀w,R w w)(htrans:∀{x y z},R x y->R y z->R x z)(hs:Region.noSelect ops=true):
 ∀(p:Plan3) (fuel:Nat) (listed:Array Bool) (a:Act) (w:World),p.size<=fuel->p.ok ops listed=true->zcj P ops R Q p a w->wpAnyH P .any ops (NoPanic Q) (R w) fuel listed a w:=by
 have key:∀(p:Plan3),(∀(fuel:Nat) (listed:Array Bool) (a:Act) (w:World),p.size<=fuel->p.ok ops listed=true->zcj P ops R Q p a w->wpAnyH P .any ops (NoPanic Q) (R w) fuel listed a w)->
  ∀(j:Nat) (fuel:Nat) (listed:Array Bool) (a:Act) (w:World),p.size<=fuel->p.ok ops (listed.setIfInBounds j true)=true->zep P ops R Q j (zcj P ops R Q p) a w->
   wpOp P ops (NoPanic Q) j (fun a' w'=>R w w'/\wpAnyH P .any ops (NoPanic Q) (R w) fuel (listed.setIfInBounds j true) a' w') a w:=by
  intro p ih j fuel listed a w hl h3 hc;obtain⟨o,ho,hc⟩:=hc;unfold wpOp;simp only[ho];split
  ·rename_i hw
   rw[if_pos hw] at hc;exact .inl (Oper.wp_mono (fun a' w' hh=>⟨hh.1,zhi (fun z hz=>htrans hh.1 hz) fuel _ a' w' (ih fuel _ a' w' hl h3 hh.2)⟩) hc)
  ·rename_i hw
   rw[if_neg hw] at hc;exact⟨hrefl w,ih fuel _ _ w hl h3 hc⟩
 intro p;induction p with
 |done=>
  intro fuel listed a w _ hok h;exact wpAnyH_done (by simpa[Plan3.ok] using hok) (NoPanic.normal h) fuel
 |quiet i p ih=>
  intro fuel listed a w hl hok h;obtain⟨fuel,rfl⟩:∃k,fuel=k+1:=⟨fuel-1,by simp[Plan3.size] at hl;omega⟩;obtain⟨o,v,ho,hv,hr⟩:=h;simp only[Plan3.ok,Bool.and_eq_true] at hok;obtain⟨h1,h2,h3⟩:=hok;exact wpAnyH_take ho hs h2 h1 (fun _ _ _ hp=>hp) hv (hrefl w) (ih fuel _ _ w (by simp[Plan3.size] at hl;omega) h3 hr)
 |alone i p ih=>
  intro fuel listed a w hl hok h;obtain⟨fuel,rfl⟩:∃k,fuel=k+1:=⟨fuel-1,by simp[Plan3.size] at hl;omega⟩;simp only[Plan3.ok,Bool.and_eq_true,decide_eq_true_eq] at hok;obtain⟨h1,h3⟩:=hok;refine wpAnyH_all h1 (by simp) ?_;intro j hj;obtain rfl:j=i:=by simpa using hj
  exact key p ih j fuel listed a w (by simp[Plan3.size] at hl;omega) h3 h
 |two i p j q ihp ihq=>
  intro fuel listed a w hl hok h;obtain⟨fuel,rfl⟩:∃k,fuel=k+1:=⟨fuel-1,by simp[Plan3.size] at hl;omega⟩;simp only[Plan3.ok,Bool.and_eq_true,decide_eq_true_eq] at hok;obtain⟨h1,h3,h4⟩:=hok;have hl':Nat.max p.size q.size<=fuel:=by simp[Plan3.size] at hl;exact hl
  refine wpAnyH_all h1 (by simp) ?_;intro k hk;have hk:k=i\/k=j:=by simpa using hk
  rcases hk with rfl|rfl
  ·exact key p ihp k fuel listed a w (Nat.le_trans (Nat.le_max_left _ _) hl') h3 h.1
  ·exact key q ihq k fuel listed a w (Nat.le_trans (Nat.le_max_right _ _) hl') h4 h.2
 |three i p j q l r ihp ihq ihr=>
  intro fuel listed a w hl hok h;obtain⟨fuel,rfl⟩:∃k,fuel=k+1:=⟨fuel-1,by simp[Plan3.size] at hl;omega⟩;simp only[Plan3.ok,Bool.and_eq_true,decide_eq_true_eq] at hok;obtain⟨h1,h3,h4,h5⟩:=hok;have hl':Nat.max p.size (Nat.max q.size r.size)<=fuel:=by simp[Plan3.size] at hl;exact hl
  refine wpAnyH_all h1 (by simp) ?_;intro k hk;have hk:k=i\/k=j\/k=l:=by simpa using hk
  rcases hk with rfl|rfl|rfl
  ·exact key p ihp k fuel listed a w (Nat.le_trans (Nat.le_max_left _ _) hl') h3 h.1
  ·exact key q ihq k fuel listed a w (Nat.le_trans (Nat.le_trans (Nat.le_max_left _ _) (Nat.le_max_right _ _)) hl') h4 h.2.1
  ·exact key r ihr k fuel listed a w (Nat.le_trans (Nat.le_trans (Nat.le_max_right _ _) (Nat.le_max_right _ _)) hl') h5 h.2.2
theorem ziv{id:Nat}{a:Act}{w:World}(R:World->World->Prop)(p:Plan3)(hrefl:∀w,R w w)(htrans:∀{x y z},R x y->R y z->R x z)(hm:P.follows .mixedOrders=true)
 (hs:Region.noSelect ops=true)(hl:decide (p.size<=ops.size)=true)(hok:p.ok ops (Array.replicate ops.size false)=true)(h:zcj P ops R Q p a w.drew):(Code.region id ops true).wp P Q a w:=
 wp_region_noPanic (wp_region_held hm (zpr hrefl htrans hs p ops.size _ a _ (by simpa using hl) hok h))
variable{i j:Nat}{p q:Plan3}{a:Act}{w:World}{v:Value}
theorem zeg(h:Q .normal a w):zcj P ops R Q .done a w:=h
section
variable{dst:Option Tmp}{op:Op}{ty:TypeId}{pos:String}{af:Array Edge}{gd:Option (Nat × Bool)}
theorem zc2(ho:ops[i]? =some ⟨dst,op,ty,pos,af,gd⟩)(hw:Region.wanted ⟨dst,op,ty,pos,af,gd⟩ (yielded ops a.tmps)=true)(hv:∀w',R w w'->(execOp a.eval ⟨dst,op,ty,pos,af,gd⟩).run P w'= .ok (.value v) w')(h:zcj P ops R Q p (a.put dst v) w):zcj P ops R Q (.quiet i p) a w:=
 ⟨_,v,ho,.inl ⟨hw,hv⟩,h⟩
theorem zbn{K0:Act->World->Prop}(ho:ops[i]? =some ⟨dst,op,ty,pos,af,gd⟩)(hw:Region.wanted ⟨dst,op,ty,pos,af,gd⟩ (yielded ops a.tmps)=true)(h:∀K:Act->World->Prop,(∀a' w',R w w'->K0 a' w'->K a' w')->Oper.wp P ⟨dst,op,ty,pos,af,gd⟩ a w K (NoPanic Q)):zep P ops R Q i K0 a w:=
 ⟨_,ho,by rw[if_pos hw];exact h _ fun _ _ h1 h2=>⟨h1,h2⟩⟩
theorem zbo(h:zep P ops R Q i (zcj P ops R Q p) a w):zcj P ops R Q (.alone i p) a w:=h
theorem zk4(h:zep P ops R Q i (zcj P ops R Q p) a w)(h2:zep P ops R Q j (zcj P ops R Q q) a w):zcj P ops R Q (.two i p j q) a w:=⟨h,h2⟩
theorem zyl{k:Nat}{r:Plan3}(h:zep P ops R Q i (zcj P ops R Q p) a w)(h2:zep P ops R Q j (zcj P ops R Q q) a w)(h3:zep P ops R Q k (zcj P ops R Q r) a w):zcj P ops R Q (.three i p j q k r) a w:=⟨h,h2,h3⟩
end
end
end Go.Hm
