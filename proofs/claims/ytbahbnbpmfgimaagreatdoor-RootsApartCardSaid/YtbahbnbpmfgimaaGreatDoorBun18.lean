/- Merged. -/
import Derived.Test.YtbahbnbpmfgimaaGreatDoorBun17
set_option maxHeartbeats 2000000
namespace Go.Hm
open Go Go.RowKit
def lenOf:Value->Nat
 | .slice _ n _=>n
 |_=>0
end Go.Hm
namespace Go.Proofs.Y
open Go.RowKit Go.Hm
end Go.Proofs.Y
namespace Go.Hm
open Go Go.RowKit
def zt9(M:List Nat)(k:Nat):List Nat:=(M.drop (64*k)).take 64
def zgv(M:List Nat):Nat->S8
 |0=>zjt
 |k+1=>z1o (zgv M k) (zt9 M k)
theorem zzd(M:List Nat)(k:Nat):OkS (zgv M k):=by
 cases k with
 |zero=>exact z40
 |succ k=>exact qal _ _
theorem zze{M:List Nat}{k:Nat}(h:64*k+64<=M.length):(zt9 M k).length=64:=by unfold zt9;rw[List.length_take,List.length_drop];omega
theorem z44{M:List Nat}{k:Nat}(h:∀x∈M,x<256):∀x∈zt9 M k,x<256:=fun x hx=>h x (List.mem_of_mem_drop (List.mem_of_mem_take hx))
def zfj(l:List Nat):List Nat:=l++zt7 l.length
theorem qfk{l:List Nat}(h:∀x∈l,x<256):∀x∈zfj l,x<256:=by
 intro x hx;rcases List.mem_append.1 hx with hx|hx
 ·exact h x hx
 ·exact qfh _ x hx
theorem zzf(l:List Nat):(zfj l).length=l.length+(zt7 l.length).length:=by simp[zfj]
theorem qap(l:List Nat):(zfj l).length%64=0:=by rw[zzf];exact qan _
theorem z45{l:List Nat}{k:Nat}(h:64*k+64<=l.length):zt9 (zfj l) k=(l.drop (64*k)).take 64:=by unfold zt9 zfj;rw[List.drop_append_of_le_length (by omega),List.take_append_of_le_length (by rw[List.length_drop];omega)]
def zua(l:List Nat):S8:=zgv (zfj l) ((zfj l).length/64)
def zub(s:S8):List Int:=[s.1,s.2.1,s.2.2.1,s.2.2.2.1,s.2.2.2.2.1,s.2.2.2.2.2.1,s.2.2.2.2.2.2.1,s.2.2.2.2.2.2.2]
theorem zuc(s:S8):zbu s=(za0 .u32 (zub s)).toArray:=rfl
def qhv(s:S8)(k:Nat):Int:=(zub s).getD (k/4) 0/2^(24-k%4*8)%256
def zud(s:S8):List Int:=(List.range 32).map (qhv s)
def sumI(l:List Nat):List Int:=zud (zua l)
theorem zgj(s:S8):(zud s).length=32:=by simp[zud]
theorem z47{s:S8}{k:Nat}(hk:k<32):(zud s).take (k+1)=(zud s).take k++[qhv s k]:=by
 rw[zac _ k 0 (by rw[zgj];exact hk)];congr 1
 simp[zud,hk]
def zsd(l:List Int):List Int:=l++List.replicate (32-l.length) 0
theorem z48{l:List Int}(h:l.length<=32):(zsd l).length=32:=by simp[zsd];omega
theorem z49{l:List Int}(h:l.length<32)(x:Int):(zsd l).set l.length x=zsd (l++[x]):=by unfold zsd;rw[List.set_append_right _ _ (Nat.le_refl _),Nat.sub_self,show 32-l.length=(32-(l++[x]).length)+1 by simp;omega,List.replicate_succ,List.set_cons_zero];simp
theorem z1q{l:List Int}(h:l.length=32):zsd l=l:=by simp[zsd,h]
section
variable{P:Program}{w:World}{a:Act}{dst:Option Tmp}{tt:TypeId}{pos:String}{af:Array Edge}{gd:Option (Nat × Bool)}
theorem zdu{ty t:TypeId}{x:Operand}{g:Nat}{cs:Array Value}{d:TypeDesc}(hx:a.eval x= .pointer (some ⟨g,0,none⟩))(B:Blk w g t cs)(hu:P.underlying ty=some d)(hd:d.isRow=true)(hi:(P.info? ty).map (·.size)=some cs.size):
 (execOp a.eval ⟨dst,.load ty x,tt,pos,af,gd⟩).run P w= .ok (.value (.agg cs)) w:=by
 unfold execOp;simp only[hx,Instr.loadAt,Instr.sureAddr,Sem.run_bind,Sem.run_pure,Result.andThen_ok,run_loadVar_row w g t ty cs (0,0) d B hu (by cases d<;> simp_all[TypeDesc.isRow]) hi]
theorem zju(w:World)(ad:Addr)(ty:TypeId)(cs:List Value)(d:TypeDesc)(hc:∀j v,cs[j]? =some v->w.cell? (ad.add j)=some v)
 (hu:P.underlying ty=some d)(hd:d.isRow=true)(hi:(P.info? ty).map (·.size)=some cs.length):
 (loadVar ty ad).run P w= .ok (.agg cs.toArray) w:=by
 have hl:(loadCells ad cs.length).run P w= .ok cs.toArray w:=run_loadCells_list (P:=P) w ad cs hc;cases hq:P.info? ty with
 |none=>simp[hq] at hi
 |some i=>
  have hs:i.size=cs.length:=by simpa[hq] using hi
  have hagg:(isAgg ty).run P w= .ok true w:=by unfold isAgg;rw[Sem.run_bind,run_underlying hu w];cases d<;> simp_all
  simp[loadVar,Sem.run_bind,hagg,sizeOf,typeInfo,hq,hs,hl]
theorem zmr{ty:TypeId}{x:Operand}{ad:Addr}{cs:List Value}{d:TypeDesc}(hx:a.eval x= .pointer (some ad))(hc:∀j v,cs[j]? =some v->w.cell? (ad.add j)=some v)(hu:P.underlying ty=some d)(hd:d.isRow=true)(hi:(P.info? ty).map (·.size)=some cs.length):
 (execOp a.eval ⟨dst,.load ty x,tt,pos,af,gd⟩).run P w= .ok (.value (.agg cs.toArray)) w:=by
 unfold execOp;simp only[hx,Instr.loadAt,Instr.sureAddr,Sem.run_bind,Sem.run_pure,Result.andThen_ok,zju w ad ty cs d hc hu hd hi]
theorem zms{arr e:TypeId}{x:Operand}{n len cap:Nat}{A:Option Addr}(hx:a.eval x= .slice A len cap)(h:P.underlying arr=some (.array n e))(hn:n<=len):
 (execOp a.eval ⟨dst,.sliceToArrayPointer arr x,tt,pos,af,gd⟩).run P w= .ok (.value (.pointer A)) w:=by
 unfold execOp;simp only[hx,Sem.run_bind,run_arrayAt w arr e n A len cap h hn,Result.andThen_ok,Sem.run_pure]
theorem zlv{t:TypeId}{x:Operand}{lo hi mx:Option Operand}{v:Value}(hv:(Instr.sliceAt t (a.eval x) (lo.map a.eval) (hi.map a.eval) (mx.map a.eval)).run P w= .ok v w):
 (execOp a.eval ⟨dst,.slice t x lo hi mx,tt,pos,af,gd⟩).run P w= .ok (.value v) w:=by
 unfold execOp;simp only[Sem.run_bind,hv,Result.andThen_ok,Sem.run_pure]
theorem zmt{ops:Array Oper}{rest:List Oper}{o:Oper}{Q:Exit->Act->World->Prop}(hgd:o.guard=none)(t:TypeId)(x:Operand)(lo hi mx:Option Operand)(ho:o.op= .slice t x lo hi mx){v:Value}
 (hv:(Instr.sliceAt t (a.eval x) (lo.map a.eval) (hi.map a.eval) (mx.map a.eval)).run P w= .ok v w)(h:wpList P ops Q rest (a.put o.dst v) w):wpList P ops Q (o::rest) a w:=by
 refine wpList_plain hgd fun K hK=>?_
 unfold Oper.wp execOp;simp only[ho,Sem.run_bind,hv,Result.andThen_ok,Sem.run_pure];exact hK _ _ h
end
end Go.Hm
namespace Go.Proofs.Y
open Go.RowKit Go.Hm Go.WideShapes Go.ChangeShapes Go.Deep
theorem CellFine.data{c:zab}(h:CellFine c):zaq c:=⟨h.1,h.2.1⟩
section
variable{H:Type}{enc:TypeId × Value->H}{W:World}{base:Nat}{v:Value}{d:DataW H}{ps:List MemPlace}
end
end Go.Proofs.Y
namespace Go.Hm
open Go Go.RowKit
def ztn(S:St):zbc × St:=
 (((zer ((lenS 100 S).1:Int) (lenS 100 S).2).1,((zcc (zer ((lenS 100 S).1:Int) (lenS 100 S).2).2).1:Int),decide ((zcc (zcc (zer ((lenS 100 S).1:Int) (lenS 100 S).2).2).2).1=1)),
   if 1<(zcc (zcc (zer ((lenS 100 S).1:Int) (lenS 100 S).2).2).2).1 then none else(zcc (zcc (zer ((lenS 100 S).1:Int) (lenS 100 S).2).2).2).2)
def zel:Nat->St->List zbc × St
 |0,S=>([],S)
 |n+1,S=>((ztn S).1::(zel n (ztn S).2).1,(zel n (ztn S).2).2)
theorem zyh{S:St}(h:S.ok):(ztn S).2.ok:=by
 unfold ztn;simp only;split
 ·exact St.ok_none
 ·exact zsr (zsr (zi8 (zbz h)).1)
theorem z0p:∀(n:Nat) {S:St},S.ok->(zel n S).2.ok
 |0,_,h=>h
 |n+1,_,h=>z0p n (zyh h)
theorem zlk:∀(n:Nat) (S:St),(zel n S).1.length=n
 |0,_=>rfl
 |n+1,S=>by rw[zel,List.length_cons,zlk n]
theorem zrk:∀(n:Nat) (S:St),(zel (n+1) S).1=(zel n S).1++[(ztn (zel n S).2).1]/\(zel (n+1) S).2=(ztn (zel n S).2).2
 |0,S=>⟨rfl,rfl⟩
 |n+1,S=>by
  obtain⟨h1,h2⟩:=zrk n (ztn S).2;refine⟨?_,h2⟩;rw[zel,h1];rfl
def z8b(c:zbc):Prop:=(∀x∈c.1,x<256)/\c.1.length<=100
theorem zvt{S:St}(h:S.ok):z8b (ztn S).1:=by refine⟨(zi8 (zbz h)).2,?_⟩;have h1:=zot (n:=((lenS 100 S).1:Int)) (S:=(lenS 100 S).2) (by omega);have h2:=zdg (m:=100) S (by omega) h;unfold ztn;simp only;omega
theorem zrl:∀(n:Nat) {S:St},S.ok-> ∀c∈(zel n S).1,z8b c
 |0,_,_,c,hc=>by simp[zel] at hc
 |n+1,S,h,c,hc=>by
  rw[zel,List.mem_cons] at hc;rcases hc with rfl|hc
  ·exact zvt h
  ·exact zrl n (zyh h) c hc
def getC(S:St):List zbc × St:=
 if(zel (lenS 64 S).1 (lenS 64 S).2).2=none\/ ¬zcy (zel (lenS 64 S).1 (lenS 64 S).2).1=0 then([],none) else zel (lenS 64 S).1 (lenS 64 S).2
open Go Go.RowKit
section
variable{P:Program}{ops:Array Oper}{rest:List Oper}{o:Oper}{a:Act}{Q:Exit->Act->World->Prop}
theorem qc6(z:Value)(hz1:z.oneCell'=true)(n:Nat):madeCells z.cells n=(List.replicate n z).toArray:=by
 have hzc:z.cells= #[z]:=by
  revert hz1;unfold Value.oneCell' Value.cells
  cases z<;> simp
 rw[hzc];apply Array.toList_inj.1;rw[toList_madeCells_one]
theorem z8o{w:World}{t e:TypeId}{z:Value}{bytes:Nat}(E:ElT P t e z 1 bytes){kl kc:IntKind}(n:Nat)(hz1:z.oneCell'=true)(hn:n*bytes<=140737488355328)(hm:n<=maxLen):
 (Instr.makeSlice t (.int kl (n:Int)) (.int kc (n:Int))).run P w= .ok (.slice (some ⟨w.heap.size,0,none⟩) n n) (w.alloc (.cells (List.replicate n z).toArray e)):=by
 obtain⟨i,hi,hz0,hs1,hb1⟩:=info_parts E.hi;have hmC:(n:Int)<=9223372036854775807:=by have h:=hm;simp only[maxLen] at h;omega
 have hbC:(i.bytes:Int)*(n:Int)<=281474976710656:=by
  have h:((i.bytes*n:Nat):Int)<=281474976710656:=by rw[hb1,Nat.mul_comm];omega
  rwa[Int.natCast_mul] at h
 have hrun:=run_make (P:=P) w t e i z E.ht hi hz0 kl kc (n:Int) (n:Int) (by omega) (by omega) hbC hmC;rw[Int.toNat_natCast,hs1,Nat.mul_one,qc6 z hz1] at hrun;exact hrun
theorem zmg{w:World}{t e:TypeId}{z:Value}{bytes:Nat}(E:ElT P t e z 1 bytes)(hgd:o.guard=none)(lo co:Operand)(ho:o.op=Op.makeSlice t lo co)
 {kl kc:IntKind}{L C:Int}(n:Nat)(hl:a.eval lo= .int kl L)(hc:a.eval co= .int kc C)(hL:L=(n:Int))(hC:C=(n:Int))
 (hz1:z.oneCell'=true)(hn:n*bytes<=140737488355328)(hm:n<=maxLen)
 (h:∀w',Blk w' w.heap.size e (List.replicate n z).toArray->New w w'->w'.heap.size=w.heap.size+1->wpList P ops Q rest (a.put o.dst (.slice (some ⟨w.heap.size,0,none⟩) n n)) w'):
 wpList P ops Q (o::rest) a w:=by
 subst hL hC;have hrun:=z8o (w:=w) E (kl:=kl) (kc:=kc) n hz1 hn hm;refine wpList_plain hgd fun K hK=>?_
 unfold Oper.wp;simp[execOp,ho,hl,hc,hrun,Result.andThen];exact hK _ _ (h _ (by simpa using Blk.new w e (List.replicate n z).toArray) ((Below.refl _ _).alloc (Nat.le_refl _) _) (by simp))
theorem z8p{w:World}{K:Act->World->Prop}{t e:TypeId}{z:Value}{bytes:Nat}(E:ElT P t e z 1 bytes)(lo co:Operand)(ho:o.op=Op.makeSlice t lo co)
 {kl kc:IntKind}{L C:Int}(n:Nat)(hl:a.eval lo= .int kl L)(hc:a.eval co= .int kc C)(hL:L=(n:Int))(hC:C=(n:Int))
 (hz1:z.oneCell'=true)(hn:n*bytes<=140737488355328)(hm:n<=maxLen)
 (h:∀w',Blk w' w.heap.size e (List.replicate n z).toArray->New w w'->w'.heap.size=w.heap.size+1->K (a.put o.dst (.slice (some ⟨w.heap.size,0,none⟩) n n)) w'):
 o.wp P a w K Q:=by
 subst hL hC;have hrun:=z8o (w:=w) E (kl:=kl) (kc:=kc) n hz1 hn hm;unfold Oper.wp;simp[execOp,ho,hl,hc,hrun,Result.andThen];exact h _ (by simpa using Blk.new w e (List.replicate n z).toArray) ((Below.refl _ _).alloc (Nat.le_refl _) _) (by simp)
theorem z3k{w:World}{ty t:TypeId}{g i:Nat}{u:Value}{cs:Array Value}(hB:Blk w g t cs)(hlt:i<cs.size)(hi:(P.info? ty).map (·.size)=some 1)(h1:u.oneCell'=true):
 (storeVar ty ⟨g,i,none⟩ u).run P w= .ok () (w.setCell ⟨g,i,none⟩ u):=by
 have hc:u.cells= #[u]:=by cases u<;> first|rfl|cases h1
 have:=run_storeCells_cells (P:=P) g i [u] 0 w (fun j hj=>by
  obtain rfl:j=0:=by simpa using hj
  rw[hB.cell,Nat.add_zero,Array.getElem?_eq_getElem hlt];rfl) (fun j hj=>hB.frozen _) (fun v hv=>by simp at hv;subst hv;exact h1)
 cases hq:P.info? ty with
 |none=>simp[hq] at hi
 |some x=>
  have hs:x.size=1:=by simpa[hq] using hi
  simp only[Nat.add_zero] at this;simp[storeVar,sizeOf,typeInfo,hq,hc,hs,this];rfl
theorem zlo{w:World}{K:Act->World->Prop}(ty:TypeId)(x y:Operand)(ho:o.op= .store ty x y)
 (g i:Nat)(u:Value)(hx:a.eval x= .pointer (some ⟨g,i,none⟩))(hy:a.eval y=u){t:TypeId}{cs:Array Value}(hB:Blk w g t cs)(hlt:i<cs.size)(hi:(P.info? ty).map (·.size)=some 1)(h1:u.oneCell'=true)
 (h:∀W,Blk W g t (cs.setIfInBounds i u)->w.grownBy W (some g)->W.heap.size=w.heap.size->K (a.put o.dst undef) W):o.wp P a w K Q:=by
 unfold Oper.wp execOp;simp only[ho,hx,hy,Instr.storeAt,Instr.sureAddr,Sem.run_bind,Sem.run_pure,Result.andThen_ok,z3k hB hlt hi h1];refine h _ (hB.set_ i u) ⟨rfl,rfl,rfl,by simp[World.setCell],fun k _ hne=>Below.heap_setCell _ _ _ _ (fun e=>hne (by rw[e]))⟩ (by simp[World.setCell])
theorem zeu{w:World}(hgd:o.guard=none)(ty:TypeId)(x y:Operand)(ho:o.op= .store ty x y)
 (g i:Nat)(u:Value)(hx:a.eval x= .pointer (some ⟨g,i,none⟩))(hy:a.eval y=u){t:TypeId}{cs:Array Value}(hB:Blk w g t cs)(hlt:i<cs.size)(hi:(P.info? ty).map (·.size)=some 1)(h1:u.oneCell'=true)
 (h:∀W,Blk W g t (cs.setIfInBounds i u)->w.grownBy W (some g)->W.heap.size=w.heap.size->wpList P ops Q rest (a.put o.dst undef) W):wpList P ops Q (o::rest) a w:=
 wpList_plain hgd fun _ hK=>zlo ty x y ho g i u hx hy hB hlt hi h1 (fun W b g s=>hK _ _ (h W b g s))
end
open Go Go.RowKit
theorem qex{w:World}{g:Nat}{ty:TypeId}{x y a b:Value}(h:Blk w g ty #[x,y]):Blk ((w.setCell ⟨g,0,none⟩ a).setCell ⟨g,1,none⟩ b) g ty #[a,b]:=by simpa using((h.set_ 0 a).set_ 1 b)
theorem zpx{g i:Nat}(u:Value)(w:World):Far g w (w.setCell ⟨g,i,none⟩ u):=
 ⟨rfl,rfl,rfl,by simp[World.setCell],fun k _ hne=>Below.heap_setCell _ _ _ _ (by rintro rfl;exact hne rfl)⟩
theorem z0u{g:Nat}(a b:Value)(w:World):Far g w ((w.setCell ⟨g,0,none⟩ a).setCell ⟨g,1,none⟩ b):=Far.trans (zpx a w) (zpx b _)
end Go.Hm
namespace Go.Proofs.Y
open Go.RowKit Go.Hm
set_option maxRecDepth 100000 in
theorem qiv{w:World}{x y:Int}{a b:Nat}(h:z2s x y a b)(hx: -9223372036854775808<=x/\x<=9223372036854775807)(hy: -9223372036854775808<=y/\y<=9223372036854775807):
 Calls Tryz.prog 212 #[.complex .f64 a b] w (zal (.agg #[.int .i64 x,.int .i64 y]) w):=by
 have f1:=fun w:World=>run_convert_float_int (P:=Tryz.prog) w 264 3 .f64 .i64 a _ (by kernel_rfl) (by kernel_rfl) (zx8 h.1 hx)
 have f2:=fun w:World=>run_convert_float_int (P:=Tryz.prog) w 264 3 .f64 .i64 b _ (by kernel_rfl) (by kernel_rfl) (zx8 h.2 hy)
 have b0:New w (w.alloc (.cells #[.int .i64 x,.int .i64 y] 73)):=(Below.refl _ _).alloc (Nat.le_refl _) _;obtain⟨s0,s1⟩:=zbw (Blk.new w 73 #[.int .i64 x,.int .i64 y]);clear h hx hy;go_enter Tryz.func212,Tryz.ntmps212
 go_wp2
 exact bodyPost_ret (v:= .agg #[.int .i64 x,.int .i64 y]) (by simp[results,Tryz.results212,go_sem,s0,s1]) rfl ⟨rfl,b0⟩
set_option maxRecDepth 100000 in
theorem qdg{w:World}{x y u v:Int}(hx: -2097152<=x/\x<=2097152)(hy: -2097152<=y/\y<=2097152)(hu: -2097152<=u/\u<=2097152)(hv: -2097152<=v/\v<=2097152):
 Calls Tryz.prog 208 #[.agg #[.int .i64 x,.int .i64 y],.agg #[.int .i64 u,.int .i64 v]] w (zal (.agg #[.int .i64 (x-u),.int .i64 (y-v)]) w):=by
 obtain⟨W0,hW0⟩:∃W,W=((w.alloc (.cells #[.int .i64 x,.int .i64 y] 73)).alloc (.cells #[.int .i64 u,.int .i64 v] 73)).alloc (.cells #[.int .i64 0,.int .i64 0] 73):=⟨_,rfl⟩;have b0:New w W0:=by rw[hW0];exact(((Below.refl _ _).alloc (Nat.le_refl _) _).alloc (by simp) _).alloc (by simp;omega) _
 have e1:(w.alloc (.cells #[.int .i64 x,.int .i64 y] 73)).heap.size=w.heap.size+1:=by simp
 have e2:((w.alloc (.cells #[.int .i64 x,.int .i64 y] 73)).alloc (.cells #[.int .i64 u,.int .i64 v] 73)).heap.size=w.heap.size+1+1:=by simp
 have A0:Blk W0 w.heap.size 73 #[.int .i64 x,.int .i64 y]:=by rw[hW0];exact((Blk.new _ _ _).alloc _).alloc _
 have B0:Blk W0 (w.heap.size+1) 73 #[.int .i64 u,.int .i64 v]:=by rw[hW0,<-e1];exact(Blk.new _ _ _).alloc _
 have C0:Blk W0 (w.heap.size+1+1) 73 #[.int .i64 0,.int .i64 0]:=by rw[hW0,<-e2];exact Blk.new _ _ _
 have F:=Hz (fun(W:World) (hW:Far (w.heap.size+1+1) W0 W)=>And.intro (zbw (A0.grown hW (by simp;omega))) (zbw (B0.grown hW (by simp))));have HC:=Hz C0;have HW:=Hz hW0;have HB:=Hz b0;have P1:=Hz (fun(W:World)=>zl7 (w:=W) (x:=x) (y:=y) (by omega) (by omega));have P2:=Hz (fun(W:World)=>zl7 (w:=W) (x:=u) (y:=v) (by omega) (by omega));have P3:=Hz (fun(W:World) (a b c d:Nat) (h1:z2s x y a b) (h2:z2s u v c d)=>show∃re im,cSumBits .sub .f64 a b c d=some (re,im)/\ ∀W:World,Calls Tryz.prog 212 #[.complex .f64 re im] W (zal (.agg #[.int .i64 (x-u),.int .i64 (y-v)]) W) by obtain⟨re,im,k1,k2⟩:=qck h1 h2 (by omega) (by omega);exact⟨re,im,k1,fun W=>qiv k2 (by omega) (by omega)⟩)
 generalize x-u=rx at*;generalize y-v=ry at*;clear A0 B0 C0 hW0 b0 e1 e2 hx hy hu hv;go_enter Tryz.func208,Tryz.ntmps208
 go_wp2_with fail
 rw[<-HW.out];refine zaw (Far (w.heap.size+1+1)) [(true,0),(true,2),(false,1),(false,3),(true,4),(false,5),(false,6)]
  (Far.refl _) Far.trans (by kernel_rfl) (by kernel_rfl) (by kernel_rfl) (by kernel_rfl) ?_
 have hN:=New.drew W0;iterate 2 (
  refine zar rfl rfl (v:=?_) (fun W hW=>?_) ?_;rotate_left
  ·obtain⟨⟨x0,x1⟩,⟨y0,y1⟩⟩:=F.out W (Far.trans (Far.of_new hN) hW)
   go_simp<;> with_reducible rfl
  simp only[Act.put,List.setIfInBounds_toArray,List.set_cons_zero,List.set_cons_succ])
 refine za7 rfl rfl (fun K hK=>?_);go_simp
 (with_reducible refine(P1.out _).mono ?_)
 rintro e w1 ⟨a,b,rfl,hr1,c1⟩;refine hK _ _ (Far.of_new c1) ?_;clear hK;replace hN:=New.trans hN c1;refine za7 rfl rfl (fun K hK=>?_);go_simp
 (with_reducible refine(P2.out _).mono ?_)
 rintro e w2 ⟨c,d,rfl,hr2,c2⟩;refine hK _ _ (Far.of_new c2) ?_;clear hK;replace hN:=New.trans hN c2;obtain⟨re,im,k1,k2⟩:=P3.out w2 a b c d hr1 hr2;have K2:=Hz k2;have m:=fun w:World=>run_complex_sum (P:=Tryz.prog) w .sub (.inr rfl) 262 .f64 a b c d re im k1
 clear k1 k2 hr1 hr2 P1 P2 P3;refine zar rfl rfl (v:=?_) (fun W hW=>?_) ?_;rotate_left
 ·go_simp<;> with_reducible rfl
 simp only[Act.put,List.setIfInBounds_toArray,List.set_cons_zero,List.set_cons_succ];clear m;refine za7 rfl rfl (fun K hK=>?_);go_simp
 (with_reducible refine(K2.out _).mono ?_)
 rintro e w3 ⟨rfl,c3⟩;refine hK _ _ (Far.of_new c3) ?_;clear hK;replace hN:=New.trans hN c3;have C3:=HC.out.below hN HC.out.lt;obtain⟨z0,z1⟩:=zbw C3;have f0:=C3.frozen 0;have f1:=C3.frozen 1;have S3:=Hz (qex C3 (a:= .int .i64 rx) (b:= .int .i64 ry));have hF:=z0u (g:=w.heap.size+1+1) (.int .i64 rx) (.int .i64 ry) w3;clear C3;refine za7 rfl rfl (fun K hK=>?_);go_simp
 refine hK _ _ hF ?_;clear hK z0 z1 f0 f1;refine zdh ?_;obtain⟨s0,s1⟩:=zbw S3.out;have bE:=New.far HB.out (Far.trans (Far.of_new hN) hF) (by omega);clear hF S3;go_wp2
 exact bodyPost_ret (v:= .agg #[.int .i64 rx,.int .i64 ry]) (by simp[results,Tryz.results208,go_sem,s0,s1]) rfl ⟨rfl,bE⟩
end Go.Proofs.Y
namespace Go.Hm
open Go Go.RowKit
inductive Ev where
 |among (lo hi:Nat)
 |beside (lo hi:Nat)
 |node
open Go.RowKit
section
variable{P:Program}{ops:Array Oper}{Q:Exit->Act->World->Prop}{md:Region.Mode}{S:World->Prop}{t0:Nat}
def Closed(md:Region.Mode)(ops:Array Oper)(listed:Array Bool):Prop:=∀p op,ops[p]? =some op->listed.getD p false=true-> ∀e∈op.after,Region.binds md e=true->listed.getD e.on false=true
theorem Closed.set_{listed:Array Bool}{j:Nat}(h:Closed md ops listed)(hj:j∈Region.ready md ops listed):Closed md ops (listed.setIfInBounds j true):=by
 intro p op hp hl e he hb;obtain⟨_,oj,hoj,hall⟩:=mem_ready.1 hj;by_cases hpj:p=j
 ·subst hpj
  rw[hoj] at hp;injection hp with hp;subst hp;exact zb4 (hall e he hb)
 ·rw[zgu (Ne.symm hpj)] at hl
  exact zb4 (h p op hp hl e he hb)
variable{R:World->World->Prop}
end
end Go.Hm
