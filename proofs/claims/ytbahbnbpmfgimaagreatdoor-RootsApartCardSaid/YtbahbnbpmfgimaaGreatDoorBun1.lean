/- Merged. -/
import Derived.Deep.AppendLies
import Derived.Laws.CopyOwn
import Derived.Lib.Hide
import Derived.ProofKit
import Derived.WalkLawsBesides
import Derived.WalkSpells
set_option maxHeartbeats 200000
namespace Go
theorem Hz {p : Prop} (h : p) : Go.RowKit.Hid p := Go.Lib.hid h
end Go
namespace Go.Hm
open Go.RowKit
theorem zaj(a:Addr)(n:Nat):(a.add n).block=a.block:=by unfold Addr.add;split<;> rfl
theorem za9(a:Addr)(i j:Nat):(a.add i).add j=a.add (i+j):=by unfold Addr.add;by_cases hi:i=0<;> by_cases hj:j=0<;> simp[hi,hj,Nat.add_assoc]
theorem zfy(a:Addr):a.add 0=a:=by unfold Addr.add;simp
theorem zbe{B g:Nat}{a w w':World}(h:Below B a w)(hg:w.grownBy w' (some g))(hB:B<=g)(hBw:B<=a.heap.size):Below B a w':=
 h.grown hg (Nat.le_trans hBw h.size) (fun k hk=>by injection hk with hk;omega)
theorem zgy{a b c:World}{B:Nat}(h:Below B a b)(k:Below b.heap.size b c)(hB:B<=a.heap.size):Below B a c:=h.trans (k.mono (Nat.le_trans hB h.size))
def zao(k:IntKind)(l:List Nat):List Value:=l.map fun n:Nat=>Value.int k (n:Int)
theorem zaa(k:IntKind)(l:List Nat):(zao k l).length=l.length:=by simp[zao]
theorem zdk(k:IntKind)(l m:List Nat):zao k (l++m)=zao k l++zao k m:=by simp[zao]
theorem qag(k:IntKind)(n:Nat):zao k [n]=[.int k (n:Int)]:=rfl
theorem zd6(k:IntKind)(l:List Nat)(i:Nat):(zao k l).drop i=zao k (l.drop i):=by simp[zao]
theorem zen(k:IntKind)(l:List Nat)(i:Nat):(zao k l).take i=zao k (l.take i):=by simp[zao]
theorem zwx(k:IntKind)(l:List Nat)(i:Nat)(h:i<l.length):(zao k l)[i]? =some (.int k ((l.getD i 0:Nat):Int)):=by simp[zao,List.getElem?_eq_getElem h]
theorem zch(k:IntKind)(l:List Nat):∀u∈zao k l,u.oneCell'=true:=by intro u hu;simp only[zao,List.mem_map] at hu;obtain⟨z,_,rfl⟩:=hu;rfl
theorem zby(k:IntKind)(n x:Nat):zao k (List.replicate n x)=List.replicate n (.int k (x:Int)):=by simp[zao]
theorem qah(k:IntKind)(l:List Nat)(i x:Nat):(zao k l).set i (.int k (x:Int))=zao k (l.set i x):=by simp[zao]
def za0(k:IntKind)(l:List Int):List Value:=l.map (Value.int k)
theorem zhi(k:IntKind)(l:List Int):(za0 k l).length=l.length:=by simp[za0]
theorem zn1(k:IntKind)(l:List Int)(i:Nat)(h:i<l.length):(za0 k l)[i]? =some (.int k (l.getD i 0)):=by simp[za0,List.getElem?_eq_getElem h]
def Reads(w:World)(B size:Nat)(A:Option Addr)(n:Nat)(xs:List Value):Prop:=
 xs.length=n*size/\(0<n-> ∃ad,A=some ad/\ad.block<B/\ ∀j u,xs[j]? =some u->w.cell? (ad.add j)=some u)
section
variable{w w':World}{B B' size n:Nat}{A:Option Addr}{xs:List Value}
theorem Reads.none_:Reads w B size A 0 []:=⟨by simp,fun h=>absurd h (by omega)⟩
theorem Reads.at_{k:Nat}(h:Reads w B 1 A n xs)(hk:k<n):∃ad u,A=some ad/\ad.block<B/\xs[k]? =some u/\w.cell? (ad.add k)=some u:=by
 obtain⟨ad,e,hb,hc⟩:=h.2 (by omega);have hl:k<xs.length:=by have:=h.1;omega
 exact⟨ad,xs[k],e,hb,List.getElem?_eq_getElem hl,hc k _ (List.getElem?_eq_getElem hl)⟩
theorem Reads.keep(h:Reads w B size A n xs)(hk:∀p:Addr,p.block<B->w'.cell? p=w.cell? p):Reads w' B size A n xs:=
 ⟨h.1,fun hn=>by obtain⟨ad,e,hb,hc⟩:=h.2 hn;exact⟨ad,e,hb,fun j u hu=>(hk _ (by rw[zaj];exact hb)).trans (hc j u hu)⟩⟩
theorem Reads.more(h:Reads w B size A n xs)(hB:B<=B'):Reads w B' size A n xs:=
 ⟨h.1,fun hn=>by obtain⟨ad,e,hb,hc⟩:=h.2 hn;exact⟨ad,e,by omega,hc⟩⟩
theorem Reads.below(h:Reads w B size A n xs)(hb:Below B w w'):Reads w' B size A n xs:=h.keep fun _ hp=>hb.cell hp
theorem Reads.drew(h:Reads w B size A n xs):Reads w.drew B size A n xs:=h
theorem Reads.drewN(h:Reads w B size A n xs)(k:Nat):Reads (w.drewN k) B size A n xs:=h
theorem Reads.alloc(h:Reads w B size A n xs)(hB:B<=w.heap.size)(o:Obj):Reads (w.alloc o) B size A n xs:=h.keep fun p hp=>World.cell?_alloc_lt w o p (by omega)
theorem Reads.setCell(h:Reads w B size A n xs){p:Addr}(hB:B<=p.block)(u:Value):Reads (w.setCell p u) B size A n xs:=
 h.keep fun q hq=>World.cell?_setCell_other w p q u (fun e=>by subst e;omega)
theorem Reads.grown(h:Reads w B size A n xs){row:Option Nat}(hg:w.grownBy w' row)(hB:B<=w.heap.size)(hr:∀g,row=some g->B<=g):Reads w' B size A n xs:=
 h.keep fun p hp=>World.cell?_of_block (hg.block p.block (by omega) (fun e=>by have:=hr _ e.symm;omega))
theorem Reads.grown_far(h:Reads w w.heap.size size A n xs){row:Option Nat}(hg:w.grownBy w' row)(hne:∀ad g,A=some ad->row=some g->ad.block≠g):Reads w' w'.heap.size size A n xs:=
 ⟨h.1,fun hn=>by obtain⟨ad,e,hb,hc⟩:=h.2 hn;refine⟨ad,e,Nat.lt_of_lt_of_le hb hg.size,fun j u hu=>?_⟩;rw[World.cell?_of_block (hg.block (ad.add j).block (by rw[zaj];exact hb) (fun e'=>hne _ _ e e'.symm (zaj _ _).symm))];exact hc j u hu⟩
theorem Reads.cut(h:Reads w B size A n xs){k cap:Nat}(hk:k<=n)(hc:n<=cap):
 Reads w B size (if cap=k then A else A.map (·.add (k*size))) (n-k) (xs.drop (k*size)):=by
 refine⟨by rw[List.length_drop,h.1,Nat.sub_mul],fun hn=>?_⟩;obtain⟨ad,rfl,hb,hcell⟩:=h.2 (by omega);rw[if_neg (by omega)];refine⟨ad.add (k*size),rfl,by rw[zaj];exact hb,fun j u hu=>?_⟩;rw[za9];exact hcell _ u (by rw[<-hu,List.getElem?_drop])
theorem Reads.take(h:Reads w B size A n xs){k:Nat}(hk:k<=n):Reads w B size A k (xs.take (k*size)):=by
 refine⟨by rw[List.length_take,h.1,Nat.min_eq_left (Nat.mul_le_mul_right _ hk)],fun hn=>?_⟩;obtain⟨ad,rfl,hb,hcell⟩:=h.2 (by omega);refine⟨ad,rfl,hb,fun j u hu=>hcell j u ?_⟩;rw[List.getElem?_take] at hu;split at hu
 ·exact hu
 ·cases hu
theorem Reads.of_own{base:Nat}{e:TypeId}{c:Nat}(h:w.ownsRow base e size (.slice A n c) n xs):Reads w w.heap.size size A n xs:=by
 refine⟨h.1,fun hn=>?_⟩;obtain⟨g,cap,hv,_,hlt⟩:=h.form hn;have hA:A=some ⟨g,0,none⟩:=by injection hv
 subst hA;exact⟨_,rfl,hlt,h.cells (g:=g) rfl⟩
theorem Reads.len{k:IntKind}{l:List Nat}(h:Reads w B 1 A n (zao k l)):n=l.length:=by have:=h.1;rw[zaa] at this;omega
theorem Reads.lenI{k:IntKind}{l:List Int}(h:Reads w B 1 A n (za0 k l)):n=l.length:=by have:=h.1;rw[zhi] at this;omega
theorem Reads.int{k:IntKind}{l:List Int}{i:Nat}(h:Reads w B 1 A n (za0 k l))(hi:i<n):∃ad,A=some ad/\ad.block<B/\w.cell? (ad.add i)=some (.int k (l.getD i 0)):=by
 obtain⟨ad,u,e,hb,hu,hc⟩:=h.at_ hi;have hl:i<l.length:=by have:=h.lenI;omega
 rw[zn1 k l i hl] at hu;injection hu with hu;subst hu;exact⟨ad,e,hb,hc⟩
theorem Reads.num{k:IntKind}{l:List Nat}{i:Nat}(h:Reads w B 1 A n (zao k l))(hi:i<n):∃ad,A=some ad/\ad.block<B/\w.cell? (ad.add i)=some (.int k ((l.getD i 0:Nat):Int)):=by
 obtain⟨ad,u,e,hb,hu,hc⟩:=h.at_ hi;have hl:i<l.length:=by have:=h.1;rw[zaa] at this;omega
 rw[zwx k l i hl] at hu;injection hu with hu;subst hu;exact⟨ad,e,hb,hc⟩
end
def Own(w:World)(base:Nat)(e:TypeId)(v:Value)(xs:List Value):Prop:=w.ownsRow base e 1 v xs.length xs
section
variable{w w':World}{base:Nat}{e:TypeId}{v:Value}{xs:List Value}
theorem Own.nil_:Own w base e (.slice none 0 0) []:=World.ownsRow_nil w base e 1
theorem Own.empty(w:World)(e:TypeId):Own (w.alloc (.cells #[] e)) w.heap.size e (.slice (some ⟨w.heap.size,0,none⟩) 0 0) []:=
 World.ownsRow_made w #[] 0 (Nat.le_refl _) (Nat.zero_le _) rfl
theorem Own.slice(h:Own w base e v xs):∃A c,v= .slice A xs.length c/\xs.length<=c/\c<=maxLen:=by
 rcases h.2 with⟨hv,hn⟩|⟨g,cap,cur,hv,_,_,hc,hm,_⟩
 ·exact⟨none,0,by rw[hv,hn],by omega,by simp[maxLen]⟩
 ·exact⟨_,_,hv,hc,hm⟩
theorem Own.reads{A:Option Addr}{n c:Nat}(h:Own w base e (.slice A n c) xs):Reads w w.heap.size 1 A n xs:=by
 have hn:n=xs.length:=by obtain⟨A',c',hv,_⟩:=h.slice;injection hv
 subst hn;exact Reads.of_own h
theorem Own.len{A:Option Addr}{n c:Nat}(h:Own w base e (.slice A n c) xs):n=xs.length:=by obtain⟨A',c',hv,_⟩:=h.slice;injection hv
theorem Own.cap{A:Option Addr}{n c:Nat}(h:Own w base e (.slice A n c) xs):n<=c/\c<=maxLen:=by obtain⟨A',c',hv,h1,h2⟩:=h.slice;injection hv with _ e1 e2;subst e1 e2;exact⟨h1,h2⟩
theorem Own.kept{row:Option Nat}(h:Own w base e v xs)(hg:w.grownBy w' row)(hne:v.ownBlock=none\/v.ownBlock≠row):Own w' base e v xs:=World.ownsRow.kept h hg hne
theorem Own.lt(h:Own w base e v xs):∀k,v.ownBlock=some k->base<=k/\k<w.heap.size:=World.ownsRow.lt h
theorem Own.below{B:Nat}(h:Own w base e v xs)(hb:Below B w w')(hB:w.heap.size<=B):Own w' base e v xs:=by
 refine⟨h.1,?_⟩;rcases h.2 with hn|⟨g,cap,cur,rfl,hbg,hgg,rest⟩
 ·exact .inl hn
 ·refine .inr ⟨g,cap,cur,rfl,hbg,?_,rest⟩
  rw[hb.block g (Nat.lt_of_lt_of_le (Array.getElem?_eq_some_iff.1 hgg).1 hB)];exact hgg
theorem Own.base_le{b':Nat}(h:Own w base e v xs)(hb:b'<=base):Own w b' e v xs:=by
 refine⟨h.1,?_⟩;rcases h.2 with hn|⟨g,cap,cur,hv,hbg,rest⟩
 ·exact .inl hn
 ·exact .inr ⟨g,cap,cur,hv,Nat.le_trans hb hbg,rest⟩
theorem Own.alloc(h:Own w base e v xs)(o:Obj):Own (w.alloc o) base e v xs:=World.ownsRow.alloc h o
theorem Own.drewN(h:Own w base e v xs)(k:Nat):Own (w.drewN k) base e v xs:=h
theorem Own.frozen{A:Addr}{n c:Nat}(h:Own w base e (.slice (some A) n c) xs)(j:Nat):w.frozen? (A.add j)=false:=by
 rcases h.2 with⟨hv,_⟩|⟨g,cap,cur,hv,_,hgg,_⟩
 ·cases hv
 ·injection hv with e1 _ _
  injection e1 with e1;subst e1;have hf:((⟨g,0,none⟩:Addr).add j).block=g:=zaj _ _;unfold World.frozen?;rw[hf,hgg];simp
end
theorem Own.at_{w:World}{base:Nat}{e:TypeId}{A:Option Addr}{n c i:Nat}{xs:List Value}(h:Own w base e (.slice A n c) xs)(hi:i<n):
 ∃g u,A=some ⟨g,0,none⟩/\base<=g/\g<w.heap.size/\xs[i]? =some u/\w.cell? ⟨g,i,none⟩=some u/\w.frozen? ⟨g,i,none⟩=false/\
  ∀u':Value,Own (w.setCell ⟨g,i,none⟩ u') base e (.slice A n c) (xs.set i u'):=by
 have hn:=h.len;obtain⟨g,cap,hv,hbg,hlt⟩:=World.ownsRow.form h (by omega);have hA:A=some ⟨g,0,none⟩:=by injection hv
 subst hA;have hx:i<xs.length:=by omega
 have h':w.ownsRow base e 1 (.slice (some ⟨g,0,none⟩) n c) n xs:=by rw[hn] at h⊢;exact h
 refine⟨g,xs[i],rfl,hbg,hlt,List.getElem?_eq_getElem hx,?_,h'.frozenAt i,fun u'=>?_⟩
 ·rw[h'.cellAt i (by omega),List.getElem?_eq_getElem hx]
 ·have:=(h'.stored i u').1
  unfold Own;rw[List.length_set,<-hn];exact this
def Blk(w:World)(g:Nat)(t:TypeId)(cs:Array Value):Prop:=w.heap[g]? =some (.cells cs t (0,0))
section
variable{w w':World}{g:Nat}{t:TypeId}{cs:Array Value}
theorem Blk.lt(h:Blk w g t cs):g<w.heap.size:=by
 rcases Nat.lt_or_ge g w.heap.size with hlt|hge
 ·exact hlt
 ·unfold Blk at h;rw[Array.getElem?_eq_none hge] at h;cases h
theorem Blk.cell(h:Blk w g t cs)(i:Nat):w.cell? ⟨g,i,none⟩=cs[i]? :=cell_of_row w g i cs t (0,0) h
theorem Blk.frozen(h:Blk w g t cs)(i:Nat):w.frozen? ⟨g,i,none⟩=false:=by unfold Blk at h;simp[World.frozen?,h]
theorem Blk.new(w:World)(t:TypeId)(cs:Array Value):Blk (w.alloc (.cells cs t)) w.heap.size t cs:=heap_alloc_new w _
theorem Blk.drew(h:Blk w g t cs):Blk w.drew g t cs:=h
theorem Blk.drewN(h:Blk w g t cs)(n:Nat):Blk (w.drewN n) g t cs:=h
theorem Blk.alloc(h:Blk w g t cs)(o:Obj):Blk (w.alloc o) g t cs:=(Below.heap_alloc w o g h.lt).trans h
theorem Blk.set_(h:Blk w g t cs)(i:Nat)(u:Value):Blk (w.setCell ⟨g,i,none⟩ u) g t (cs.setIfInBounds i u):=by unfold Blk at h⊢;simp[World.setCell,Array.getElem?_modify,h]
theorem Blk.far(h:Blk w g t cs){p:Addr}(hp:g≠p.block)(u:Value):Blk (w.setCell p u) g t cs:=(Below.heap_setCell w p u g hp).trans h
theorem Blk.below{B:Nat}(h:Blk w g t cs)(hb:Below B w w')(hg:g<B):Blk w' g t cs:=(hb.block g hg).trans h
theorem Blk.grown{row:Option Nat}(h:Blk w g t cs)(hb:w.grownBy w' row)(hg:some g≠row):Blk w' g t cs:=(hb.block g h.lt hg).trans h
theorem Blk.ne_{g':Nat}{t':TypeId}{cs':Array Value}(h:Blk w g t cs)(h':Blk w g' t' cs')(hne:t≠t'):g≠g':=by rintro rfl;unfold Blk at h h';rw[h] at h';injection h' with h';injection h' with _ ht;exact hne ht
theorem Own.blk_ne{base:Nat}{e:TypeId}{v:Value}{xs:List Value}(h:Own w base e v xs)(hg:Blk w g t cs)(hne:e≠t):v.ownBlock≠some g:=by
 rcases h.2 with⟨rfl,_⟩|⟨g',cap,cur,rfl,_,hh,_⟩
 ·simp[Value.ownBlock]
 ·intro he
  have:g'=g:=by simpa[Value.ownBlock] using he
  subst this;exact Blk.ne_ (t:=e) hh hg hne rfl
theorem Own.keepT{base:Nat}{e:TypeId}{v:Value}{xs:List Value}(h:Own w base e v xs)(hg:w.grownBy w' (some g))(hT:Blk w g t cs)(hne:e≠t):Own w' base e v xs:=h.kept hg (.inr (h.blk_ne hT hne))
end
def TR(w:World)(e:TypeId)(A:Option Addr)(n:Nat)(xs:List Value):Prop:=Reads w w.heap.size 1 A n xs/\(0<n-> ∀ad,A=some ad-> ∃cs,Blk w ad.block e cs)
section
variable{w w':World}{e:TypeId}{n:Nat}{A:Option Addr}{xs:List Value}
theorem TR.nil_:TR w e A 0 []:=⟨⟨by simp,fun h=>absurd h (by omega)⟩,fun h=>absurd h (by omega)⟩
theorem TR.keep{g:Nat}{t:TypeId}{cs:Array Value}(h:TR w e A n xs)(hg:w.grownBy w' (some g))(hT:Blk w g t cs)(hne:e≠t):TR w' e A n xs:=by
 refine⟨⟨h.1.1,fun hn=>?_⟩,fun hn ad ha=>?_⟩
 ·obtain⟨ad,e1,hb,hc⟩:=h.1.2 hn
  obtain⟨cs',hB⟩:=h.2 hn ad e1;have hng:ad.block≠g:=Blk.ne_ hB hT hne;refine⟨ad,e1,Nat.lt_of_lt_of_le hb hg.size,fun j u hu=>?_⟩;rw[World.cell?_of_block (hg.block (ad.add j).block (by rw[zaj];exact hb) (by rw[zaj];simpa using hng))];exact hc j u hu
 ·obtain⟨cs',hB⟩:=h.2 hn ad ha
  exact⟨cs',hB.grown hg (by simpa using Blk.ne_ hB hT hne)⟩
theorem TR.below(h:TR w e A n xs)(hb:Below w.heap.size w w'):TR w' e A n xs:=
 ⟨(h.1.below hb).more hb.size,fun hn ad ha=>by
   obtain⟨cs',hB⟩:=h.2 hn ad ha;exact⟨cs',hB.below hb hB.lt⟩⟩
theorem TR.grown{row:Option Nat}(h:TR w e A n xs)(hg:w.grownBy w' row)(hne:∀ad g,A=some ad->row=some g->ad.block≠g):TR w' e A n xs:=
 ⟨h.1.grown_far hg hne,fun hn ad ha=>by obtain⟨cs',hB⟩:=h.2 hn ad ha;exact⟨cs',hB.grown hg (fun e'=>hne _ _ ha e'.symm rfl)⟩⟩
theorem TR.drewN(h:TR w e A n xs)(k:Nat):TR (w.drewN k) e A n xs:=h
theorem TR.alloc(h:TR w e A n xs)(o:Obj):TR (w.alloc o) e A n xs:=h.below ((Below.refl _ _).alloc (Nat.le_refl _) o)
theorem TR.cut(h:TR w e A n xs){k cap:Nat}(hk:k<=n)(hc:n<=cap):TR w e (if cap=k then A else A.map (·.add k)) (n-k) (xs.drop k):=by
 have h1:=h.1.cut hk hc;rw[Nat.mul_one] at h1;refine⟨h1,fun hn ad ha=>?_⟩;rw[if_neg (by omega)] at ha;rcases A with _|a
 ·cases ha
 ·injection ha with ha
  subst ha;obtain⟨cs',hB⟩:=h.2 (by omega) a rfl;exact⟨cs',by simpa[zaj] using hB⟩
theorem TR.take(h:TR w e A n xs){k:Nat}(hk:k<=n):TR w e A k (xs.take k):=by have h1:=h.1.take hk;rw[Nat.mul_one] at h1;exact⟨h1,fun hn ad ha=>h.2 (by omega) ad ha⟩
theorem TR.of_own{base:Nat}{c:Nat}(h:Own w base e (.slice A n c) xs):TR w e A n xs:=by
 refine⟨h.reads,fun hn ad ha=>?_⟩;rcases h.2 with⟨hv,hx⟩|⟨g,cap,cur,hv,_,hh,_⟩
 ·injection hv with e1 e2 _
  omega
 ·injection hv with e1 _ _
  rw[ha] at e1;injection e1 with e1;subst e1;exact⟨cur,hh⟩
end
def zad(l:List Nat):ByteArray:=⟨(l.map UInt8.ofNat).toArray⟩
theorem zbn(l:List Nat):(zad l).size=l.length:=by show(zad l).data.size=_;simp[zad]
theorem qe7(b:ByteArray):∀(k i:Nat) (r:List UInt8),b.size-i=k->ByteArray.toList.loop b i r=r.reverse++b.data.toList.drop i:=by
 intro k;induction k with
 |zero=>
  intro i r h;rw[ByteArray.toList.loop];have hs:b.data.toList.length<=i:=by rw[Array.length_toList];show b.size<=i;omega
  rw[if_neg (by omega),List.drop_eq_nil_of_le hs,List.append_nil]
 |succ k ih=>
  intro i r h;rw[ByteArray.toList.loop,if_pos (by omega),ih _ _ (by omega)];have hs:i<b.data.toList.length:=by rw[Array.length_toList];show i<b.size;omega
  rw[List.drop_eq_getElem_cons hs,List.reverse_cons,List.append_assoc];congr 1
  simp only[List.singleton_append,List.cons.injEq,and_true];have hi:i<b.data.size:=by rw[<-Array.length_toList];exact hs
  show b.data[i]! =_;rw[getElem!_pos b.data i hi];rfl
theorem z4q(b:ByteArray):b.toList=b.data.toList:=by rw[ByteArray.toList,qe7 b b.size 0 [] (by omega)];simp
theorem zjz(l:List Nat):(zad l).toList=l.map UInt8.ofNat:=by rw[z4q];rfl
theorem zgh{l m:List Nat}(hl:∀x∈l,x<256)(hm:∀x∈m,x<256):((zad l).toList==(zad m).toList)=decide (l=m):=by
 rw[zjz,zjz,Bool.eq_iff_iff];simp only[beq_iff_eq,decide_eq_true_eq];constructor
 ·intro h
  refine List.ext_getElem (by simpa using congrArg List.length h) fun i h1 h2=>?_
  have:=congrArg (fun l=>(l[i]?).map UInt8.toNat) h;simp[List.getElem?_eq_getElem h1,List.getElem?_eq_getElem h2] at this;have a1:=hl _ (List.getElem_mem h1);have a2:=hm _ (List.getElem_mem h2);omega
 ·rintro rfl;rfl
theorem zn2{P:Program}{w:World}{src dst e:TypeId}(hs:P.underlying src=some (.slice e))(he:P.underlying e=some (.int .u8))(hd:P.underlying dst=some .string){B n c:Nat}{A:Option Addr}{l:List Nat}
 (h:Reads w B 1 A n (zao .u8 l)):(convert src dst (.slice A n c)).run P w= .ok (.string (zad l)) w:=by
 obtain rfl:=h.len;rcases A with _|ad
 ·have hl0:l.length=0:=by
   rcases Nat.eq_zero_or_pos l.length with h0|h0
   ·exact h0
   ·obtain⟨ad,h',_⟩:=h.2 h0
    cases h'
  obtain rfl:l=[]:=List.eq_nil_of_length_eq_zero hl0;rw[run_convert_bytes_string w src dst e none _ c hs he hd];simp[Conv.bytesToString,zad];rfl
 ·have hl:(loadCells ad l.length).run P w= .ok ((l.map fun n:Nat=>(n:Int)).map (Value.int .u8)).toArray w:=by
   have hc:∀j v,(zao .u8 l)[j]? =some v->w.cell? (ad.add j)=some v:=by
    intro j v hv;rcases Nat.eq_zero_or_pos l.length with h0|h0
    ·obtain rfl:l=[]:=List.eq_nil_of_length_eq_zero h0
     simp[zao] at hv
    ·obtain⟨ad',e',_,hc⟩:=h.2 h0
     injection e' with e';subst e';exact hc j v hv
   have:=run_loadCells_list (P:=P) w ad (zao .u8 l) hc;rw[zaa] at this;rw[this];simp[zao]
  rw[run_convert_bytes_string w src dst e _ _ c hs he hd,run_bytesToString w ad _ c _ hl,foldl_push_bytes];simp[zad,ByteArray.empty,ByteArray.emptyWithCapacity];rfl
theorem Reads.lit(w:World)(e:TypeId)(cs:Array Value)(n:Nat)(k:IntKind)(l:List Nat)(h:cs.toList=zao k l)(hn:n=l.length):Reads (w.alloc (.cells cs e)) (w.alloc (.cells cs e)).heap.size 1 (some ⟨w.heap.size,0,none⟩) n (zao k l):=by subst hn;refine⟨by rw[zaa];simp,fun _=>⟨_,rfl,by simp,?_⟩⟩;have:=World.news_of_block (heap_alloc_new w (.cells cs e));rwa[h] at this
structure ElT(P:Program)(t e:TypeId)(z:Value)(size bytes:Nat):Prop where
 ht:P.underlying t=some (.slice e)
 hi:(P.info? e).map (fun i=>(i.zero,i.size,i.bytes))=some (some z,size,bytes)
 hz:z.cells.size=size
 hs:0<size
section
variable{P:Program}{ops:Array Oper}{rest:List Oper}{o:Oper}{a:Act}{Q:Exit->Act->World->Prop}
theorem zj0{w:World}{t e:TypeId}{z:Value}{bytes:Nat}(E:ElT P t e z 1 bytes)(hgd:o.guard=none)(s x:Operand)
 (ho:o.op= .call {callee:= .builtin .append,args:= #[s,x],argTypes:= #[t,t]})
 {W:World}{B base:Nat}{v u:Value}{xs:List Value}(hown:Own w base e v xs)(hs:a.eval s=v)(hx:a.eval x= .slice (some ⟨w.heap.size,0,none⟩) 1 1)
 (hb:Below B W w)(hbB:B<=base)(hbase:base<=w.heap.size)(h1:u.oneCell'=true)
 (hn:(xs.length+1)*bytes<=140737488355328)(hm:xs.length+1<=maxLen)
 (h:∀A' c' w',xs.length+1<=c'->c'<=maxLen->Own w' base e (.slice A' (xs.length+1) c') (xs++[u])->w.grownBy w' v.ownBlock->Below B W w'->w.heap.size<w'.heap.size->
  (Value.ownBlock (.slice A' (xs.length+1) c')=v.ownBlock\/ ∃g,Value.ownBlock (.slice A' (xs.length+1) c')=some g/\w.heap.size<=g)->wpList P ops Q rest (a.put o.dst (.slice A' (xs.length+1) c')) w'):
 wpList P ops Q (o::rest) a (w.alloc (.cells #[u] e)):=by
 obtain⟨i,hi,hz0,hz1,hz2⟩:=info_parts E.hi;refine wpList_append_own_at _ hgd s x t ho base e i z 1 bytes E.ht hi hz0 hz1 hz2 E.hz (by omega) v xs.length xs hs (World.ownsRow.alloc hown _) ⟨w.heap.size,0,none⟩ 1 1 [u] hx rfl (cell_one_new _ _ _) (by simpa using h1) hm hn (by simp;omega) ?_;intro v' w' hown' hg _ hat;have hxl:(xs++[u]).length=xs.length+1:=by simp
 have hown2:Own w' base e v' (xs++[u]):=by unfold Own;rw[hxl];exact hown'
 obtain⟨A',c',rfl,hc1,hc2⟩:=hown2.slice;rw[hxl] at hc1 hown2 hat⊢;have hg2:w.grownBy w' v.ownBlock:=(World.grownBy_alloc w (.cells #[u] e) v.ownBlock).trans hg;have hsz:=hg.size;simp at hsz;refine h A' c' w' hc1 hc2 hown2 hg2 (hb.grown hg2 (Nat.le_trans hbB hbase) (fun k hk=>by have:=(hown.lt k hk).1;omega)) (by omega) ?_;rcases hat with e1|e1
 ·exact .inl e1
 ·exact .inr ⟨_,e1,by simp⟩
theorem zhj{w:World}{t e:TypeId}{z:Value}{bytes:Nat}(E:ElT P t e z 1 bytes)(hgd:o.guard=none)(s x:Operand)
 (ho:o.op= .call {callee:= .builtin .append,args:= #[s,x],argTypes:= #[t,t]})
 {W:World}{B base:Nat}{v:Value}{xs news:List Value}{A:Option Addr}{m c:Nat}(hown:Own w base e v xs)(hr:Reads w w.heap.size 1 A m news)(hs:a.eval s=v)(hx:a.eval x= .slice A m c)
 (hb:Below B W w)(hbB:B<=base)(hbase:base<=w.heap.size)(h1:∀u∈news,u.oneCell'=true)
 (hn:(xs.length+m)*bytes<=140737488355328)(hm:xs.length+m<=maxLen)
 (h:∀A' c' w',xs.length+m<=c'->c'<=maxLen->Own w' base e (.slice A' (xs.length+m) c') (xs++news)->w.grownBy w' v.ownBlock->Below B W w'->
  (Value.ownBlock (.slice A' (xs.length+m) c')=v.ownBlock\/ ∃g,Value.ownBlock (.slice A' (xs.length+m) c')=some g/\w.heap.size<=g)->wpList P ops Q rest (a.put o.dst (.slice A' (xs.length+m) c')) w'):
 wpList P ops Q (o::rest) a w:=by
 obtain⟨i,hi,hz0,hz1,hz2⟩:=info_parts E.hi;have hl:news.length=m:=by have:=hr.1;omega
 have hxl:(xs++news).length=xs.length+m:=by simp[hl]
 rcases A with _|ad
 ·have hm0:m=0:=by
   rcases Nat.eq_zero_or_pos m with h0|h0
   ·exact h0
   ·obtain⟨ad,h',_⟩:=hr.2 h0
    cases h'
  subst hm0;have hn0:news=[]:=List.eq_nil_of_length_eq_zero hl;subst hn0;have hrun:∀ty,(Builtin.append_ #[t,t] ty #[v,.slice none 0 c]).run P w= .ok v w:=by
   intro ty;rcases hown.2 with⟨rfl,hx0⟩|⟨g,cap,cur,rfl,_,_,hnc,_⟩
   ·simp[Builtin.append_,run_underlying E.ht,sizeOf,typeInfo,hi,Builtin.lenOf,Builtin.firstCells]
   ·simp[Builtin.append_,run_underlying E.ht,sizeOf,typeInfo,hi,Builtin.lenOf,Builtin.firstCells,hnc,storeCells]
  refine wpList_plain hgd fun K hK=>?_
  unfold Oper.wp execOp;simp only[ho,resolve,invoke,builtin,Sem.run_bind,Sem.run_pure,Result.andThen_ok,List.map_toArray,List.map_cons,List.map_nil,hs,hx,hrun];obtain⟨A',c',rfl,hc1,hc2⟩:=hown.slice;exact hK _ _ (h A' c' w hc1 hc2 (by simpa using hown) (World.grownBy.refl w _) hb (.inl rfl))
 ·have hcells:∀j u,news[j]? =some u->w.cell? (ad.add j)=some u:=by
   intro j u hu;rcases Nat.eq_zero_or_pos m with h0|h0
   ·subst h0
    have hn:news=[]:=List.eq_nil_of_length_eq_zero hl;subst hn;simp at hu
   ·obtain⟨ad',h',_,hc⟩:=hr.2 h0
    injection h' with h';subst h';exact hc j u hu
  refine wpList_append_own_at _ hgd s x t ho base e i z 1 bytes E.ht hi hz0 hz1 hz2 E.hz (by omega) v xs.length xs hs hown ad m c news hx (by omega) hcells h1 hm hn hbase ?_;intro v' w' hown' hg _ hat;have hown2:Own w' base e v' (xs++news):=by unfold Own;rw[hxl];exact hown'
  obtain⟨A',c',rfl,hc1,hc2⟩:=hown2.slice;rw[hxl] at hc1 hown2 hat⊢;refine h A' c' w' hc1 hc2 hown2 hg (hb.grown hg (Nat.le_trans hbB hbase) (fun k hk=>by have:=(hown.lt k hk).1;omega)) ?_;rcases hat with e1|e1
  ·exact .inl e1
  ·exact .inr ⟨_,e1,Nat.le_refl _⟩
theorem zb6{w:World}{t e:TypeId}{z:Value}{bytes:Nat}(E:ElT P t e z 1 bytes)(hgd:o.guard=none)(lo co:Operand)(ho:o.op=Op.makeSlice t lo co)
 {W:World}{B:Nat}{kl kc:IntKind}{L C:Int}(l c:Nat)(hl:a.eval lo= .int kl L)(hc:a.eval co= .int kc C)(hL:L=(l:Int))(hC:C=(c:Int))(hlc:l<=c)(hb:Below B W w)(hbase:B<=w.heap.size)
 (hz1:z.oneCell'=true)(hn:c*bytes<=140737488355328)(hm:c<=maxLen)
 (h:∀w',Own w' w.heap.size e (.slice (some ⟨w.heap.size,0,none⟩) l c) (List.replicate l z)->w.grownBy w' none->Below B W w'->w'.heap.size=w.heap.size+1->wpList P ops Q rest (a.put o.dst (.slice (some ⟨w.heap.size,0,none⟩) l c)) w'):
 wpList P ops Q (o::rest) a w:=by
 obtain⟨i,hi,hz0,hs1,hb1⟩:=info_parts E.hi;subst hL hC;have hzc:z.cells= #[z]:=by
  revert hz1;unfold Value.oneCell' Value.cells
  cases z<;> simp
 have hmC:(c:Int)<=9223372036854775807:=by have h:=hm;simp only[maxLen] at h;omega
 have hbC:(i.bytes:Int)*(c:Int)<=281474976710656:=by
  have h:((i.bytes*c:Nat):Int)<=281474976710656:=by rw[hb1,Nat.mul_comm];omega
  rwa[Int.natCast_mul] at h
 have hrun:=run_make (P:=P) w t e i z E.ht hi hz0 kl kc (l:Int) (c:Int) (by omega) (by omega) hbC hmC;rw[Int.toNat_natCast,Int.toNat_natCast,hs1,Nat.mul_one,hzc] at hrun;refine wpList_plain hgd fun K hK=>?_
 unfold Oper.wp;simp[execOp,ho,hl,hc,hrun,Result.andThen];refine hK _ _ (h _ ?_ (World.grownBy_alloc _ _ _) (hb.alloc hbase _) (by simp));refine⟨by simp,.inr ⟨_,c,_,by simp,Nat.le_refl _,heap_alloc_new w _,by simpa using hlc,hm,by simp[size_madeCells],?_⟩⟩;rw[toList_madeCells_one];simp[Nat.min_eq_left hlc]
theorem zn3{w:World}{t e:TypeId}{z:Value}{bytes:Nat}(E:ElT P t e z 1 bytes)(hgd:o.guard=none)(d s:Operand)
 (ho:o.op= .call {callee:= .builtin .copy,args:= #[d,s],argTypes:= #[t,t]})
 {W:World}{B base:Nat}{xs ys:List Value}{D A:Option Addr}{m c n cd:Nat}(hown:Own w base e (.slice D n cd) xs)(hr:Reads w w.heap.size 1 A m ys)(hd:a.eval d= .slice D n cd)(hs:a.eval s= .slice A m c)
 (r:Nat)(hmr:Nat.min m n=r)(hb:Below B W w)(hbB:B<=base)(h1:∀u∈ys,u.oneCell'=true)
 (h:∀w',Own w' base e (.slice D n cd) (ys.take n++xs.drop m)->w.grownBy w' (Value.ownBlock (.slice D n cd))->Below B W w'->w'.heap.size=w.heap.size->wpList P ops Q rest (a.put o.dst (.int .i64 (r:Int))) w'):
 wpList P ops Q (o::rest) a w:=by
 subst hmr;obtain⟨i,hi,hz0,hs1,hb1⟩:=info_parts E.hi;have hsz:(P.info? e).map (·.size)=some 1:=by simp[hi,hs1]
 have hln:=hown.len;have hym:ys.length=m:=by have:=hr.1;omega
 by_cases h0:Nat.min m n=0
 ·have hrun:∀ty,(Builtin.copy_ #[t,t] ty #[.slice D n cd,.slice A m c]).run P w= .ok (goInt 0) w:=fun ty=>run_copy_none w t t ty e D A n cd m c E.ht hsz h0
  refine wpList_plain hgd fun K hK=>?_
  unfold Oper.wp execOp;simp only[ho,resolve,invoke,builtin,Sem.run_bind,Sem.run_pure,Result.andThen_ok,List.map_toArray,List.map_cons,List.map_nil,hd,hs,hrun];have hx:ys.take n++xs.drop m=xs:=by
   rcases Nat.min_eq_zero_iff.1 h0 with hm|hn
   ·subst hm
    have:ys=[]:=List.eq_nil_of_length_eq_zero hym;subst this;simp
   ·subst hn
    have:xs=[]:=List.eq_nil_of_length_eq_zero hln.symm;subst this;simp
  have:=h w (by rw[hx];exact hown) (World.grownBy.refl w _) hb rfl;rw[h0] at this;exact hK _ _ this
 ·have hmin:0<m/\0<n:=by
   constructor
   ·rcases Nat.eq_zero_or_pos m with e'|e'
    ·subst e';exact absurd (Nat.zero_min n) h0
    ·exact e'
   ·rcases Nat.eq_zero_or_pos n with e'|e'
    ·subst e';exact absurd (Nat.min_zero m) h0
    ·exact e'
  obtain⟨ad,rfl,_,hcell⟩:=hr.2 hmin.1;rcases hown.2 with⟨hv,hx0⟩|⟨g,cap,cur,hv,hbg,hgg,hnc,hcm,hcs,htake⟩
  ·omega
  ·injection hv with e1 e2 e3
   subst e1 e3;have hcl:(ys.take n).length=Nat.min m n:=by rw[List.length_take,hym,Nat.min_comm]
   have hmn:Nat.min m n<=n:=Nat.min_le_right m n;have hcl2:(ys.take n).length<=n:=by rw[hcl];exact hmn
   have hsrc:∀j v,(ys.take n)[j]? =some v->w.cell? (ad.add j)=some v:=fun j v hv=>hcell j v (by
    rw[List.getElem?_take] at hv;split at hv
    ·exact hv
    ·cases hv)
   have hrun:∀ty,(Builtin.copy_ #[t,t] ty #[.slice (some ⟨g,0,none⟩) n cd,.slice (some ad) m c]).run P w=
    .ok (goInt (ys.take n).length) (w.setRow g (cur.toList.take 0++ys.take n++cur.toList.drop (0+(ys.take n).length)).toArray):=fun ty=>
    run_copy_row P w t t ty e g 0 n cd ad m c cur e (ys.take n) E.ht hsz hgg hcl hsrc (by rw[hcl];omega) (fun v hv=>h1 v (List.mem_of_mem_take hv))
   refine wpList_plain hgd fun K hK=>?_
   unfold Oper.wp execOp;simp only[ho,resolve,invoke,builtin,Sem.run_bind,Sem.run_pure,Result.andThen_ok,List.map_toArray,List.map_cons,List.map_nil,hd,hs,hrun,hcl];have hlen:(ys.take n++xs.drop m).length=xs.length:=by rw[List.length_append,hcl,List.length_drop,<-hln];simp only[Nat.min_def];split<;> omega
   refine hK _ _ (h _ ?_ ⟨rfl,rfl,rfl,by simp[World.setRow],fun k _ hk=>setRow_other w g k _ (fun e=>hk (by simp[Value.ownBlock,e]))⟩ (below_setRow hb (Nat.le_trans hbB hbg) _) (by simp[World.setRow]));refine⟨by simp,.inr ⟨g,cd,_,by rw[hlen,hln],hbg,setRow_heap w g cur _ e _ hgg,by rw[hlen];exact hnc,hcm,?_,?_⟩⟩
   ·simp only[List.take_zero,List.nil_append,Nat.zero_add,List.size_toArray,List.length_append,hcl,List.length_drop,Array.length_toList]
    omega
   ·rw[hlen,Nat.mul_one]
    simp only[List.take_zero,List.nil_append,Nat.zero_add];rw[Nat.mul_one] at htake;rw[List.take_append,hcl,List.take_of_length_le (by omega)];congr 1
    rw[List.take_drop,show Nat.min m n+(xs.length-Nat.min m n)=xs.length by omega,htake];by_cases hmn':m<=n
    ·rw[show Nat.min m n=m from Nat.min_eq_left hmn']
    ·rw[show Nat.min m n=n from Nat.min_eq_right (by omega),List.drop_eq_nil_of_le (by omega),List.drop_eq_nil_of_le (by omega)]
theorem zci{w:World}{t e:TypeId}{z:Value}{bytes:Nat}(E:ElT P t e z 1 bytes)(hgd:o.guard=none)(s x:Operand)
 (ho:o.op= .call {callee:= .builtin .append,args:= #[s,x],argTypes:= #[t,t]})
 {W:World}{B base n c:Nat}{A:Option Addr}{u:Value}{k:IntKind}{l:List Nat}(hown:Own w base e (.slice A n c) (zao k l))(hs:a.eval s= .slice A n c)(hx:a.eval x= .slice (some ⟨w.heap.size,0,none⟩) 1 1)
 (y:Nat)(hu:u= .int k (y:Int))(hb:Below B W w)(hbB:B<=base)(hbase:base<=w.heap.size)
 (hn:(n+1)*bytes<=140737488355328)(hm:n+1<=maxLen)
 (h:∀A' c' w',n+1<=c'->c'<=maxLen->Own w' base e (.slice A' (n+1) c') (zao k (l++[y]))->w.grownBy w' (Value.ownBlock (.slice A n c))->Below B W w'->w.heap.size<w'.heap.size->
  (Value.ownBlock (.slice A' (n+1) c')=Value.ownBlock (.slice A n c)\/ ∃g,Value.ownBlock (.slice A' (n+1) c')=some g/\w.heap.size<=g)->wpList P ops Q rest (a.put o.dst (.slice A' (n+1) c')) w'):
 wpList P ops Q (o::rest) a (w.alloc (.cells #[u] e)):=by
 obtain rfl:n=l.length:=by have:=hown.len;rwa[zaa] at this
 subst hu;refine zj0 E hgd s x ho hown hs hx hb hbB hbase rfl (by rw[zaa];exact hn) (by rw[zaa];exact hm) ?_;rw[zaa,zdk,qag] at*;exact h
theorem zam{w:World}{t e:TypeId}{z:Value}{bytes:Nat}(E:ElT P t e z 1 bytes)(hgd:o.guard=none)(s x:Operand)
 (ho:o.op= .call {callee:= .builtin .append,args:= #[s,x],argTypes:= #[t,t]})
 {W:World}{B base n c m c2:Nat}{A A2:Option Addr}{k:IntKind}{l l2:List Nat}(hown:Own w base e (.slice A n c) (zao k l))(hr:Reads w w.heap.size 1 A2 m (zao k l2))(hs:a.eval s= .slice A n c)(hx:a.eval x= .slice A2 m c2)
 (hb:Below B W w)(hbB:B<=base)(hbase:base<=w.heap.size)(hn:(n+m)*bytes<=140737488355328)(hm:n+m<=maxLen)
 (h:∀A' c' w',n+m<=c'->c'<=maxLen->Own w' base e (.slice A' (n+m) c') (zao k (l++l2))->w.grownBy w' (Value.ownBlock (.slice A n c))->Below B W w'->
  (Value.ownBlock (.slice A' (n+m) c')=Value.ownBlock (.slice A n c)\/ ∃g,Value.ownBlock (.slice A' (n+m) c')=some g/\w.heap.size<=g)->wpList P ops Q rest (a.put o.dst (.slice A' (n+m) c')) w'):
 wpList P ops Q (o::rest) a w:=by
 obtain rfl:n=l.length:=by have:=hown.len;rwa[zaa] at this
 refine zhj E hgd s x ho hown hr hs hx hb hbB hbase (zch _ _) (by rw[zaa];exact hn) (by rw[zaa];exact hm) ?_;rw[zaa,zdk] at*;exact h
end
end Go.Hm
