import PyProof.Rows.All
import Wide.All
import OpenK.AllK
import Wide.FinOn
import Lean
import PyProof.EqAt
import PyProof.EqKinds
import PyProof.TupleCall
import PyProof.NeKinds
import PyProof.ZipIter
import PyProof.EnumMake
import PyProof.Rows.ZipGen
import PyProof.Rows.SetFrom
import PyProof.IsiNone
import KE.KRevSl
import PyProof.Rows.ListMul
import PyProof.ListRange
import PyProof.Rows.SumAny
import PySem.Challenge.RW_inkyears_k24_whole_dating_or_ring
set_option Elab.async false
set_option compiler.extract_closed false
set_option linter.all false
set_option maxRecDepth 100000
set_option maxHeartbeats 4000000

namespace L2
open PySem PySem.Spec PyProof.Rows
abbrev uD:=Sum Int Str
def da6:uD->Value->Bool
 |.inl k,v=>Value.isInt k v
 |.inr x,v=>Value.isStrOf x v
def ex6(w:World):uD->Int
 |.inl k=>hashInt k
 |.inr x=>hashStr w x
theorem iI:∀{k:uD}{v:Value},da6 k v=true->(∃i t,k=Sum.inl i/\v=Value.int i t)\/(∃x t,k=Sum.inr x/\v=Value.str x t)
 |.inl i,v,h=>by
  obtain⟨t,e⟩:=Value.isInt_shape (k:=i) (v:=v) h
  exact .inl ⟨i,t,rfl,e⟩
 |.inr x,v,h=>by
  obtain⟨t,e⟩:=Value.isStrOf_shape (x:=x) (v:=v) h
  exact .inr ⟨x,t,rfl,e⟩
theorem dw9(a b:Int):decide ((Sum.inl a:uD)=Sum.inl b)=(a==b):=by
 by_cases e:a=b
 . subst e;simp
 . have h:¬(Sum.inl a:uD)=Sum.inl b:=λq=>e (Sum.inl.inj q)
   rw[decide_eq_false h]
   exact(beq_eq_false_iff_ne.mpr e).symm
theorem eg0(a b:Str):decide ((Sum.inr a:uD)=Sum.inr b)=decide (a=b):=by
 by_cases e:a=b
 . subst e;simp
 . have h:¬(Sum.inr a:uD)=Sum.inr b:=λq=>e (Sum.inr.inj q)
   rw[decide_eq_false h,decide_eq_false e]
theorem ee3(a:Int)(b:Str):decide ((Sum.inl a:uD)=Sum.inr b)=false:=decide_eq_false (λq=>nomatch q)
theorem ey3(a:Str)(b:Int):decide ((Sum.inr a:uD)=Sum.inl b)=false:=decide_eq_false (λq=>nomatch q)
def au9(prog:Program)(w:World):PySem.KeyKind prog w uD where
 is:=da6
 hash:=ex6 w
 inj:=λv a b ha hb=>by
  rcases iI ha with⟨i,t,rfl,rfl⟩|⟨x,t,rfl,rfl⟩
  . rcases iI hb with⟨j,u,rfl,e⟩|⟨y,u,rfl,e⟩
    . injection e with e1 _;rw[e1]
    . exact nomatch e
  . rcases iI hb with⟨j,u,rfl,e⟩|⟨y,u,rfl,e⟩
    . exact nomatch e
    . injection e with e1 _;rw[e1]
 byValue:=λk v h=>by
  rcases iI h with⟨i,t,rfl,rfl⟩|⟨x,t,rfl,rfl⟩<;>rfl
 pyHash:=λhv h=>by
  rcases iI hv with⟨i,t,rfl,rfl⟩|⟨x,t,rfl,rfl⟩
  . exact wpAny_pyHash_int h
  . exact wpAny_pyHash_str h
 eqBool:=λhu hv h=>by
  rcases iI hu with⟨i,t,rfl,rfl⟩|⟨x,t,rfl,rfl⟩
  . rcases iI hv with⟨j,u,rfl,rfl⟩|⟨y,u,rfl,rfl⟩
    . rw[dw9]at h;exact wpAny_eqBool_int h
    . rw[ee3]at h;exact SeqAt.EqAt.int_str i t y u _ _ _ _ h
  . rcases iI hv with⟨j,u,rfl,rfl⟩|⟨y,u,rfl,rfl⟩
    . rw[ey3]at h;exact SeqAt.EqAt.str_int x t j u _ _ _ _ h
    . rw[eg0]at h;exact wpAny_eqBool_str h
 «strs»:=λk x t v h=>by
  rcases iI h with⟨i,u,rfl,e⟩|⟨y,u,rfl,e⟩
  . exact nomatch e
  . injection e with e1 _
    subst e1
    cases v<;>rfl
end L2
namespace L2
open PySem PySem.Spec PyProof.Rows
inductive V where
 |non|bl (b:Bool)|int (i:Int)|str (x:Str)|byt (b:Array UInt8)|flt (b:UInt64)|ref (a:Addr)|ty (n:String)
 deriving DecidableEq
def RelV:V->Value->Prop
 |.non,u=>u=Value.none
 |.bl b,u=>u=Value.bool b
 |.int i,u=>∃t,u=Value.int i t
 |.str x,u=>∃t,u=Value.str x t
 |.byt b,u=>∃t,u=Value.bytes b t
 |.flt b,u=>∃t,u=Value.float b t
 |.ref a,u=>u=Value.ref a
 |.ty n,u=>u=Value.type n
abbrev Vals:List V->List Value->Prop:=Paired RelV
theorem Vals.length(r:Vals xs us):xs.length=us.length:=Paired.length r
theorem Vals.get:∀{xs:List V}{us:List Value}{i:Nat}{x:V},Vals xs us->xs[i]?=some x->∃u,us[i]?=some u/\RelV x u
 |_,_,_,_,.nil,e=>by simp at e
 |_,_,0,_,.cons r _,e=>by simp at e;subst e;exact⟨_,rfl,r⟩
 |_,_,i+1,x,.cons _ t,e=>by
  obtain⟨u,h1,h2⟩:=Vals.get (i:=i) (x:=x) t (by simpa using e)
  exact⟨u,by simpa using h1,h2⟩
theorem Vals.set(r:RelV x u):∀{xs:List V}{us:List Value}(i:Nat),Vals xs us->Vals (xs.set i x) (us.set i u)
 |_,_,_,.nil=>.nil
 |_,_,0,.cons _ t=>.cons r t
 |_,_,i+1,.cons q t=>.cons q (Vals.set r i t)
theorem Vals.append:∀{xs ys:List V}{us ws:List Value},Vals xs us->Vals ys ws->Vals (xs++ys) (us++ws)
 |_,_,_,_,.nil,s=>s
 |_,_,_,_,.cons r t,s=>.cons r (Vals.append t s)
theorem Vals.take:∀{xs:List V}{us:List Value}(n:Nat),Vals xs us->Vals (xs.take n) (us.take n)
 |_,_,0,_=>.nil
 |_,_,_+1,.nil=>.nil
 |_,_,n+1,.cons r t=>.cons r (Vals.take n t)
theorem Vals.drop:∀{xs:List V}{us:List Value}(n:Nat),Vals xs us->Vals (xs.drop n) (us.drop n)
 |_,_,0,r=>r
 |_,_,_+1,.nil=>.nil
 |_,_,n+1,.cons _ t=>Vals.drop n t
def RelO:Option V->Option Value->Prop
 |some v,some u=>RelV v u
 |none,none=>True
 |_,_=>False
def KV{κ:Type}:List (κ×V)->List (κ×Value)->Prop:=Paired λ(p:κ×V)(q:κ×Value)=>p.1=q.1/\RelV p.2 q.2
def kV:uD->V
 |.inl i=>.int i
 |.inr x=>.str x
inductive HO where
 |lst (xs:List V)
 |tup (xs:List V)
 |dK (kvs:List (uD×V))|dT (kvs:List (List uD×V))
 |set (S:Int->Bool) (n:Nat)
 |ins (C dx:Addr) (fs:List (Str×V))
 |own (x:Addr)
 |xd (fs:List (Str×V))
 |met (f x:Addr)
 |rng (lo hi:Int)
 |frz (o:Obj) (u:HO)
 |tbl (ps:Array Value)
 |ext (φ:Heap->Prop)
abbrev Hp:=Addr->Option HO
def upd(H:Hp)(a:Addr)(o:HO):Hp:=λb=>if b=a then some o else H b
theorem fG:upd H a o a=some o:=by unfold upd;rw[if_pos rfl]
theorem cR(h:b≠a):upd H a o b=H b:=by unfold upd;rw[if_neg h]
theorem iM{H:Hp}{a b:Addr}{o:HO}(h:H a=some o)(h':H b=none):a≠b:=by
 intro e;subst e;rw[h]at h';cases h'
section
variable (P : Program) (w : World)
def ObjOk(H:Hp)(h:Heap)(a:Addr):HO->Prop
 |.lst xs=>xs.length<=sizeLine/\∃(its:List Value)(n:Nat),Vals xs its/\h.get? a=some {cls:=.type "list",data:=.seq its.toArray n}
 |.tup xs=>xs.length<=sizeLine/\∃its:List Value,Vals xs its/\IsTup h a its.toArray
 |.dK kvs=>kvs.length<=sizeLine/\(a==sysModules)=false/\∃vs,KV kvs vs/\h.DictOf (au9 P w) a vs
 |.dT kvs=>kvs.length<=sizeLine/\(a==sysModules)=false/\∃xs:List (List uD×Addr×Value),
  Paired (λ(p:List uD×V)(q:List uD×Addr×Value)=>p.1=q.1/\H q.2.1=some (.tup (p.1.map kV))/\RelV p.2 q.2.2) kvs xs/\
  ∃o es ep,h.get? a=some o/\o.ExactDict/\o.data=.dict es ep/\es.toList=xs.map (entryOfKey (tupleKind (au9 P w)))/\(xs.map (·.1)).Nodup
 |.set S n=>h.SetOf (intKind P w) a S n
 |.ins C dx fs=>H dx=some (.own a)/\fs.length<=1000/\dx≠a/\h.get? a=some (PySem.W.instObj C dx)/\
  ∃mA,h.Ns1 dx mA/\(∀f,RelO (fs.lookup f) (mA f))/\PySem.Within mA (fs.map (·.1))
 |.own _=>∃o,h.get? a=some o
 |.xd fs=>∃mA,h.Ns1 a mA/\∀f,RelO (fs.lookup f) (mA f)
 |.rng lo hi=>∃t u v,h.get? a=some {cls:=.type "range",data:=.fields #[.int lo t,.int hi u,.int 1 v]}
 |.frz o u=>h.get? a=some o/\ObjOk H h a u
 |.tbl ps=>h.get? a=some {cls:=.none,data:=.fields ps}
 |.met f x=>h.get? a=some (PySem.W.methodObj (.ref f) (.ref x))
 |.ext φ=>φ h/\(∃o,h.get? a=some o)/\∀h1 h2:Heap,φ h1->(∀o,h1.get? a=some o->h2.get? a=some o)->φ h2
def HOk(H:Hp)(h:Heap):Prop:=∀a o,H a=some o->ObjOk P w H h a o
end
section
variable {P : Program} {w : World} {H H' : Hp} {h h' : Heap} {a : Addr} {o : HO}
theorem ObjOk.lt(x:ObjOk P w H h a o):a<h.objs.size:=by
 cases o with
 |lst xs=>obtain⟨_,_,_,_,e⟩:=x;exact Heap.lt_size e
 |tup xs=>obtain⟨_,_,_,p⟩:=x;exact p.lt
 |dK kvs=>obtain⟨_,_,_,_,o,_,_,e,_⟩:=x;exact Heap.lt_size e
 |dT kvs=>obtain⟨_,_,_,_,o,_,_,e,_⟩:=x;exact Heap.lt_size e
 |set S n=>obtain⟨o,_,_,_,e,_⟩:=x;exact Heap.lt_size e
 |ins C dx fs=>obtain⟨_,_,_,e,_⟩:=x;exact Heap.lt_size e
 |own y=>obtain⟨_,e⟩:=x;exact Heap.lt_size e
 |xd fs=>obtain⟨_,⟨_,_,_,e,_⟩,_⟩:=x;exact Heap.lt_size e
 |rng lo hi=>obtain⟨_,_,_,e⟩:=x;exact Heap.lt_size e
 |frz ob u=>obtain⟨e,_⟩:=x;exact Heap.lt_size e
 |tbl ps=>exact Heap.lt_size (show h.get? a=some _ from x)
 |met f y=>exact Heap.lt_size (show h.get? a=some _ from x)
 |ext φ=>obtain⟨_,⟨_,e⟩,_⟩:=x;exact Heap.lt_size e
theorem Paired.mapP:∀{l₁:List α}{l₂:List β},Paired F l₁ l₂->(∀a b,F a b->G a b)->Paired G l₁ l₂
 |_,_,.nil,_=>.nil
 |_,_,.cons r t,f=>.cons (f _ _ r) (Paired.mapP t f)
theorem ObjOk.stay(x:ObjOk P w H h a o)(k:∀b u,(b=a\/H b=some (.own a))->h.get? b=some u->h'.get? b=some u)
 (ho:∀b,H b=some (.own a)->H' b=some (.own a))(ht:∀b xs,H b=some (.tup xs)->H' b=some (.tup xs)):ObjOk P w H' h' a o:=by
 induction o with
 |lst xs=>obtain⟨z,its,n,r,e⟩:=x;exact⟨z,its,n,r,k _ _ (.inl rfl) e⟩
 |tup xs=>obtain⟨z,its,r,ob,e,c⟩:=x;exact⟨z,its,r,ob,k _ _ (.inl rfl) e,c⟩
 |dK kvs=>obtain⟨z,y,vs,r,ob,es,ep,e,c⟩:=x;exact⟨z,y,vs,r,ob,es,ep,k _ _ (.inl rfl) e,c⟩
 |dT kvs=>
  obtain⟨z,y,xs,r,ob,es,ep,e,c⟩:=x
  exact⟨z,y,xs,Paired.mapP r λp q z=>⟨z.1,ht _ _ z.2.1,z.2.2⟩,ob,es,ep,k _ _ (.inl rfl) e,c⟩
 |set S n=>obtain⟨ob,es,ep,t,e,c⟩:=x;exact⟨ob,es,ep,t,k _ _ (.inl rfl) e,c⟩
 |ins C dx fs=>
  obtain⟨d,z,ne,e,mA,⟨od,es,ep,e2,c⟩,r⟩:=x
  exact⟨ho _ d,z,ne,k _ _ (.inl rfl) e,mA,⟨od,es,ep,k _ _ (.inr d) e2,c⟩,r⟩
 |own y=>obtain⟨ob,e⟩:=x;exact⟨ob,k _ _ (.inl rfl) e⟩
 |xd fs=>obtain⟨mA,⟨od,es,ep,e,c⟩,r⟩:=x;exact⟨mA,⟨od,es,ep,k _ _ (.inl rfl) e,c⟩,r⟩
 |rng lo hi=>obtain⟨t,u,v,e⟩:=x;exact⟨t,u,v,k _ _ (.inl rfl) e⟩
 |frz ob u ih=>obtain⟨e,q⟩:=x;exact⟨k _ _ (.inl rfl) e,ih q⟩
 |tbl ps=>
  have e:h.get? a=some {cls:=.none,data:=.fields ps}:=x
  show h'.get? a=some {cls:=.none,data:=.fields ps}
  exact k a _ (.inl rfl) e
 |met f y=>
  have e:h.get? a=some (PySem.W.methodObj (.ref f) (.ref y)):=x
  show h'.get? a=some (PySem.W.methodObj (.ref f) (.ref y))
  exact k a _ (.inl rfl) e
 |ext φ=>obtain⟨p,⟨o,e⟩,st⟩:=x;exact⟨st _ _ p λo q=>k _ _ (.inl rfl) q,⟨o,k _ _ (.inl rfl) e⟩,st⟩
theorem HOk.lt(x:HOk P w H h)(e:H a=some o):a<h.objs.size:=(x a o e).lt
theorem HOk.fresh(x:HOk P w H h)(e:h.objs.size<=a):H a=none:=by
 cases q:H a with
 |none=>rfl
 |some u=>exact absurd (Nat.lt_of_lt_of_le (x.lt q) e) (Nat.lt_irrefl _)
theorem HOk.kept(x:HOk P w H h)(k:∀b u,h.get? b=some u->h'.get? b=some u):HOk P w H h':=λa o e=>
 (x a o e).stay (λb u _ q=>k b u q) (λ_ q=>q) λ_ _ q=>q
theorem HOk.laid(x:HOk P w H h)(k:∀b u,h.get? b=some u->h'.get? b=some u)(hp:h.objs.size<=a)(new:ObjOk P w (upd H a o) h' a o):HOk P w (upd H a o) h':=λb u e=>by
 have hn:=x.fresh hp
 by_cases hb:b=a
 . subst hb;rw[fG]at e;cases e;exact new
 . rw[cR hb]at e
   exact(x b u e).stay (λc v _ q=>k c v q) (λc q=>by rw[cR (iM q hn)];exact q) λc xs q=>by rw[cR (iM q hn)];exact q
end
def Rd(H:Hp)(a:Addr)(u:HO):Prop:=H a=some u\/∃o,H a=some (.frz o u)
theorem Rd.ok(r:Rd H a u)(x:HOk P w H h):ObjOk P w H h a u:=by
 rcases r with r|⟨o,r⟩
 . exact x a u r
 . obtain⟨_,q⟩:=x a _ r
   exact q
def Mut:Option HO->Prop
 |some (.lst _)=>True
 |some (.dK _)=>True
 |some (.dT _)=>True
 |some (.set _ _)=>True
 |some (.ins _ _ _)=>True
 |some (.ext _)=>True
 |_=>False
section
variable {P : Program} {w : World} {H : Hp} {h h' : Heap} {x e : Addr} {o' : HO}
theorem HOk.write(ok:HOk P w H h)(mu:Mut (H x))(he:e=x\/H e=some (.own x))(k:∀b u,b≠e->h.get? b=some u->h'.get? b=some u)(heo:∃u,h'.get? e=some u)
 (new:ObjOk P w (upd H x o') h' x o'):HOk P w (upd H x o') h':=λb u q=>by
 have nown:∀c y,H c=some (.own y)->c≠x:=λc y r z=>by subst z;rw[r]at mu;exact mu
 have ntup:∀c xs,H c=some (.tup xs)->c≠x:=λc xs r z=>by subst z;rw[r]at mu;exact mu
 by_cases hb:b=x
 . subst hb;rw[fG]at q;cases q;exact new
 . rw[cR hb]at q
   by_cases hbe:b=e
   . have q':H b=some (.own x):=by
      rcases he with z|z
      . exact absurd (hbe.trans z) hb
      . rw[hbe];exact z
     rw[q]at q';cases q'
     obtain⟨v,hv⟩:=heo
     exact⟨v,by rw[hbe];exact hv⟩
   . refine(ok b u q).stay (λc v hc r=>k c v ?_ r) (λc r=>by rw[cR (nown c b r)];exact r) λc xs r=>by rw[cR (ntup c xs r)];exact r
     rcases hc with rfl|hc
     . exact hbe
     . rintro rfl
       rcases he with z|z
       . exact nown c b hc z
       . rw[hc]at z;cases z;exact hb rfl
end
structure Un (fs ex:List Addr) (H H':Hp) (h h':Heap):Prop where
 keep:∀b o,h.get? b=some o->H b=none->b∉fs->b∉ex->h'.get? b=some o
 slot:∀b o,h.get? b=some o->H b=none->b∈fs->b∉ex->∃sl,h'.get? b=some {o with slots:=sl}
 free:∀b o,h.get? b=some o->H b=none->b∉ex->H' b=none
 there:∀b o,h.get? b=some o->b∉ex->∃o',h'.get? b=some o'
 tups:∀b xs,H b=some (.tup xs)->H' b=some (.tup xs)
 frzs:∀b o u,H b=some (.frz o u)->H' b=some (.frz o u)
 tbls:∀b ps,H b=some (.tbl ps)->∃more,H' b=some (.tbl (ps++more))
section
variable {fs fs' ex ex' : List Addr} {H H1 H2 : Hp} {h h1 h2 h' : Heap} {a x e : Addr} {o : HO}
theorem Un.any(u:Un fs ex H H1 h h1)(q:h.get? b=some ob)(n:H b=none)(hx:b∉ex):∃sl,h1.get? b=some {ob with slots:=sl}:=by
 by_cases hb:b∈fs
 . exact u.slot b ob q n hb hx
 . exact⟨ob.slots,u.keep b ob q n hb hx⟩
theorem Un.kept(k:∀b u,h.get? b=some u->h'.get? b=some u):Un fs ex H H h h':=
 ⟨λb ob q _ _ _=>k b ob q,λb ob q _ _ _=>⟨ob.slots,k b ob q⟩,λ_ _ _ n _=>n,λb ob q _=>⟨ob,k b ob q⟩,λ_ _ q=>q,λ_ _ _ q=>q,λ_ ps q=>⟨#[],by rw[q];simp⟩⟩
theorem Un.refl:Un fs ex H H h h:=Un.kept λ_ _ q=>q
theorem Un.laid(k:∀b u,h.get? b=some u->h'.get? b=some u)(hp:h.objs.size<=a)(hn:H a=none):Un fs ex H (upd H a o) h h' where
 keep:=λb u q _ _ _=>k b u q
 slot:=λb u q _ _ _=>⟨u.slots,k b u q⟩
 free:=λb u q n _=>by rw[cR (Nat.ne_of_lt (Nat.lt_of_lt_of_le (Heap.lt_size q) hp))];exact n
 there:=λb u q _=>⟨u,k b u q⟩
 tups:=λb xs q=>by rw[cR (iM q hn)];exact q
 frzs:=λb u xs q=>by rw[cR (iM q hn)];exact q
 tbls:=λb ps q=>⟨#[],by rw[cR (iM q hn),q];simp⟩
theorem Un.write(mu:Mut (H x))(he:e=x\/H e=some (.own x))(k:∀b u,b≠e->h.get? b=some u->h'.get? b=some u)(heo:∃u,h'.get? e=some u):Un fs ex H (upd H x o) h h':=by
 have hx:∀b,H b=none->b≠x:=λb n z=>by subst z;rw[n]at mu;exact mu
 have hb:∀b,H b=none->b≠e:=λb n z=>by
  subst z
  rcases he with r|r
  . exact hx b n r
  . rw[n]at r;cases r
 have hm:∀b u,H b=some u->¬Mut (some u)->b≠x:=λb u q nm z=>by subst z;rw[q]at mu;exact nm mu
 refine⟨λb u q n _ _=>k b u (hb b n) q,λb u q n _ _=>⟨u.slots,k b u (hb b n) q⟩,λb u q n _=>by rw[cR (hx b n)];exact n,λb u q _=>?_,
  λb xs q=>by rw[cR (hm b _ q λz=>z)];exact q,λb u xs q=>by rw[cR (hm b _ q λz=>z)];exact q,λb ps q=>⟨#[],by rw[cR (hm b _ q λz=>z),q];simp⟩⟩
 by_cases hbe:b=e
 . subst hbe;exact heo
 . exact⟨u,k b u hbe q⟩
end
def trk(h:Heap)(H:Hp):List Addr:=(List.range h.objs.size).filter λa=>(H a).isSome
def zN(h:Heap)(H:Hp):Heap:=PySem.W.hideAll h (trk h H)
theorem ca9(h:Heap)(H:Hp):(zN h H).objs.size=h.objs.size:=PySem.W.hideAll_size _ _
theorem dc2(e:h.get? b=some o)(n:H b=none):(zN h H).get? b=some o:=
 PySem.W.hideAll_get _ e λhm=>by
  have q:(H b).isSome=true:=(List.mem_filter.mp hm).2
  rw[n]at q;simp at q
theorem dh9(e:(zN h H).get? b=some o):h.get? b=some o/\H b=none:=by
 have e':h.get? b=some o:=PySem.W.of_hideAll (trk h H) e
 refine⟨e',?_⟩
 cases q:H b with
 |none=>rfl
 |some x=>
  have hm:b∈trk h H:=List.mem_filter.mpr ⟨List.mem_range.mpr (Heap.lt_size e'),by simp[q]⟩
  have z:(zN h H).get? b=none:=PySem.W.hideAll_none (trk h H) hm
  rw[z]at e;cases e
end L2
namespace L2
open PySem PySem.Spec PyProof.Rows
structure Mod (K:PySem.W.Frag) (mg:Str->Option Value) (base:Heap):Prop where
 kin:K.In base
 glob:base.Ns mainGlobals mg
 blt:∃mb,base.Ns builtinsNs mb/\∀x:Str,x≠"__name__"->mb x=bootBuiltins x
 nolimit:base.NoLimit
structure Cx where
 prog:Program
 w:World
 K:PySem.W.Frag
 mg:Str->Option Value
 base:Heap
 A:Around
 N:List Str
 s₀:Shared
 H₀:Hp
 env:Env
 outer:List Env
 stack:List Env
 ex:List Addr
 fn:Str->Bool
 calm:Bool
 pn:List (Addr×Obj)
 xe:Value->Shared->Prop
def xW(l:List Env):List Addr:=l.filterMap (·.frame)
abbrev Cx.fs(X:Cx):List Addr:=xW X.outer
def Vis(sc:Scope)(x:Str):Prop:=sc.names.lookup x=some .local\/sc.names.lookup x=some .cell\/sc.names.lookup x=some .free
def Loc(sc:Scope)(x:Str):Prop:=sc.names.lookup x=some .local\/sc.names.lookup x=some .cell
def ei7(env:Env)(h:Heap)(m:Str->Option Value)(x:Str)(u:Value):Prop:=
 (env.kindOf x=some .local/\m x=some u)\/((env.kindOf x=some .cell\/env.kindOf x=some .free)/\∃c,env.cells.lookup x=some c/\h.IsCell c (some u))
structure Cx.Ok (X:Cx):Prop where
 mod:Mod X.K X.mg X.base
 kind:X.env.scope.kind=.function
 glob:X.env.globals=mainGlobals
 blt:X.env.builtins=builtinsNs
 above:X.s₀.heap.objs.size<=X.env.locals
 inj:∀x y c,X.env.cells.lookup x=some c->X.env.cells.lookup y=some c->x=y
 has:∀x,(X.env.kindOf x=some .cell\/X.env.kindOf x=some .free)->∃c,X.env.cells.lookup x=some c
 cab:∀x c,X.fn x=true->X.env.cells.lookup x=some c->X.s₀.heap.objs.size<=c
 hd:X.calm=true->X.A.handled=none
 frames:X.A.frames=some X.stack
 stk:X.stack=X.outer\/(X.stack=X.env::X.outer/\X.env.frame=some X.env.locals)
 exf:∀b∈X.ex,b≠X.env.locals/\∀x c,X.env.cells.lookup x=some c->c≠b
 bs:∀b o,X.base.get? b=some o->X.s₀.heap.get? b=some o/\X.H₀ b=none
 bsz:X.base.objs.size<=X.s₀.heap.objs.size
 noex:∀b o,X.base.get? b=some o->b∉X.ex
 exfs:∀b∈X.ex,b∉X.fs
 funs:X.s₀.heap.FunFrames X.base X.outer
 frf:∀b∈X.fs,X.H₀ b=none
structure Inv (X:Cx) (pins:List (Addr×Obj)) (σ:List (Option V)) (H:Hp) (s:Shared):Prop where
 ok:X.Ok
 os:s.os=X.s₀.os
 bare:AllBare s.gens
 base:Un X.fs X.ex X.H₀ H X.s₀.heap s.heap
 loc:∃m,s.heap.Ns X.env.locals m/\∀(i:Nat)(x:Str)(v:V),X.N[i]?=some x->σ[i]?=some (some v)->Vis X.env.scope x->∃u,RelV v u/\ei7 X.env s.heap m x u
 cell:∀x c,X.env.cells.lookup x=some c->∃v,s.heap.IsCell c v
 free:H X.env.locals=none
 freeC:∀x c,X.env.cells.lookup x=some c->H c=none
 pin:∀p∈X.pn++pins,s.heap.get? p.1=some p.2/\H p.1=none/\p.1≠X.env.locals/\p.1∉X.fs/\∀v,p.2.data≠ .cell v
 hok:HOk X.prog X.w H s.heap
 len:σ.length=X.N.length
section
variable {X : Cx} {pins : List (Addr × Obj)} {σ : List (Option V)} {H H' : Hp} {s : Shared} {h' : Heap}
theorem Cx.Ok.nofr(ok:X.Ok)(e:X.base.get? b=some o):b∉X.fs:=λhb=>by
 have:=(ok.funs.mem hb).1
 rw[e]at this;cases this
theorem Inv.bs(I:Inv X pins σ H s):∀b o,X.base.get? b=some o->s.heap.get? b=some o/\H b=none:=λb o e=>
 ⟨I.base.keep b o (I.ok.bs b o e).1 (I.ok.bs b o e).2 (I.ok.nofr e) (I.ok.noex b o e),I.base.free b o (I.ok.bs b o e).1 (I.ok.bs b o e).2 (I.ok.noex b o e)⟩
theorem Inv.bk(I:Inv X pins σ H s):∀b o,X.base.get? b=some o->s.heap.get? b=some o:=λb o e=>(I.bs b o e).1
theorem Inv.mod(I:Inv X pins σ H s):Mod X.K X.mg X.base:=I.ok.mod
theorem Inv.kIn(I:Inv X pins σ H s):X.K.In s.heap:=I.ok.mod.kin.keeps I.bk
theorem Inv.fr(I:Inv X pins σ H s):∃m,Fr X.base X.env.locals s.heap m:=
 let⟨m,hn,_⟩:=I.loc
 ⟨m,hn,I.bk,Nat.le_trans I.ok.bsz I.ok.above⟩
theorem Inv.lt(I:Inv X pins σ H s):X.env.locals<s.heap.objs.size:=let⟨_,hn,_⟩:=I.loc;hn.lt
theorem Inv.sz(I:Inv X pins σ H s):X.s₀.heap.objs.size<=s.heap.objs.size:=Nat.le_trans I.ok.above (Nat.le_of_lt I.lt)
theorem Inv.nofs(I:Inv X pins σ H s)(h:s.heap.objs.size<=a):a∉X.fs:=λhb=>by
 obtain⟨_,o,ho,_⟩:=I.ok.funs.mem hb
 exact absurd (Nat.lt_of_lt_of_le (Heap.lt_size ho) (Nat.le_trans I.sz h)) (Nat.lt_irrefl _)
theorem Inv.cne(I:Inv X pins σ H s):∀x c,X.env.cells.lookup x=some c->c≠X.env.locals:=λx c e z=>by
 obtain⟨v,o,ho,hd⟩:=I.cell x c e
 obtain⟨m,⟨o',es,ep,ho',hd',_⟩,_⟩:=I.loc
 rw[z,ho']at ho;cases ho;rw[hd']at hd;cases hd
theorem Inv.funs(I:Inv X pins σ H s):s.heap.FunFrames X.base X.outer:=by
 have all:∀(l:List Env),(∀b∈xW l,b∈X.fs)->X.s₀.heap.FunFrames X.base l->s.heap.FunFrames X.base l:=by
  intro l
  induction l with
  |nil=>intro _ _;trivial
  |cons env r ih=>
   intro hs hl
   obtain⟨hk,⟨L,o,hf,hn,ho,hd⟩,hr⟩:=hl
   have hL:L∈X.fs:=hs L (by unfold xW;rw[List.filterMap_cons,hf];exact List.mem_cons_self)
   obtain⟨sl,e⟩:=I.base.slot L o ho (I.ok.frf L hL) hL λz=>I.ok.exfs L z hL
   exact⟨hk,⟨L,_,hf,hn,e,hd⟩,ih (λb hb=>hs b (by unfold xW;rw[List.filterMap_cons,hf];exact List.mem_cons_of_mem _ hb)) hr⟩
 exact all X.outer (λ_ hb=>hb) I.ok.funs
theorem Inv.stack(I:Inv X pins σ H s):s.heap.FunFrames X.base X.stack:=by
 rcases I.ok.stk with e|⟨e,hf⟩
 . rw[e];exact I.funs
 . rw[e]
   obtain⟨m,hn,_⟩:=I.loc
   refine .cons (by rw[I.ok.kind];decide) hf hn ?_ I.funs
   exact Heap.get?_none_of_le (Nat.le_trans I.ok.bsz I.ok.above)
theorem Inv.stkSub(I:Inv X pins σ H s):∀b∈xW X.stack,b∈X.env.locals::X.fs:=λb hb=>by
 rcases I.ok.stk with e|⟨e,hf⟩
 . rw[e]at hb;exact List.mem_cons_of_mem _ hb
 . rw[e]at hb
   unfold xW at hb
   rw[List.filterMap_cons,hf]at hb
   exact hb
theorem Inv.stkFree(I:Inv X pins σ H s):∀b∈xW X.stack,H b=none:=λb hb=>by
 rcases List.mem_cons.mp (I.stkSub b hb)with e|hb
 . rw[e];exact I.free
 . obtain⟨_,o,ho,_⟩:=I.ok.funs.mem hb
   exact I.base.free b o ho (I.ok.frf b hb) λz=>I.ok.exfs b z hb
theorem Inv.step{g':Array GenState}{t':Nat}{d':Drawn}{ch:List Addr}(I:Inv X pins σ H s)
 (hch:∀b∈ch,(b∈X.ex\/X.s₀.heap.objs.size<=b)/\b≠X.env.locals/\(∀x c,X.env.cells.lookup x=some c->c≠b)/\∀p∈X.pn++pins,p.1≠b)
 (keep:∀b o,b≠X.env.locals->b∉X.fs->b∉ch->s.heap.get? b=some o->H b=none->h'.get? b=some o)
 (slot:∀b o,b≠X.env.locals->b∈X.fs->b∉ch->s.heap.get? b=some o->H b=none->∃sl,h'.get? b=some {o with slots:=sl})(free:∀b o,b∉ch->s.heap.get? b=some o->H b=none->H' b=none)
 (there:∀b o,b∉ch->s.heap.get? b=some o->∃o',h'.get? b=some o')
 (tups:∀b xs,H b=some (.tup xs)->H' b=some (.tup xs))(frzs:∀b o u,H b=some (.frz o u)->H' b=some (.frz o u))(tbls:∀b ps,H b=some (.tbl ps)->∃more,H' b=some (.tbl (ps++more)))
 (ns:∀m,s.heap.Ns X.env.locals m->h'.Ns X.env.locals m)(hok:HOk X.prog X.w H' h')(hg:AllBare g'):
 Inv X pins σ H' {s with heap:=h',gens:=g',drawn:=d',toks:=t'}:=by
 have neL:∀b o,X.s₀.heap.get? b=some o->b≠X.env.locals:=λb o e=>Nat.ne_of_lt (Nat.lt_of_lt_of_le (Heap.lt_size e) I.ok.above)
 have neC:∀b o,X.s₀.heap.get? b=some o->b∉X.ex->b∉ch:=λb o e hx hb=>by
  rcases(hch b hb).1 with z|z
  . exact hx z
  . exact absurd (Nat.lt_of_lt_of_le (Heap.lt_size e) z) (Nat.lt_irrefl _)
 have cellK:∀x c,X.env.cells.lookup x=some c->∀v,s.heap.IsCell c v->h'.IsCell c v:=λx c e v ⟨o,ho,hd⟩=>by
  have nch:c∉ch:=λz=>(hch c z).2.2.1 x c e rfl
  by_cases hc:c∈X.fs
  . obtain⟨sl,q⟩:=slot c o (I.cne x c e) hc nch ho (I.freeC x c e)
    exact⟨_,q,hd⟩
  . exact⟨o,keep c o (I.cne x c e) hc nch ho (I.freeC x c e),hd⟩
 refine⟨I.ok,I.os,hg,⟨λb o e n hb hx=>?_,λb o e n hb hx=>?_,λb o e n hx=>?_,λb o e hx=>?_,λb xs e=>tups b xs (I.base.tups b xs e),λb o xs e=>frzs b o xs (I.base.frzs b o xs e),λb ps e=>?_⟩,?_,λx c e=>?_,?_,λx c e=>?_,λp hp=>?_,hok,I.len⟩
 . exact keep b o (neL b o e) hb (neC b o e hx) (I.base.keep b o e n hb hx) (I.base.free b o e n hx)
 . obtain⟨sl,e1⟩:=I.base.slot b o e n hb hx
   obtain⟨sl',e2⟩:=slot b _ (neL b o e) hb (neC b o e hx) e1 (I.base.free b o e n hx)
   exact⟨sl',e2⟩
 . obtain⟨o',e1⟩:=I.base.there b o e hx
   exact free b o' (neC b o e hx) e1 (I.base.free b o e n hx)
 . obtain⟨o',e1⟩:=I.base.there b o e hx
   exact there b o' (neC b o e hx) e1
 . obtain⟨m1,e1⟩:=I.base.tbls b ps e
   obtain⟨m2,e2⟩:=tbls b _ e1
   exact⟨m1++m2,by rw[e2,Array.append_assoc]⟩
 . obtain⟨m,hn,hl⟩:=I.loc
   refine⟨m,ns m hn,λi x v e1 e2 e3=>?_⟩
   obtain⟨u,r,l⟩:=hl i x v e1 e2 e3
   refine⟨u,r,?_⟩
   rcases l with l|⟨k,c,e,z⟩
   . exact .inl l
   . exact .inr ⟨k,c,e,cellK x c e _ z⟩
 . obtain⟨v,z⟩:=I.cell x c e
   exact⟨v,cellK x c e v z⟩
 . obtain⟨m,⟨o,_,_,ho,_⟩,_⟩:=I.loc
   exact free _ o (λz=>(hch _ z).2.1 rfl) ho I.free
 . obtain⟨v,o,ho,hd⟩:=I.cell x c e
   exact free c o (λz=>(hch c z).2.2.1 x c e rfl) ho (I.freeC x c e)
 . obtain⟨e,n,ne,nf,d⟩:=I.pin p hp
   have nch:p.1∉ch:=λz=>(hch p.1 z).2.2.2 p hp rfl
   exact⟨keep p.1 p.2 ne nf nch e n,free p.1 p.2 nch e n,ne,nf,d⟩
theorem Inv.un{t':Nat}(I:Inv X pins σ H s)(u:Un X.fs [] H H' s.heap h')(hok:HOk X.prog X.w H' h'):Inv X pins σ H' {s with heap:=h',toks:=t'}:=by
 obtain⟨m,⟨o,es,ep,ho,r⟩,_⟩:=id I.loc
 obtain⟨sl,hL⟩:=u.any ho I.free (by simp)
 exact I.step (g':=s.gens) (d':=s.drawn) (ch:=[]) (λ_ z=>nomatch z) (λb o _ hb _ e n=>u.keep b o e n hb (by simp)) (λb o _ hb _ e n=>u.slot b o e n hb (by simp)) (λb o _ e n=>u.free b o e n (by simp)) (λb o _ e=>u.there b o e (by simp)) u.tups u.frzs u.tbls (λm' hm=>by
  obtain⟨o',es',ep',ho',r'⟩:=hm
  rw[ho]at ho';cases ho'
  exact⟨_,es',ep',hL,r'⟩) hok I.bare
theorem Inv.call{g':Array GenState}{t':Nat}{d':Drawn}{ch:List Addr}(I:Inv X pins σ H s)(u:Un (xW X.stack) ch H H' s.heap h')(hok:HOk X.prog X.w H' h')(hg:AllBare g')
 (hch:∀b∈ch,(b∈X.ex\/X.s₀.heap.objs.size<=b)/\b≠X.env.locals/\(∀x c,X.env.cells.lookup x=some c->c≠b)/\∀p∈X.pn++pins,p.1≠b):
 Inv X pins σ H' {s with heap:=h',gens:=g',drawn:=d',toks:=t'}:=by
 obtain⟨m,⟨o,es,ep,ho,r⟩,_⟩:=id I.loc
 obtain⟨sl,hL⟩:=u.any ho I.free λz=>(hch _ z).2.1 rfl
 exact I.step (ch:=ch) hch (λb o hL hb hc e n=>u.keep b o e n (λz=>(List.mem_cons.mp (I.stkSub b z)).elim hL hb) hc) (λb o _ _ hc e n=>u.any e n hc) (λb o hc e n=>u.free b o e n hc) (λb o hc e=>u.there b o e hc) u.tups u.frzs u.tbls (λm' hm=>by
  obtain⟨o',es',ep',ho',r'⟩:=hm
  rw[ho]at ho';cases ho'
  exact⟨_,es',ep',hL,r'⟩) hok hg
theorem Inv.turned{t':Nat}{it:Addr}(I:Inv X pins σ H s)(k:∀b o,b≠it->s.heap.get? b=some o->h'.get? b=some o)(hn:H it=none)(hL:it≠X.env.locals)
 (h1:it∈X.ex\/X.s₀.heap.objs.size<=it)(h2:∀x c,X.env.cells.lookup x=some c->c≠it)(h3:∀p∈X.pn++pins,p.1≠it):Inv X pins σ H {s with heap:=h',toks:=t'}:=by
 have nit:∀b u,H b=some u->b≠it:=λb u e z=>by rw[z,hn]at e;cases e
 refine I.step (g':=s.gens) (d':=s.drawn) (ch:=[it]) (λb hb=>?_) (λb o _ _ hc e _=>k b o (λz=>hc (by simp[z])) e) (λb o _ _ hc e _=>⟨o.slots,k b o (λz=>hc (by simp[z])) e⟩) (λ_ _ _ _ n=>n)
  (λb o hc e=>⟨o,k b o (λz=>hc (by simp[z])) e⟩) (λ_ _ e=>e) (λ_ _ _ e=>e) (λb ps e=>⟨#[],by rw[e];simp⟩) (λm hm=>?_) (λb u e=>?_) I.bare
 . have e:b=it:=by simpa using hb
   subst e
   exact⟨h1,hL,h2,h3⟩
 . obtain⟨o,es,ep,ho,r⟩:=hm
   exact⟨o,es,ep,k _ o (Ne.symm hL) ho,r⟩
 . refine(I.hok b u e).stay (λc v hc q=>k c v ?_ q) (λ_ q=>q) λ_ _ q=>q
   rcases hc with z|z
   . rw[z];exact nit b u e
   . exact nit c _ z
theorem Inv.tok(I:Inv X pins σ H s)(t:Nat):Inv X pins σ H {s with toks:=t}:=I.un (h':=s.heap) (t':=t) Un.refl I.hok
theorem Inv.kept(I:Inv X pins σ H s)(k:∀b u,s.heap.get? b=some u->h'.get? b=some u):Inv X pins σ H {s with heap:=h',toks:=t'}:=I.un (Un.kept k) (I.hok.kept k)
theorem Inv.laid(I:Inv X pins σ H s)(k:∀b u,s.heap.get? b=some u->h'.get? b=some u)(hp:s.heap.objs.size<=a)(new:ObjOk X.prog X.w (upd H a o) h' a o):
 Inv X pins σ (upd H a o) {s with heap:=h',toks:=t'}:=I.un (Un.laid k hp (I.hok.fresh hp)) (I.hok.laid k hp new)
theorem Inv.write(I:Inv X pins σ H s)(mu:Mut (H x))(he:e=x\/H e=some (.own x))(k:∀b u,b≠e->s.heap.get? b=some u->h'.get? b=some u)(heo:∃u,h'.get? e=some u)
 (new:ObjOk X.prog X.w (upd H x o) h' x o):Inv X pins σ (upd H x o) {s with heap:=h',toks:=t'}:=I.un (Un.write mu he k heo) (I.hok.write mu he k heo new)
theorem Inv.weak(I:Inv X pins σ H s)(hl:σ'.length=σ.length)(w:∀(i:Nat) v,σ'[i]?=some (some v)->σ[i]?=some (some v)):Inv X pins σ' H s:=
 ⟨I.ok,I.os,I.bare,I.base,let⟨m,hn,hl'⟩:=I.loc;⟨m,hn,λi x v e1 e2 e3=>hl' i x v e1 (w i v e2) e3⟩,I.cell,I.free,I.freeC,I.pin,I.hok,hl.trans I.len⟩
theorem Inv.pins_of(I:Inv X pins σ H s)(h:∀p∈pins',s.heap.get? p.1=some p.2/\H p.1=none/\p.1≠X.env.locals/\p.1∉X.fs/\∀v,p.2.data≠ .cell v):Inv X pins' σ H s:=
 ⟨I.ok,I.os,I.bare,I.base,I.loc,I.cell,I.free,I.freeC,λp hp=>(List.mem_append.mp hp).elim (λz=>I.pin p (List.mem_append_left _ z)) (h p),I.hok,I.len⟩
theorem bc8{N:List Str}(hN:N.Nodup){i j:Nat}{x:Str}(a:N[i]?=some x)(b:N[j]?=some x):i=j:=by
 obtain⟨h1,e1⟩:=List.getElem?_eq_some_iff.mp a
 obtain⟨h2,e2⟩:=List.getElem?_eq_some_iff.mp b
 exact(List.getElem_inj hN).mp (e1.trans e2.symm)
theorem bh2 {M : Model} {A : Around} {E : Value → Shared → Prop} {i : Nat} {x : Str} {v : V} {u : Value} {Q : Unit → Shared → Prop} (I : Inv X pins σ H s) (hN : X.N.Nodup) (hi : X.N[i]? = some x) (hx : Loc X.env.scope x) (r : RelV v u)
    (h : ∀ s', Inv X pins (σ.set i (some v)) H s' → (∃ a, Heap.SameBut a s.heap s'.heap ∧ (a = X.env.locals ∨ X.env.cells.lookup x = some a)) → Q () s') (hf : X.fn x = true ∨ X.env.scope.names.lookup x = some .local := by first | exact .inl rfl | exact .inr rfl | assumption) : wpAny M A (storeName X.env x u) Q E s := by
  obtain ⟨m, hn, hl⟩ := id I.loc
  have hcls : (X.env.scope.kind == .class || (X.env.scope.kind == .module && X.env.locals != X.env.globals)) = false := by rw [I.ok.kind]; rfl
  have hiσ : i < σ.length := by rw [I.len]; exact (List.getElem?_eq_some_iff.mp hi).1
  have cne := I.cne
  have tracked : ∀ {a : Addr} {h' : Heap}, (∃ o, s.heap.get? a = some o ∧ H a = none) → Heap.SameBut a s.heap h' → HOk X.prog X.w H h' := fun {a h'} ha hs b ob e => by
    obtain ⟨_, _, hfree⟩ := ha
    refine (I.hok b ob e).stay (fun c w' hc q => (hs.2 c ?_).trans q) (fun _ q => q) fun _ _ q => q
    rintro rfl
    rcases hc with rfl | hc
    · rw [hfree] at e; cases e
    · rw [hfree] at hc; cases hc
  rcases hx with hk | hk
  · refine wpAny_storeName_local hk hn (fun h' hn' hs => ?_) hcls
    obtain ⟨oL, _, _, hoL, _⟩ := id hn
    refine h _ ⟨I.ok, I.os, I.bare, ⟨fun b o e n hb hx => ?_, fun b o e n hb hx => ?_, I.base.free, fun b o e hx => ?_, I.base.tups, I.base.frzs, I.base.tbls⟩, ⟨_, hn', fun j y v' e1 e2 e3 => ?_⟩, fun y c e => ?_, I.free, I.freeC, fun p hp => ?_, tracked ⟨oL, hoL, I.free⟩ hs, by simpa using I.len⟩ ⟨_, hs, .inl rfl⟩
    · exact (hs.2 b (Nat.ne_of_lt (Nat.lt_of_lt_of_le (Heap.lt_size e) I.ok.above))).trans (I.base.keep b o e n hb hx)
    · obtain ⟨sl, e1⟩ := I.base.slot b o e n hb hx
      exact ⟨sl, (hs.2 b (Nat.ne_of_lt (Nat.lt_of_lt_of_le (Heap.lt_size e) I.ok.above))).trans e1⟩
    · obtain ⟨o', e1⟩ := I.base.there b o e hx
      exact ⟨o', (hs.2 b (Nat.ne_of_lt (Nat.lt_of_lt_of_le (Heap.lt_size e) I.ok.above))).trans e1⟩
    · by_cases hj : j = i
      · subst hj
        rw [hi] at e1; cases e1
        rw [List.getElem?_set_self hiσ] at e2
        cases e2
        exact ⟨u, r, .inl ⟨hk, by simp⟩⟩
      · rw [List.getElem?_set_ne (Ne.symm hj)] at e2
        obtain ⟨u', r', q⟩ := hl j y v' e1 e2 e3
        refine ⟨u', r', ?_⟩
        rcases q with ⟨k, e⟩ | ⟨k, c, e, z⟩
        · refine .inl ⟨k, ?_⟩
          have : y ≠ x := fun e => hj (bc8 hN e1 (e ▸ hi))
          simp [this, e]
        · exact .inr ⟨k, c, e, z.sameBut hs (cne y c e)⟩
    · obtain ⟨w', z⟩ := I.cell y c e
      exact ⟨w', z.sameBut hs (cne y c e)⟩
    · obtain ⟨e, n, ne, nf, d⟩ := I.pin p hp
      exact ⟨(hs.2 p.1 ne).trans e, n, ne, nf, d⟩
  · have hfn : X.fn x = true := by
      rcases hf with z | z
      · exact z
      · rw [z] at hk; cases hk
    obtain ⟨c, hc⟩ := I.ok.has x (.inl hk)
    obtain ⟨w', z⟩ := I.cell x c hc
    refine wpAny_storeName_cell I.ok.kind hk hc z (fun h' hc' hs => ?_)
    obtain ⟨oc, hoc, hocd⟩ := id z
    refine h { s with heap := h' } ⟨I.ok, I.os, I.bare, ⟨fun b o e n hb hx => ?_, fun b o e n hb hx => ?_, I.base.free, fun b o e hx => ?_, I.base.tups, I.base.frzs, I.base.tbls⟩, ⟨m, hn.sameBut hs (Ne.symm (cne x c hc)), fun j y v' e1 e2 e3 => ?_⟩, fun y c' e => ?_, I.free, I.freeC, fun p hp => ?_, tracked ⟨oc, hoc, I.freeC x c hc⟩ hs, by simpa using I.len⟩ ⟨c, hs, .inr hc⟩
    · exact (hs.2 b (Nat.ne_of_lt (Nat.lt_of_lt_of_le (Heap.lt_size e) (I.ok.cab x c hfn hc)))).trans (I.base.keep b o e n hb hx)
    · obtain ⟨sl, e1⟩ := I.base.slot b o e n hb hx
      exact ⟨sl, (hs.2 b (Nat.ne_of_lt (Nat.lt_of_lt_of_le (Heap.lt_size e) (I.ok.cab x c hfn hc)))).trans e1⟩
    · obtain ⟨o', e1⟩ := I.base.there b o e hx
      exact ⟨o', (hs.2 b (Nat.ne_of_lt (Nat.lt_of_lt_of_le (Heap.lt_size e) (I.ok.cab x c hfn hc)))).trans e1⟩
    · by_cases hj : j = i
      · subst hj
        rw [hi] at e1; cases e1
        rw [List.getElem?_set_self hiσ] at e2
        cases e2
        exact ⟨u, r, .inr ⟨.inl hk, c, hc, hc'⟩⟩
      · rw [List.getElem?_set_ne (Ne.symm hj)] at e2
        obtain ⟨u', r', q⟩ := hl j y v' e1 e2 e3
        refine ⟨u', r', ?_⟩
        rcases q with q | ⟨k, c', e, z'⟩
        · exact .inl q
        · refine .inr ⟨k, c', e, z'.sameBut hs ?_⟩
          rintro rfl
          exact hj (bc8 hN e1 (I.ok.inj _ _ _ e hc ▸ hi))
    · by_cases hcc : c' = c
      · subst hcc; exact ⟨_, hc'⟩
      · obtain ⟨w2, z2⟩ := I.cell y c' e
        exact ⟨w2, z2.sameBut hs hcc⟩
    · obtain ⟨e, n, ne, nf, d⟩ := I.pin p hp
      refine ⟨(hs.2 p.1 ?_).trans e, n, ne, nf, d⟩
      intro q
      rw [q, hoc] at e
      have q' : oc = p.2 := Option.some.inj e
      exact d w' (by rw [← q']; exact hocd)
theorem bq5(I:Inv X pins σ H s)(hN:X.N.Nodup)(hi:X.N[i]?=some x)(hx:Loc X.env.scope x)(r:RelV v u)
 (h:∀s',Inv X pins (σ.set i (some v)) H s'->Q () s')(hf:X.fn x=true\/X.env.scope.names.lookup x=some .local:=by first|exact .inl rfl|exact .inr rfl|assumption):wpAny M A (storeName X.env x u) Q E s:=
 bh2 I hN hi hx r (λs' I' _=>h s' I') hf
theorem Inv.call'(I:Inv X pins σ H s)(ho:s'.os=s.os)(u:Un (xW X.stack) ch H H' s.heap s'.heap)(hok:HOk X.prog X.w H' s'.heap)(hg:AllBare s'.gens)
 (hch:∀b∈ch,(b∈X.ex\/X.s₀.heap.objs.size<=b)/\b≠X.env.locals/\(∀x c,X.env.cells.lookup x=some c->c≠b)/\∀p∈X.pn++pins,p.1≠b):Inv X pins σ H' s':=by
 obtain⟨h',g',d',t',o'⟩:=s'
 have e:o'=s.os:=ho
 subst e
 exact I.call (g':=g') (t':=t') (d':=d') u hok hg hch
end
abbrev XK:=Value->Option Addr->Hp->Prop
abbrev St:=List (Option V)
abbrev VK:=V->Hp->Prop
abbrev TE:=St->Hp->VK->Prop
abbrev TT:=St->Hp->(Bool->Hp->Prop)->Prop
abbrev TA:=St->Hp->(List V->Hp->Prop)->Prop
structure ac5 where
 nx:St->Hp->Prop
 rt:VK
 bk:St->Hp->Prop:=λ_ _=>False
 ct:St->Hp->Prop:=λ_ _=>False
abbrev TS:=ac5->St->Hp->Prop
def EP(X:Cx)(pins:List (Addr×Obj))(σ:St)(Q:VK)(u:Value)(s':Shared):Prop:=∃v H',Inv X pins σ H' s'/\RelV v u/\Q v H'
def TP(X:Cx)(pins:List (Addr×Obj))(σ:St)(Q:Bool->Hp->Prop)(b:Bool)(s':Shared):Prop:=∃H',Inv X pins σ H' s'/\Q b H'
def AP(X:Cx)(pins:List (Addr×Obj))(σ:St)(Q:List V->Hp->Prop)(us:List Value)(s':Shared):Prop:=∃vs H',Inv X pins σ H' s'/\Vals vs us/\Q vs H'
def SP(X:Cx)(pins:List (Addr×Obj))(D:ac5)(f:Flow)(s':Shared):Prop:=
 match f with
 |.next=>∃σ' H',Inv X pins σ' H' s'/\D.nx σ' H'
 |.brk=>∃σ' H',Inv X pins σ' H' s'/\D.bk σ' H'
 |.cont=>∃σ' H',Inv X pins σ' H' s'/\D.ct σ' H'
 |.ret u=>∃v σ' H',Inv X pins σ' H' s'/\RelV v u/\D.rt v H'
def PE(X:Cx)(e:Expr)(t:TE):Prop:=
 ∀⦃pins:List (Addr×Obj)⦄ (s:Shared)(σ:St)(H:Hp)(Q:VK),Inv X pins σ H s->t σ H Q->wpAny (model X.prog X.w) X.A (eval e X.env) (EP X pins σ Q) X.xe s
def PT(X:Cx)(e:Expr)(t:TT):Prop:=
 ∀⦃pins:List (Addr×Obj)⦄ (s:Shared)(σ:St)(H:Hp)(Q:Bool->Hp->Prop),Inv X pins σ H s->t σ H Q->wpAny (model X.prog X.w) X.A (isTrue e X.env (eval e X.env)) (TP X pins σ Q) X.xe s
def PW(X:Cx)(e:Expr)(t:TT):Prop:=
 ∀⦃whole:Sem Value⦄ (pins:List (Addr×Obj))(s:Shared)(σ:St)(H:Hp)(Q:Bool->Hp->Prop),Inv X pins σ H s->t σ H Q->wpAny (model X.prog X.w) X.A (isTrue e X.env whole) (TP X pins σ Q) X.xe s
theorem PW.pt(h:PW X e t):PT X e t:=λ_ s σ H Q I q=>h _ s σ H Q I q
def PA(X:Cx)(es:List Expr)(t:TA):Prop:=
 ∀⦃pos:Pos⦄ (pins:List (Addr×Obj))(s:Shared)(σ:St)(H:Hp)(Q:List V->Hp->Prop),Inv X pins σ H s->t σ H Q->wpAny (model X.prog X.w) X.A (spliced (backTo pos (starEach es X.env))) (AP X pins σ Q) X.xe s
def PS(X:Cx)(st:Stmt)(t:TS):Prop:=
 ∀⦃pins:List (Addr×Obj)⦄ (s:Shared)(σ:St)(H:Hp)(D:ac5),Inv X pins σ H s->t D σ H->wpAny (model X.prog X.w) X.A (exec st X.env) (SP X pins D) X.xe s
def PSs(X:Cx)(st:List Stmt)(t:TS):Prop:=
 ∀⦃pins:List (Addr×Obj)⦄ (s:Shared)(σ:St)(H:Hp)(D:ac5),Inv X pins σ H s->t D σ H->wpAny (model X.prog X.w) X.A (execs st X.env) (SP X pins D) X.xe s
theorem cH(h:wpAny M A t Q E s)(hQ:∀a s,Q a s->Q' a s):wpAny M A t Q' E s:=wpAny_mono h hQ λ_ _ x=>x
end L2
namespace L2
open PySem PySem.Spec PyProof.Rows
section
variable {X : Cx}
theorem bin{a b:Expr}{ta tb:TE}(ha:PE X a ta)(hb:PE X b tb){pins:List (Addr×Obj)}{s:Shared}{σ:St}{H:Hp}{R:V->V->Hp->Prop}(I:Inv X pins σ H s)(h:ta σ H λx H1=>tb σ H1 λy H2=>R x y H2)
 {α:Type}{Q:α->Shared->Prop}{f:Value->Value->Sem α}
 (hf:∀v u s2 x y H2,Inv X pins σ H2 s2->RelV x v->RelV y u->R x y H2->wpAny (model X.prog X.w) X.A (f v u) Q X.xe s2):
 wpAny (model X.prog X.w) X.A (eval a X.env) (λv s₁=>wpAny (model X.prog X.w) X.A (eval b X.env) (λu s₂=>wpAny (model X.prog X.w) X.A (f v u) Q X.xe s₂) X.xe s₁) X.xe s:=by
 refine cH (ha s σ H _ I h) λv s1 ⟨x,H1,I1,r1,q1⟩=>?_
 refine cH (hb s1 σ H1 _ I1 q1) λu s2 ⟨y,H2,I2,r2,q2⟩=>?_
 exact hf v u s2 x y H2 I2 r1 r2 q2
def af2(i:Nat):TE:=λσ H Q=>∃v,σ[i]?=some (some v)/\Q v H
def tC(v:V):TE:=λ_ H Q=>Q v H
theorem ec2(hN:X.N[i]?=some x)(hv:Vis X.env.scope x)(hd:(x==("__debug__":Str))=false:=by decide)(hcd:(x==("__classdict__":Str))=false:=by decide):PE X (.Name x pos) (af2 i):=by
 intro pins s σ H Q I h
 obtain⟨v,e,h⟩:=h
 obtain⟨m,hn,hl⟩:=I.loc
 obtain⟨u,r,l⟩:=hl i x v hN e hv
 have bQ:EP X pins σ Q u s:=⟨v,H,I,r,h⟩
 rcases l with⟨hk,hm⟩|⟨hk,c,hc,hcell⟩
 . exact wpAny_Name (wpAny_loadName_local I.ok.kind hk hn hm bQ) hd
 . rcases hk with hk|hk
   . exact wpAny_Name (wpAny_loadName_cell I.ok.kind hk hc hcell bQ) hd
   . exact wpAny_Name (wpAny_loadName_free I.ok.kind hk hc hcell bQ hcd) hd
theorem aG{i j pos}:PE X (.Constant (.int i) j pos) (tC (.int i)):=λ_ _ _ H _ I h=>wpAny_Constant_int ⟨.int i,H,I.tok _,⟨_,rfl⟩,h⟩
theorem hU{b j pos}:PE X (.Constant (.bool b) j pos) (tC (.bl b)):=λ_ _ _ H _ I h=>Constant_bool ⟨.bl b,H,I,rfl,h⟩
theorem dG{j pos}:PE X (.Constant .none j pos) (tC .non):=λ_ _ _ H _ I h=>Constant_none ⟨.non,H,I,rfl,h⟩
theorem bT{x j pos}:PE X (.Constant (.str x) j pos) (tC (.str x)):=λ_ _ _ H _ I h=>Calls.Constant_str ⟨.str x,H,I.tok _,⟨_,rfl⟩,h⟩
def Gl(X:Cx)(x:Str):Prop:=X.env.kindOf x=some .globalImplicit
theorem xZ(I:Inv X pins σ H s)(hg:Gl X x)(hm:X.mg x=some u)(h:Q u s)
 (hd:(x==("__debug__":Str))=false:=by decide):wpAny (model X.prog X.w) X.A (eval (.Name x pos) X.env) Q E s:=
 Calls.Name_function_global I.ok.kind hg (Calls.loadGlobal_global (by rw[I.ok.glob];exact I.mod.glob.keeps I.bk) hm h) hd
theorem nI(I:Inv X pins σ H s)(hg:Gl X x)(hm:X.mg x=none)(hv:bootBuiltins x=some u)(h:Q u s)
 (hn:x≠"__name__":=by decide)(hd:(x==("__debug__":Str))=false:=by decide):wpAny (model X.prog X.w) X.A (eval (.Name x pos) X.env) Q E s:=by
 obtain⟨mb,h1,h2⟩:=I.mod.blt
 exact Calls.Name_function_global I.ok.kind hg (Calls.loadGlobal_builtin (by rw[I.ok.glob];exact I.mod.glob.keeps I.bk) hm (by rw[I.ok.blt];exact h1.keeps I.bk) ((h2 x hn).trans hv) h) hd
theorem do8(hg:Gl X x)(hm:X.mg x=some u)(r:RelV v u)(hd:(x==("__debug__":Str))=false:=by decide):PE X (.Name x pos) (tC v):=
 λ_ _ _ H _ I h=>xZ I hg hm ⟨v,H,I,r,h⟩ hd
theorem du7(hg:Gl X x)(hm:X.mg x=none)(hv:bootBuiltins x=some u)(r:RelV v u)(hn:x≠"__name__":=by decide)(hd:(x==("__debug__":Str))=false:=by decide):PE X (.Name x pos) (tC v):=
 λ_ _ _ H _ I h=>nI I hg hm hv ⟨v,H,I,r,h⟩ hn hd
variable {a b : Expr} {ta tb : TE} {pos : Pos}
def PC(X:Cx)(op:CmpOp)(a b:Expr)(t:TE):Prop:=
 ∀⦃pins:List (Addr×Obj)⦄ (s:Shared)(σ:St)(H:Hp)(Q:VK),Inv X pins σ H s->t σ H Q->
  wpAny (model X.prog X.w) X.A (eval a X.env) (λv s₁=>wpAny (model X.prog X.w) X.A (eval b X.env) (λu s₂=>wpAny (model X.prog X.w) X.A (compareOp op v u) (EP X pins σ Q) X.xe s₂) X.xe s₁) X.xe s
def tB(t:TE):TT:=λσ H Q=>t σ H λx H1=>∃c,x=.bl c/\Q c H1
theorem eu0(h:PC X op a b t)(h1:behindInMarks op b=false:=by first|exact ev7 _ (by decide) (by decide)|rfl):PT X (.Compare a [op] [b] pos) (tB t):=by
 intro pins s σ H Q I hw
 refine wpAny_isTrue_Compare1 (cH (h s σ H _ I hw) λv s1 h1=>cH h1 λu s2 h2=>cH h2 λc s3 ⟨x,H1,I1,r1,q1⟩=>?_) h1
 obtain⟨d,rfl,q⟩:=q1
 cases r1
 exact wpAny_truthy_bool ⟨H1,I1,q⟩
variable {tA tB' : TT} {rest : List Expr}
def es3(t u:TT):TT:=λσ H Q=>t σ H λc H1=>if c=true then u σ H1 Q else Q false H1
def tOr(t u:TT):TT:=λσ H Q=>t σ H λc H1=>if c=true then Q true H1 else u σ H1 Q
def et1(t:TT):TT:=λσ H Q=>t σ H λc H1=>Q (!c) H1
theorem kZ(ha:PT X a tA):PW X (.BoolOp .And [a] pos) tA:=by
 intro wh pins s σ H Q I h
 refine isTrue_and (cH (ha s σ H Q I h) λc s1 e=>?_)
 cases c with
 |true=>exact isTrue_and_nil e
 |false=>exact e
theorem mC(ha:PT X a tA):PW X (.BoolOp .Or [a] pos) tA:=by
 intro wh pins s σ H Q I h
 refine isTrue_or (cH (ha s σ H Q I h) λc s1 e=>?_)
 cases c with
 |false=>exact isTrue_or_nil e
 |true=>exact e
theorem mD(ha:PT X a tA)(hb:PW X (.BoolOp .And (b::rest) pos) tB'):PW X (.BoolOp .And (a::b::rest) pos) (es3 tA tB'):=by
 intro wh pins s σ H Q I h
 refine isTrue_and (cH (ha s σ H _ I h) λc s1 ⟨H1,I1,q1⟩=>?_)
 cases c with
 |true=>exact hb pins s1 σ H1 Q I1 q1
 |false=>exact⟨H1,I1,q1⟩
theorem lN(ha:PT X a tA)(hb:PW X (.BoolOp .Or (b::rest) pos) tB'):PW X (.BoolOp .Or (a::b::rest) pos) (tOr tA tB'):=by
 intro wh pins s σ H Q I h
 refine isTrue_or (cH (ha s σ H _ I h) λc s1 ⟨H1,I1,q1⟩=>?_)
 cases c with
 |true=>exact⟨H1,I1,q1⟩
 |false=>exact hb pins s1 σ H1 Q I1 q1
theorem eC(ha:PT X a tA):PT X (.UnaryOp .Not a pos) (et1 tA):=by
 intro pins s σ H Q I h
 exact isTrue_not (ha s σ H (λc H1=>Q (!c) H1) I h)
def dk5(ta tb:TE):TE:=λσ H Q=>ta σ H λx H1=>∃c,x=.bl c/\if c=true then tb σ H1 Q else Q (.bl false) H1
def dv5(ta:TE):TE:=λσ H Q=>ta σ H λx H1=>∃c,x=.bl c/\Q (.bl (!c)) H1
theorem vR{op}(h:PE X a t):PE X (.BoolOp op [a] pos) t:=λpins s σ H Q I hw=>BoolOp_one (h s σ H Q I hw)
theorem wC(ha:PE X a ta)(hb:PE X (.BoolOp .And (b::rest) pos) tb):PE X (.BoolOp .And (a::b::rest) pos) (dk5 ta tb):=by
 intro pins s σ H Q I h
 refine BoolOp_and (cH (ha s σ H _ I h) λv s1 ⟨x,H1,I1,r1,q1⟩=>?_)
 obtain⟨c,rfl,q1⟩:=q1
 cases r1
 refine wpAny_truthy_bool ?_
 cases c with
 |true=>exact hb s1 σ H1 Q I1 q1
 |false=>exact⟨.bl false,H1,I1,rfl,q1⟩
theorem ck9(ha:PE X a ta):PE X (.UnaryOp .Not a pos) (dv5 ta):=by
 intro pins s σ H Q I h
 refine UnaryOp_ (cH (ha s σ H _ I h) λv s1 ⟨x,H1,I1,r1,q1⟩=>?_)
 obtain⟨c,rfl,q1⟩:=q1
 cases r1
 exact not_of (wpAny_truthy_bool ⟨.bl (!c),H1,I1,rfl,q1⟩)
def tIf(t:TT)(ta tb:TE):TE:=λσ H Q=>t σ H λc H1=>if c=true then ta σ H1 Q else tb σ H1 Q
theorem ay4(hc:PT X c tA)(ha:PE X a ta)(hb:PE X b tb):PE X (.IfExp c a b pos) (tIf tA ta tb):=by
 intro pins s σ H Q I h
 refine wpAny_IfExp (cH (hc s σ H _ I h) λd s1 ⟨H1,I1,q1⟩=>?_)
 cases d with
 |true=>exact ha s1 σ H1 Q I1 q1
 |false=>exact hb s1 σ H1 Q I1 q1
end
end L2
namespace L2
open PySem PySem.Spec PyProof.Rows
def SqL(K:PySem.W.Frag)(H:Hp)(a:Addr)(xs:List V):Prop:=
 Rd H a (.lst xs)\/
  ∃(o:Obj)(its:Array Value)(n:Nat),K.lookup a=some o/\o.cls=.type "list"/\o.dict=none/\o.data=.seq its n/\its.size<=sizeLine/\Vals xs its.toList
def SqT(K:PySem.W.Frag)(H:Hp)(a:Addr)(xs:List V):Prop:=
 Rd H a (.tup xs)\/
  ∃(o:Obj)(its:Array Value)(n:Nat),K.lookup a=some o/\o.cls=.type "tuple"/\o.data=.seq its n/\its.size<=sizeLine/\Vals xs its.toList
def ek7:Value->Option V
 |.none=>some .non
 |.bool b=>some (.bl b)
 |.int i _=>some (.int i)
 |.str x _=>some (.str x)
 |.bytes b _=>some (.byt b)
 |.float b _=>some (.flt b)
 |.ref a=>some (.ref a)
 |.type n=>some (.ty n)
 |_=>none
theorem RelV.abs(r:RelV x u):ek7 u=some x:=by
 cases x with
 |non=>cases r;rfl
 |bl _=>cases r;rfl
 |int _=>obtain⟨t,rfl⟩:=r;rfl
 |str _=>obtain⟨t,rfl⟩:=r;rfl
 |byt _=>obtain⟨t,rfl⟩:=r;rfl
 |flt _=>obtain⟨t,rfl⟩:=r;rfl
 |ref _=>cases r;rfl
 |ty _=>cases r;rfl
theorem RelV.inj(r:RelV x u)(q:RelV y u):x=y:=Option.some.inj (r.abs.symm.trans q.abs)
theorem Vals.inj:∀{xs ys:List V}{us:List Value},Vals xs us->Vals ys us->xs=ys
 |_,_,_,.nil,.nil=>rfl
 |_,_,_,.cons r t,.cons r' t'=>by rw[r.inj r',Vals.inj t t']
section
variable {X : Cx} {pins : List (Addr × Obj)} {σ : St} {H : Hp} {s : Shared} {a : Addr} {xs ys : List V}
theorem SqL.of{K:PySem.W.Frag}(h:H a=some (.lst xs)):SqL K H a xs:=.inl (.inl h)
theorem SqT.of{K:PySem.W.Frag}(h:H a=some (.tup xs)):SqT K H a xs:=.inl (.inl h)
theorem Inv.list(I:Inv X pins σ H s)(h:SqL X.K H a xs):∃its:List Value,Vals xs its/\PlainL s.heap a its.toArray/\xs.length<=sizeLine:=by
 rcases h with h|⟨o,its,n,hk,hc,hd,hs,hz,r⟩
 . obtain⟨z,its,n,r,e⟩:=h.ok I.hok
   exact⟨its,r,⟨_,n,e,rfl,rfl,rfl⟩,z⟩
 . refine⟨its.toList,r,⟨o,n,I.kIn a o hk,hc,hd,by simpa using hs⟩,?_⟩
   have e:=r.length
   simp only[Array.length_toList]at e
   omega
theorem Inv.tuple(I:Inv X pins σ H s)(h:SqT X.K H a xs):∃its:List Value,Vals xs its/\IsTup s.heap a its.toArray/\xs.length<=sizeLine:=by
 rcases h with h|⟨o,its,n,hk,hc,hs,hz,r⟩
 . obtain⟨z,its,r,p⟩:=h.ok I.hok
   exact⟨its,r,p,z⟩
 . refine⟨its.toList,r,⟨o,I.kIn a o hk,hc,n,by simpa using hs⟩,?_⟩
   have e:=r.length
   simp only[Array.length_toList]at e
   omega
theorem Inv.list_inj(I:Inv X pins σ H s)(h:SqL X.K H a xs)(h':SqL X.K H a ys):xs=ys:=by
 obtain⟨its,r,⟨o,n,e,_,_,d⟩,_⟩:=I.list h
 obtain⟨its',r',⟨o',n',e',_,_,d'⟩,_⟩:=I.list h'
 rw[e]at e';cases e'
 rw[d]at d'
 injection d' with d1 _
 have:its=its':=by simpa using congrArg Array.toList d1
 subst this
 exact r.inj r'
theorem Inv.tuple_inj(I:Inv X pins σ H s)(h:SqT X.K H a xs)(h':SqT X.K H a ys):xs=ys:=by
 obtain⟨its,r,⟨o,e,_,n,d⟩,_⟩:=I.tuple h
 obtain⟨its',r',⟨o',e',_,n',d'⟩,_⟩:=I.tuple h'
 rw[e]at e';cases e'
 rw[d]at d'
 injection d' with d1 _
 have:its=its':=by simpa using congrArg Array.toList d1
 subst this
 exact r.inj r'
end
abbrev Cx.wish(X:Cx)(E:Value->Shared->Prop):Cx:={X with xe:=E}
abbrev Cx.nox(X:Cx):Cx:=X.wish λ_ _=>False
theorem Cx.Ok.wish{X:Cx}(ok:X.Ok)(E:Value->Shared->Prop):(X.wish E).Ok:=
 ⟨ok.mod,ok.kind,ok.glob,ok.blt,ok.above,ok.inj,ok.has,ok.cab,ok.hd,ok.frames,ok.stk,ok.exf,ok.bs,ok.bsz,ok.noex,ok.exfs,ok.funs,ok.frf⟩
theorem Cx.Ok.unwish{X:Cx}{E:Value->Shared->Prop}(ok:(X.wish E).Ok):X.Ok:=
 ⟨ok.mod,ok.kind,ok.glob,ok.blt,ok.above,ok.inj,ok.has,ok.cab,ok.hd,ok.frames,ok.stk,ok.exf,ok.bs,ok.bsz,ok.noex,ok.exfs,ok.funs,ok.frf⟩
section
variable {X : Cx} {pins : List (Addr × Obj)} {σ : St} {H : Hp} {s : Shared} {E : Value → Shared → Prop}
theorem Inv.wish(I:Inv X pins σ H s)(E:Value->Shared->Prop):Inv (X.wish E) pins σ H s:=⟨I.ok.wish E,I.os,I.bare,I.base,I.loc,I.cell,I.free,I.freeC,I.pin,I.hok,I.len⟩
theorem Inv.unwish(I:Inv (X.wish E) pins σ H s):Inv X pins σ H s:=⟨I.ok.unwish,I.os,I.bare,I.base,I.loc,I.cell,I.free,I.freeC,I.pin,I.hok,I.len⟩
theorem SP.unwish(h:SP (X.wish E) pins D f s'):SP X pins D f s':=by
 cases f with
 |next=>obtain⟨σ',H',I,q⟩:=h;exact⟨σ',H',I.unwish,q⟩
 |brk=>obtain⟨σ',H',I,q⟩:=h;exact⟨σ',H',I.unwish,q⟩
 |cont=>obtain⟨σ',H',I,q⟩:=h;exact⟨σ',H',I.unwish,q⟩
 |ret u=>obtain⟨v,σ',H',I,r,q⟩:=h;exact⟨v,σ',H',I.unwish,r,q⟩
theorem PSs.nox{st:List Stmt}{t:TS}(h:PSs X.nox st t):PSs X st t:=λpins s σ H D I hw=>
 wpAny_mono (h s σ H D (I.wish _) hw) (λ_ _ q=>q.unwish) λ_ _ z=>False.elim z
end
section
variable {X : Cx} {st : Stmt} {rest : List Stmt} {t u : TS} {e : Expr} {te : TE} {pos : Pos}
def do5:TS:=λD σ H=>D.nx σ H
def ey0(t u:TS):TS:=λD σ H=>t {D with nx:=u D} σ H
theorem bJ:PSs X [] do5:=λ_ _ σ H _ I h=>wpAny_execs_nil ⟨σ,H,I,h⟩
theorem aH(h1:PS X st t)(h2:PSs X rest u):PSs X (st::rest) (ey0 t u):=by
 intro pins s σ H D I h
 refine wpAny_execs_cons (cH (h1 s σ H {D with nx:=u D} I h) λf s1 q=>?_)
 cases f with
 |next=>
  obtain⟨σ',H',I',q⟩:=q
  exact h2 s1 σ' H' D I' q
 |ret v=>exact q
 |brk=>exact q
 |cont=>exact q
theorem aK(h1:PS X st t):PSs X [st] t:=by
 intro pins s σ H D I h
 refine wpAny_execs_cons (cH (h1 s σ H D I h) λf s1 q=>?_)
 cases f with
 |next=>exact wpAny_execs_nil q
 |ret v=>exact q
 |brk=>exact q
 |cont=>exact q
def cz7:TS:=λD σ H=>D.bk σ H
theorem du1:PS X (.Break pos) cz7:=λ_ _ σ H _ I h=>wpAny_Break ⟨σ,H,I,h⟩
theorem Inv.quiet(I:Inv X pins σ H s):interactive X.env=false:=by simp[interactive,I.ok.kind]
def cf4(te:TE):TS:=λD σ H=>te σ H λ_ H1=>D.nx σ H1
theorem fJ(he:PE X e te)(hs:swapsWith e none pos.line X.env=pure false:=by rfl):PS X (.Expr e pos) (cf4 te):=by
 intro pins s σ H D I h
 exact wpAny_Expr_any (cH (he s σ H _ I h) λv s1 ⟨x,H1,I1,r1,q1⟩=>⟨σ,H1,I1,q1⟩) I.quiet hs
def dh2(te:TE):TS:=λD σ H=>te σ H D.rt
theorem aU(he:PE X e te):PS X (.Return (some e) pos) (dh2 te):=by
 intro pins s σ H D I h
 exact wpAny_Return_some (cH (he s σ H _ I h) λv s1 ⟨x,H1,I1,r1,q1⟩=>⟨x,σ,H1,I1,r1,q1⟩)
def ep2(c:TT)(t u:TS):TS:=λD σ H=>c σ H λb H1=>if b=true then t D σ H1 else u D σ H1
theorem bV(hc:PT X c tc)(ha:PSs X a t)(hb:PSs X b u):PS X (.If c a b pos) (ep2 tc t u):=by
 intro pins s σ H D I h
 refine wpAny_If (cH (hc s σ H _ I h) λd s1 ⟨H1,I1,q1⟩=>?_)
 cases d with
 |true=>exact ha s1 σ H1 D I1 q1
 |false=>exact hb s1 σ H1 D I1 q1
end
abbrev TG:=V->St->Hp->(St->Hp->Prop)->Prop
abbrev TGs:=List V->St->Hp->(St->Hp->Prop)->Prop
def PG(X:Cx)(target:Expr)(t:TG):Prop:=
 ∀⦃pins:List (Addr×Obj)⦄ (s:Shared)(σ:St)(H:Hp)(v:V)(u:Value)(Q:St->Hp->Prop),Inv X pins σ H s->RelV v u->t v σ H Q->
  wpAny (model X.prog X.w) X.A (assign target X.env u) (λ_ s'=>∃σ' H',Inv X pins σ' H' s'/\Q σ' H') X.xe s
def PGs(X:Cx)(ts:List Expr)(t:TGs):Prop:=
 ∀⦃pins:List (Addr×Obj)⦄ (s:Shared)(σ:St)(H:Hp)(vs:List V)(us:List Value)(Q:St->Hp->Prop),Inv X pins σ H s->Vals vs us->t vs σ H Q->
  wpAny (model X.prog X.w) X.A (assignInOrder ((assignEach ts X.env).map (·.2)) us) (λ_ s'=>∃σ' H',Inv X pins σ' H' s'/\Q σ' H') X.xe s
abbrev eo3:=V->V->V->Hp->(Hp->Prop)->Prop
def er0(X:Cx)(t:eo3):Prop:=
 ∀⦃pins:List (Addr×Obj)⦄ (s:Shared)(σ:St)(H:Hp)(o i v:V)(ov iv u:Value)(Q:Hp->Prop),Inv X pins σ H s->RelV o ov->RelV i iv->RelV v u->t o i v H Q->
  wpAny (model X.prog X.w) X.A (setItem ov iv u) (λ_ s'=>∃H',Inv X pins σ H' s'/\Q H') X.xe s
section
variable {X : Cx} {pos : Pos}
def ad3(i:Nat):TG:=λv σ H Q=>Q (σ.set i (some v)) H
theorem dr7(hN:X.N.Nodup)(hi:X.N[i]?=some x)(hx:Loc X.env.scope x)(hf:X.fn x=true\/X.env.scope.names.lookup x=some .local:=by first|exact .inl rfl|exact .inr rfl|assumption):PG X (.Name x pos) (ad3 i):=by
 intro pins s σ H v u Q I r h
 exact wpAny_assign_Name (bq5 I hN hi hx r (λs' I'=>⟨_,H,I',h⟩) hf)
def ed4:TGs:=λvs σ H Q=>vs=[]/\Q σ H
def cc5(t:TG)(u:TGs):TGs:=λvs σ H Q=>∃v r,vs=v::r/\t v σ H λσ' H'=>u r σ' H' Q
theorem fP:PGs X [] ed4:=by
 intro pins s σ H vs us Q I r h
 obtain⟨e,h⟩:=h
 subst e
 cases r
 exact assignInOrder_nil ⟨σ,H,I,h⟩
theorem bL(h1:PG X e t)(h2:PGs X es u)
 (hs:(assignEach (e::es) X.env).map (·.2)=assign e X.env::(assignEach es X.env).map (·.2):=by rfl):PGs X (e::es) (cc5 t u):=by
 intro pins s σ H vs us Q I r h
 obtain⟨v,vr,e1,h⟩:=h
 subst e1
 cases r with
 |cons r rr=>
  rw[hs]
  refine assignInOrder_cons (cH (h1 s σ H _ _ _ I r h) λ_ s1 ⟨σ1,H1,I1,q1⟩=>?_)
  exact h2 s1 σ1 H1 _ _ Q I1 rr q1
def dp3(K:PySem.W.Frag)(n:Nat)(t:TGs):TG:=λv σ H Q=>∃a xs,v=.ref a/\SqT K H a xs/\xs.length=n/\t xs σ H Q
theorem eb0(hc:X.calm=true)(h:PGs X es t)
 (hn:(assignEach es X.env).length=n:=by rfl)(hst:(assignEach es X.env).findIdx? (·.1)=none:=by rfl):PG X (.Tuple es k pos) (dp3 X.K n t):=by
 intro pins s σ H v u Q I r hw
 obtain⟨a,xs,e1,hq,hl,hw⟩:=hw
 subst e1
 cases r
 obtain⟨its,rv,ht,hz⟩:=I.tuple hq
 refine assign_Tuple_tuple (I.ok.hd hc) ht (by simp[hn,<-hl,rv.length]) hst λh' hx=>?_
 have I1:Inv X pins σ H {s with heap:=h'}:=I.kept (t':=s.toks) λb o e=>hx b o (Nat.ne_of_lt (Heap.lt_size e)) e
 exact h _ σ H xs _ Q I1 (by simpa using rv) hw
def ek2(to ti:TE)(t:eo3):TG:=λv σ H Q=>to σ H λo H1=>ti σ H1 λi H2=>t o i v H2 λH3=>Q σ H3
theorem ce9(ho:PE X o to)(hi:PE X i ti)(hs:er0 X t)
 (ha:∀v,assign (.Subscript o i pos) X.env v=(do
  let ov<-holding [v] (eval o X.env)
  let iv<-holding [v,ov] (eval i X.env)
  standAt pos
  holding [v,ov,iv] (setItem ov iv v)
  release [v,ov,iv] []):=by intro _;rfl):PG X (.Subscript o i pos) (ek2 to ti t):=by
 intro pins s σ H v u Q I r h
 rw[ha]
 refine wpAny_bind (wpAny_holding (cH (ho s σ H _ I h) λov s1 ⟨x,H1,I1,r1,q1⟩=>?_))
 refine wpAny_bind (wpAny_holding (cH (hi s1 σ H1 _ I1 q1) λiv s2 ⟨y,H2,I2,r2,q2⟩=>?_))
 refine wpAny_bind (wpAny_standAt (wpAny_bind (wpAny_holding (cH (hs s2 σ H2 x y v ov iv u _ I2 r1 r2 r q2) λ_ s3 ⟨H3,I3,q3⟩=>?_))))
 exact wpAny_release ⟨σ,H3,I3,q3⟩
def ae9(te:TE)(g:TG):TS:=λD σ H=>te σ H λx H1=>g x σ H1 D.nx
theorem ax2(he:PE X e te)(hg:PG X tg g)(hs:swapsWithSole [tg] e pos.line X.env=pure false:=by rfl)(hw:swappedStores [tg] e X.env=pure none:=by rfl)
 (h1:(assignEach [tg] X.env).map (·.2)=[assign tg X.env]:=by rfl):PS X (.Assign [tg] e pos) (ae9 te g):=by
 intro pins s σ H D I h
 refine wpAny_Assign_stores (cH (he s σ H _ I h) λv s1 ⟨x,H1,I1,r1,q1⟩=>?_) hs hw
 rw[h1]
 exact cH (hg s1 σ H1 x v _ I1 r1 q1) λ_ s2 q=>q
theorem eq0(hN:X.N.Nodup)(hi:X.N[i]?=some x)(hx:Loc X.env.scope x)(he:PE X e te)(hs:swapsWith e (some (.Name x pos')) pos.line X.env=pure false:=by rfl)(hf:X.fn x=true\/X.env.scope.names.lookup x=some .local:=by first|exact .inl rfl|exact .inr rfl|assumption):
 PS X (.Assign [.Name x pos'] e pos) (ae9 te (ad3 i)):=by
 intro pins s σ H D I h
 refine wpAny_Assign_Name (cH (he s σ H _ I h) λv s1 ⟨y,H1,I1,r1,q1⟩=>?_) hs
 exact bq5 I1 hN hi hx r1 (λs2 I2=>⟨_,H1,I2,q1⟩) hf
end
section
variable {X : Cx} {pos : Pos}
def cz9(c:TT)(tb:TS):TS:=λD σ H=>∃W:Nat->St->Hp->Prop,(∃m,W m σ H)/\∀m σ H,W m σ H->
 c σ H λb H1=>if b=true then∃N:St->Hp->Prop,(∀σ' H',N σ' H'->∃m',m'<m/\W m' σ' H')/\tb {D with nx:=N,ct:=N,bk:=D.nx} σ H1 else D.nx σ H1
theorem do3(hp:PassesOwn (model X.prog X.w) X.A X.env X.xe)(hc:PT X c tc)(hb:PSs X body tb):PS X (.While c body [] pos) (cz9 tc tb):=by
 intro pins s σ H D I h
 obtain⟨W,⟨m0,w0⟩,turn⟩:=h
 refine wpAny_While (codeAny_whileLoop (λn s'=>∃σ' H',Inv X pins σ' H' s'/\W n σ' H') ?_ m0 ⟨σ,H,I,w0⟩)
 rintro n s1 ⟨σ1,H1,I1,w1⟩
 refine wpAny_passesOwn hp (cH (hc s1 σ1 H1 _ I1 (turn n σ1 H1 w1)) λb s2 ⟨H2,I2,q2⟩=>?_)
 cases b with
 |true=>
  obtain⟨N,hN,q2⟩:=q2
  rw[if_pos rfl]
  refine wpAny_passesOwn hp (cH (hb s2 σ1 H2 _ I2 q2) λf s3 q3=>?_)
  cases f with
  |next=>
   obtain⟨σ3,H3,I3,n3⟩:=q3
   obtain⟨m',hm,w3⟩:=hN σ3 H3 n3
   exact⟨m',hm,σ3,H3,I3,w3⟩
  |cont=>
   obtain⟨σ3,H3,I3,n3⟩:=q3
   obtain⟨m',hm,w3⟩:=hN σ3 H3 n3
   exact⟨m',hm,σ3,H3,I3,w3⟩
  |brk=>exact q3
  |ret v=>exact q3
 |false=>
  rw[if_neg Bool.false_ne_true]
  exact wpAny_execs_nil ⟨σ1,H2,I2,q2⟩
end
structure It where
 go:Nat->Hp->Prop
 yld:Nat->Hp->V->Hp->Prop
 stop:Nat->Hp->Prop
def sC(X:Cx)(pins:List (Addr×Obj))(H:Hp)(b:Addr):Prop:=
 H b=none/\b≠X.env.locals/\b∉X.fs/\(b∈X.ex\/X.s₀.heap.objs.size<=b)/\(∀x c,X.env.cells.lookup x=some c->c≠b)/\∀p∈X.pn++pins,p.1≠b
theorem Inv.fpOk(I:Inv X pins σ H s)(hb:s.heap.objs.size<=b)(hn:H' b=none):sC X pins H' b:=by
 refine⟨hn,Nat.ne_of_gt (Nat.lt_of_lt_of_le I.lt hb),I.nofs hb,.inr (Nat.le_trans I.sz hb),λx c e z=>?_,λp hp z=>?_⟩
 . obtain⟨v,q⟩:=I.cell x c e
   exact absurd (Nat.lt_of_lt_of_le q.lt (by rw[z];exact hb)) (Nat.lt_irrefl _)
 . exact absurd (Nat.lt_of_lt_of_le (Heap.lt_size (I.pin p hp).1) (by rw[z];exact hb)) (Nat.lt_irrefl _)
structure at2 (P:Program) (w:World) (K:PySem.W.Frag) (tg:Expr) (J:It) (fp:List Addr) (it:Addr) (tn:Nat->Heap->Prop):Prop where
 mem:it∈fp
 obj:∀i h,tn i h->∀b∈fp,∃o,h.get? b=some o/\∀v,o.data≠ .cell v
 keep:∀i h h',tn i h->(∀b∈fp,∀o,h.get? b=some o->h'.get? b=some o)->tn i h'
 item:∀(X:Cx),X.prog=P->X.w=w->X.K=K->X.calm=true->∀(i:Nat)(pins:List (Addr×Obj))(s:Shared)(σ:St)(H:Hp)(E:Value->Shared->Prop),Inv X pins σ H s->(∀b∈fp,sC X pins H b)->tn i s.heap->J.go i H->
  wpAny (model P w) X.A (pyNext (.ref it)) (λr s1=>∃u,r=some u/\
   wpAny (model P w) X.A (letOwnedTupleGo tg (.ref it) u) (λ_ s2=>∃x H',Inv X pins σ H' s2/\RelV x u/\J.yld i H x H'/\tn (i+1) s2.heap/\∀b∈fp,H' b=none) E s1) E s
 done:∀(X:Cx),X.prog=P->X.w=w->X.K=K->X.calm=true->∀(i:Nat)(pins:List (Addr×Obj))(s:Shared)(σ:St)(H:Hp)(E:Value->Shared->Prop),Inv X pins σ H s->(∀b∈fp,sC X pins H b)->tn i s.heap->J.stop i H->
  wpAny (model P w) X.A (pyNext (.ref it)) (λr s1=>r=none/\Inv X pins σ H s1) E s
 self:∀(A:Around)(i:Nat)(s:Shared)(Q:Value->Shared->Prop)(E:Value->Shared->Prop),tn i s.heap->Q (.ref it) s->wpAny (model P w) A (pyIter (.ref it)) Q E s
abbrev TI:=St->Hp->(It->Hp->Prop)->Prop
def PIE(X:Cx)(pins:List (Addr×Obj))(σ:St)(tg:Expr)(R:It->Hp->Prop)(itv:Value)(s2:Shared):Prop:=
 ∃(it:Addr)(fp:List Addr)(tn:Nat->Heap->Prop)(J:It)(H':Hp),itv=.ref it/\Inv X pins σ H' s2/\at2 X.prog X.w X.K tg J fp it tn/\tn 0 s2.heap/\(∀b∈fp,sC X pins H' b)/\R J H'
def PI(X:Cx)(tg iter:Expr)(wi:TI):Prop:=
 ∀⦃pins:List (Addr×Obj)⦄ (s:Shared)(σ:St)(H:Hp)(R:It->Hp->Prop),Inv X pins σ H s->wi σ H R->
  wpAny (model X.prog X.w) X.A (eval iter X.env) (λv s1=>wpAny (model X.prog X.w) X.A (pyIter v) (PIE X pins σ tg R) X.xe s1) X.xe s
theorem cx3 (ho : s.heap.get? it = some o) (hc : o.cls = .type n) (hd : o.data = .fields vs)
    (hn : ["enumerate", "zip", "dict_itemiterator", "dict_reverseitemiterator", "odict_iterator", "itertools.zip_longest", "itertools.pairwise"].contains n = false) (hQ : Q () s) : wpAny M A (letOwnedTupleGo tg (.ref it) u) Q E s := by
  unfold letOwnedTupleGo
  cases tg <;> first
    | exact wpAny_pure hQ
    | (cases u <;> first
        | exact wpAny_pure hQ
        | (refine wpAny_bind (wpAny_load ho ?_)
           rw [hc, hd]
           show wpAny M A (if (["enumerate", "zip", "dict_itemiterator", "dict_reverseitemiterator", "odict_iterator", "itertools.zip_longest", "itertools.pairwise"].contains n && vs[0]? == some (rawInt _)) = true then _ else _) Q E s
           rw [if_neg (by intro h; rw [hn, Bool.false_and] at h; cases h)]
           exact wpAny_pure hQ))
def Itl(K:PySem.W.Frag)(a:Addr):It:=
 ⟨λi H=>∃xs x,SqL K H a xs/\xs[i]?=some x,λi H x H'=>H'=H/\∀xs,SqL K H a xs->xs[i]?=some x,λi H=>∃xs,SqL K H a xs/\xs.length<=i⟩
def Itt(K:PySem.W.Frag)(a:Addr):It:=
 ⟨λi H=>∃xs x,SqT K H a xs/\xs[i]?=some x,λi H x H'=>H'=H/\∀xs,SqT K H a xs->xs[i]?=some x,λi H=>∃xs,SqT K H a xs/\xs.length<=i⟩
def Itr(lo:Int)(n:Nat):It:=⟨λi _=>i<n,λi H x H'=>H'=H/\x=.int (lo+i),λi _=>n<=i⟩
theorem cx9{P:Program}{w:World}{K:PySem.W.Frag}{tg:Expr}(a it:Addr):at2 P w K tg (Itl K a) [it] it (λi h=>h.IsListIter it a i) where
 mem:=by simp
 obj:=λi h st b hb=>by
  have e:b=it:=by simpa using hb
  subst e
  obtain⟨o,e,c,d⟩:=st
  exact⟨o,e,λv z=>by rw[d]at z;cases z⟩
 keep:=λi h h' st k=>st.at λo e=>k it (by simp) o e
 item:=by
  intro X hP hw hK hc i pins s σ H E I hf st hg
  subst hP hw hK
  obtain⟨xs,x,hq,hx⟩:=hg
  obtain⟨its,rv,p,hz⟩:=I.list hq
  obtain⟨u,hu,ru⟩:=rv.get hx
  obtain⟨f0,f1,f2,f3,f4,f5⟩:=hf it (by simp)
  refine wpAny_pyNext_list_item st p.isList (x:=u) (by simpa using hu) λh' st' sb=>?_
  have I1:Inv X pins σ H {s with heap:=h'}:=I.turned (t':=s.toks) (λb o hb e=>(sb.2 b hb).trans e) f0 f1 f3 f4 f5
  obtain⟨o,e,c,d⟩:=id st'
  exact⟨u,rfl,cx3 (s:={s with heap:=h'}) e c d (by decide) ⟨x,H,I1,ru,⟨rfl,λys hy=>by rw[I.list_inj hy hq];exact hx⟩,st',λb hb=>(hf b hb).1⟩⟩
 done:=by
  intro X hP hw hK hc i pins s σ H E I hf st hg
  subst hP hw hK
  obtain⟨xs,hq,hx⟩:=hg
  obtain⟨its,rv,p,hz⟩:=I.list hq
  obtain⟨f0,f1,f2,f3,f4,f5⟩:=hf it (by simp)
  have hl:=rv.length
  exact wpAny_pyNext_list_end (I.ok.hd hc) st p.isList (by simp;omega) λh' eb=>⟨rfl,I.turned (t':=s.toks) (λb o hb e=>eb b o hb e) f0 f1 f3 f4 f5⟩
 self:=λ_ _ _ _ _ st h=>wpAny_pyIter_listiter st h
theorem cc2{P:Program}{w:World}{K:PySem.W.Frag}{tg:Expr}(a it:Addr):at2 P w K tg (Itt K a) [it] it (λi h=>h.IsTupleIter it a i) where
 mem:=by simp
 obj:=λi h st b hb=>by
  have e:b=it:=by simpa using hb
  subst e
  obtain⟨o,e,c,d⟩:=st
  exact⟨o,e,λv z=>by rw[d]at z;cases z⟩
 keep:=λi h h' st k=>st.at λo e=>k it (by simp) o e
 item:=by
  intro X hP hw hK hc i pins s σ H E I hf st hg
  subst hP hw hK
  obtain⟨xs,x,hq,hx⟩:=hg
  obtain⟨its,rv,p,hz⟩:=I.tuple hq
  obtain⟨u,hu,ru⟩:=rv.get hx
  obtain⟨f0,f1,f2,f3,f4,f5⟩:=hf it (by simp)
  refine wpAny_pyNext_tuple_item st (show s.heap.IsTuple a its.toArray from p) (x:=u) (by simpa using hu) λh' st' sb=>?_
  have I1:Inv X pins σ H {s with heap:=h'}:=I.turned (t':=s.toks) (λb o hb e=>(sb.2 b hb).trans e) f0 f1 f3 f4 f5
  obtain⟨o,e,c,d⟩:=id st'
  exact⟨u,rfl,cx3 (s:={s with heap:=h'}) e c d (by decide) ⟨x,H,I1,ru,⟨rfl,λys hy=>by rw[I.tuple_inj hy hq];exact hx⟩,st',λb hb=>(hf b hb).1⟩⟩
 done:=by
  intro X hP hw hK hc i pins s σ H E I hf st hg
  subst hP hw hK
  obtain⟨xs,hq,hx⟩:=hg
  obtain⟨its,rv,p,hz⟩:=I.tuple hq
  obtain⟨f0,f1,f2,f3,f4,f5⟩:=hf it (by simp)
  have hl:=rv.length
  exact wpAny_pyNext_tuple_end (I.ok.hd hc) st (show s.heap.IsTuple a its.toArray from p) (by simp;omega) λh' eb=>⟨rfl,I.turned (t':=s.toks) (λb o hb e=>eb b o hb e) f0 f1 f3 f4 f5⟩
 self:=λ_ _ _ _ _ st h=>wpAny_pyIter_tupleiter st h
theorem cu3{P:Program}{w:World}{K:PySem.W.Frag}{tg:Expr}(it:Addr)(lo:Int)(n:Nat):at2 P w K tg (Itr lo n) [it] it (λi h=>IsRangeIter h it (lo+(i:Nat)*1) ((n:Int)-(i:Nat)) 1) where
 mem:=by simp
 obj:=λi h st b hb=>by
  have e:b=it:=by simpa using hb
  subst e
  exact⟨_,st,λv z=>by
   have z':Data.fields _=Data.cell v:=z
   cases z'⟩
 keep:=λi h h' st k=>k it (by simp) _ st
 item:=by
  intro X hP hw hK hc i pins s σ H E I hf st hg
  subst hP hw hK
  obtain⟨f0,f1,f2,f3,f4,f5⟩:=hf it (by simp)
  have W:=Walks.range (prog:=X.prog) (w:=X.w) (I.ok.hd hc) it lo 1 n
  refine W.item i s _ _ hg st λv h' tk hv st' kk=>?_
  obtain⟨t,rfl⟩:=hv
  have I1:Inv X pins σ H {s with heap:=h',toks:=tk}:=I.turned (λb o hb e=>kk b o (by simpa using hb) e) f0 f1 f3 f4 f5
  refine⟨_,rfl,cx3 (s:={s with heap:=h',toks:=tk}) (n:="range_iterator") st' rfl rfl (by decide) ⟨.int (lo+i),H,I1,⟨t,?_⟩,⟨rfl,rfl⟩,st',λb hb=>(hf b hb).1⟩⟩
  rw[Int.mul_one]
 done:=by
  intro X hP hw hK hc i pins s σ H E I hf st hg
  subst hP hw hK
  obtain⟨f0,f1,f2,f3,f4,f5⟩:=hf it (by simp)
  exact wpAny_pyNext_range_end (I.ok.hd hc) st (by have:n<=i:=hg;omega) λh' eb=>⟨rfl,I.turned (t':=s.toks) (λb o hb e=>eb b o hb e) f0 f1 f3 f4 f5⟩
 self:=λ_ _ _ _ _ st h=>wpAny_pyIter_rangeiter st h
end L2
namespace L2
open PySem PySem.Spec PyProof.Rows
section
variable {X : Cx} {tg : Expr}
theorem bd7{pins:List (Addr×Obj)}{σ:St}{H:Hp}{s:Shared}{R:It->Hp->Prop}{E:Value->Shared->Prop}{lo hi:Int}{t u v:Tok}{tk:Nat}(I:Inv X pins σ H s)(h1:-(2^62)<=lo)(h2:lo<2^62)(h3:-(2^62)<=hi)(h4:hi<2^62)
 (q:R (Itr lo (hi-lo).toNat) H):wpAny (model X.prog X.w) X.A (pyIter (.ref s.heap.objs.size)) (PIE X pins σ tg R) E {s with heap:=s.heap.push {cls:=.type "range",data:=.fields #[.int lo t,.int hi u,.int 1 v]},toks:=tk}:=by
 refine wpAny_pyIter_range (IsRange.new ..) (small_one h1 h2 h3 h4) ?_
 have I1:Inv X pins σ H {s with heap:=s.heap.push {cls:=.type "range",data:=.fields #[.int lo t,.int hi u,.int 1 v]},toks:=tk}:=I.kept λb o e=>Heap.get?_push_of_some _ e
 refine⟨(s.heap.push {cls:=.type "range",data:=.fields #[.int lo t,.int hi u,.int 1 v]}).objs.size,[(s.heap.push {cls:=.type "range",data:=.fields #[.int lo t,.int hi u,.int 1 v]}).objs.size],_,_,H,rfl,
  I1.kept (t':=tk) λb o e=>Heap.get?_push_of_some _ e,cu3 _ lo (hi-lo).toNat,?_,λb hb=>?_,q⟩
 . have e1:lo+((0:Nat):Int)*1=lo:=by simp
   have e2:(((hi-lo).toNat:Nat):Int)-((0:Nat):Int)=Builtin.Range.rangeSize lo hi 1:=by rw[rangeSize_one];split<;>omega
   show IsRangeIter _ _ (lo+((0:Nat):Int)*1) ((((hi-lo).toNat:Nat):Int)-((0:Nat):Int)) 1
   rw[e1,e2]
   exact Heap.get?_push_size _ rfl
 . have e:b=(s.heap.push {cls:=.type "range",data:=.fields #[.int lo t,.int hi u,.int 1 v]}).objs.size:=by simpa using hb
   subst e
   exact I1.fpOk (Nat.le_refl _) (I1.hok.fresh (Nat.le_refl _))
def dq5(ta:TA):TI:=λσ H R=>ta σ H λvs H1=>∃j:Int,vs=[.int j]/\-(2^62)<=j/\j<2^62/\R (Itr 0 j.toNat) H1
def dd6(ta:TA):TI:=λσ H R=>ta σ H λvs H1=>∃i j:Int,vs=[.int i,.int j]/\(-(2^62)<=i/\i<2^62/\-(2^62)<=j/\j<2^62)/\R (Itr i (j-i).toNat) H1
theorem fV{a:Expr}{ta:TA}{p pos:Pos}(hg:Gl X "range")(hm:X.mg "range"=none)(ha:PA X [a] ta)(hs:starEach [a] X.env=[(false,eval a X.env)]:=by rfl):PI X tg (.Call (.Name "range" p) [a] [] pos) (dq5 ta):=by
 intro pins s σ H R I h
 refine Call_ (nI I hg hm boot_range (PyProof.Rows.callWith_type1 (cH (ha pins s σ H _ I h) λus s1 ⟨vs,H1,I1,r1,q1⟩=>?_) hs rfl))
 obtain⟨j,e,q1,q2,q⟩:=q1
 subst e
 cases r1 with
 |cons r rr=>
  cases rr
  obtain⟨t,rfl⟩:=r
  exact call_range_1 (bd7 I1 (by omega) (by omega) q1 q2 (by simpa using q))
theorem cq6(hg:Gl X "range")(hm:X.mg "range"=none)(ha:PA X [a,b] ta)(hs:starEach [a,b] X.env=[(false,eval a X.env),(false,eval b X.env)]:=by rfl)(hs2:starEach [b] X.env=[(false,eval b X.env)]:=by rfl):
 PI X tg (.Call (.Name "range" p) [a,b] [] pos) (dd6 ta):=by
 intro pins s σ H R I h
 refine Call_ (nI I hg hm boot_range (PyProof.Rows.callWith_type1 (cH (ha pins s σ H _ I h) λus s1 ⟨vs,H1,I1,r1,q1⟩=>?_) (by rw[hs,hs2]) (by rw[hs2];rfl)))
 obtain⟨i,j,e,⟨q1,q2,q3,q4⟩,q⟩:=q1
 subst e
 cases r1 with
 |cons r rr=>
  cases rr with
  |cons r' rr=>
   cases rr
   obtain⟨t,rfl⟩:=r
   obtain⟨t',rfl⟩:=r'
   exact call_range_2 (bd7 I1 q1 q2 q3 q4 q)
def el2(wi:TI)(g:TG)(tb:TS):TS:=λD σ H=>wi σ H λJ H1=>∃W:Nat->Nat->St->Hp->Prop,(∃m,W 0 m σ H1)/\∀i m σ H,W i m σ H->
 (J.stop i H/\D.nx σ H)\/(J.go i H/\∃N:St->Hp->Prop,(∀σ' H',N σ' H'->∃m',m'<m/\W (i+1) m' σ' H')/\∀x H',J.yld i H x H'->g x σ H' λσ2 H2=>tb {D with nx:=N,ct:=N,bk:=D.nx} σ2 H2)
def yG(fp:List Addr)(h:Heap):List (Addr×Obj):=fp.filterMap λb=>(h.get? b).map λo=>(b,o)
theorem uN(hb:b∈fp)(e:h.get? b=some o):(b,o)∈yG fp h:=List.mem_filterMap.mpr ⟨b,hb,by rw[e];rfl⟩
theorem cy6(hp:p∈yG fp h):p.1∈fp/\h.get? p.1=some p.2:=by
 obtain⟨b,hb,e⟩:=List.mem_filterMap.mp hp
 cases q:h.get? b with
 |none=>rw[q]at e;cases e
 |some o=>
  rw[q]at e
  have e':(b,o)=p:=Option.some.inj e
  subst e'
  exact⟨hb,q⟩
theorem Inv.pinned(I:Inv X pins σ H s)(hf:∀b∈fp,sC X pins H b)(ho:∀b∈fp,∃o,s.heap.get? b=some o/\∀v,o.data≠ .cell v):Inv X (pins++yG fp s.heap) σ H s:=
 I.pins_of λp hp=>(List.mem_append.mp hp).elim (λz=>I.pin p (List.mem_append_right _ z)) λz=>by
  obtain⟨hb,e⟩:=cy6 z
  obtain⟨f0,f1,f2,_⟩:=hf p.1 hb
  obtain⟨o,e',d⟩:=ho p.1 hb
  rw[e]at e';cases e'
  exact⟨e,f0,f1,f2,d⟩
theorem Inv.unpinned(I:Inv X (pins++pl) σ H s):Inv X pins σ H s:=I.pins_of λp hp=>I.pin p (List.mem_append_right _ (List.mem_append_left _ hp))
theorem gE(hp:PassesOwn (model X.prog X.w) X.A X.env X.xe)(hc:X.calm=true)(hi:PI X tg iter wi)(hg:PG X tg g)(hb:PSs X body tb)
 (hs:∀x,foldedSetIterable iter X.env x=pure x:=by intro _;rfl):PS X (.For tg iter body [] pos) (el2 wi g tb):=by
 intro pins s σ H D I h
 refine wpAny_For (cH (hi s σ H _ I h) λv s1 h1=>cH h1 λitv s2 h2=>?_) hs
 obtain⟨it,fp,tn,J,H2,e,I2,T,st2,f2,W,⟨m0,w0⟩,turn⟩:=h2
 subst e
 have stat:∀{H':Hp},(∀b∈fp,H' b=none)->∀b∈fp,sC X pins H' b:=λhn b hb=>⟨hn b hb,(f2 b hb).2⟩
 refine codeAny_forLoop_any (λn s'=>∃i σ' H',Inv X pins σ' H' s'/\tn i s'.heap/\(∀b∈fp,H' b=none)/\W i n σ' H') ?_ m0 ⟨0,σ,H2,I2,st2,λb hb=>(f2 b hb).1,w0⟩
 rintro n s3 ⟨i,σ3,H3,I3,st3,fr3,w3⟩
 rcases turn i n σ3 H3 w3 with⟨stop,qn⟩|⟨go,N,hN,step⟩
 . refine wpAny_passesOwn hp (cH (T.done X rfl rfl rfl hc i pins s3 σ3 H3 X.xe I3 (stat fr3) st3 stop) λr s4 ⟨hr,I4⟩=>?_)
   subst hr
   exact wpAny_execs_nil ⟨σ3,H3,I4,qn⟩
 . refine wpAny_passesOwn hp (cH (T.item X rfl rfl rfl hc i pins s3 σ3 H3 X.xe I3 (stat fr3) st3 go) λr s4 ⟨u,hr,h4⟩=>?_)
   subst hr
   refine wpAny_passesOwn hp (cH h4 λ_ s5 ⟨x,H5,I5,r5,y5,st5,fr5⟩=>?_)
   have I5':=I5.pinned (stat fr5) (T.obj _ _ st5)
   refine wpAny_passesOwn hp (cH (hg s5 σ3 H5 x u _ I5' r5 (step x H5 y5)) λ_ s6 ⟨σ6,H6,I6,q6⟩=>?_)
   refine wpAny_passesOwn hp (cH (hb s6 σ6 H6 _ I6 q6) λf s7 q7=>?_)
   have again:∀{σ7:St}{H7:Hp},Inv X (pins++yG fp s5.heap) σ7 H7 s7->N σ7 H7->∃m,m<n/\∃i σ' H',Inv X pins σ' H' s7/\tn i s7.heap/\(∀b∈fp,H' b=none)/\W i m σ' H':=λ{σ7 H7} I7 n7=>by
    obtain⟨m',hm,w7⟩:=hN σ7 H7 n7
    refine⟨m',hm,i+1,σ7,H7,I7.unpinned,T.keep _ _ _ st5 λb hb o e=>(I7.pin (b,o) (List.mem_append_right _ (List.mem_append_right _ (uN hb e)))).1,λb hb=>?_,w7⟩
    obtain⟨o,e,d⟩:=T.obj _ _ st5 b hb
    exact(I7.pin (b,o) (List.mem_append_right _ (List.mem_append_right _ (uN hb e)))).2.1
   cases f with
   |next=>obtain⟨σ7,H7,I7,n7⟩:=q7;exact again I7 n7
   |cont=>obtain⟨σ7,H7,I7,n7⟩:=q7;exact again I7 n7
   |brk=>obtain⟨σ7,H7,I7,q7⟩:=q7;exact⟨σ7,H7,I7.unpinned,q7⟩
   |ret v=>obtain⟨x7,σ7,H7,I7,r7,q7⟩:=q7;exact⟨x7,σ7,H7,I7.unpinned,r7,q7⟩
end
end L2
namespace L2
open PySem PySem.Spec PyProof.Rows
abbrev R2:=V->V->Hp->VK->Prop
def OpR(X:Cx)(f:Value->Value->Sem Value)(r:R2):Prop:=
 ∀⦃pins:List (Addr×Obj)⦄ (s:Shared)(σ:St)(H:Hp)(x y:V)(v u:Value)(Q:VK),Inv X pins σ H s->RelV x v->RelV y u->r x y H Q->
  wpAny (model X.prog X.w) X.A (f v u) (EP X pins σ Q) X.xe s
def UnR(X:Cx)(f:Value->Sem Value)(r:V->Hp->VK->Prop):Prop:=
 ∀⦃pins:List (Addr×Obj)⦄ (s:Shared)(σ:St)(H:Hp)(x:V)(v:Value)(Q:VK),Inv X pins σ H s->RelV x v->r x H Q->
  wpAny (model X.prog X.w) X.A (f v) (EP X pins σ Q) X.xe s
def CallR(X:Cx)(f:Value)(r:List V->Hp->VK->Prop):Prop:=
 ∀⦃pins:List (Addr×Obj)⦄ (s:Shared)(σ:St)(H:Hp)(xs:List V)(us:List Value)(Q:VK),Inv X pins σ H s->Vals xs us->r xs H Q->
  wpAny (model X.prog X.w) X.A (call f us) (EP X pins σ Q) X.xe s
def eh7(X:Cx)(r:V->Hp->(Bool->Hp->Prop)->Prop):Prop:=
 ∀⦃pins:List (Addr×Obj)⦄ (s:Shared)(σ:St)(H:Hp)(x:V)(v:Value)(Q:Bool->Hp->Prop),Inv X pins σ H s->RelV x v->r x H Q->
  wpAny (model X.prog X.w) X.A (truthy v) (TP X pins σ Q) X.xe s
def tOp(r:R2)(ta tb:TE):TE:=λσ H Q=>ta σ H λx H1=>tb σ H1 λy H2=>r x y H2 Q
def tUn(r:V->Hp->VK->Prop)(ta:TE):TE:=λσ H Q=>ta σ H λx H1=>r x H1 Q
def rI(C:Int->Int->Prop)(g:Int->Int->V):R2:=λx y H Q=>∃i j,x=.int i/\y=.int j/\C i j/\Q (g i j) H
def wG(g:Int->Int->V):R2:=λx y H Q=>∃i j,x=.int i/\y=.int j/\Q (g i j) H
def rU(g:Int->V):V->Hp->VK->Prop:=λx H Q=>∃i,x=.int i/\Q (g i) H
section
variable {X : Cx} {a b c : Expr} {ta tb tc : TE} {pos : Pos}
theorem du0(ha:PE X a ta)(hb:PE X b tb){pins:List (Addr×Obj)}{s:Shared}{σ:St}{H:Hp}{R:V->V->Hp->Prop}(I:Inv X pins σ H s)
 (h:ta σ H λx H1=>tb σ H1 λy H2=>R x y H2){Q:Value->Shared->Prop}{f:Value->Value->Sem Value}
 (hf:∀v u s2 x y H2,Inv X pins σ H2 s2->RelV x v->RelV y u->R x y H2->wpAny (model X.prog X.w) X.A (f v u) Q X.xe s2):
 wpAny (model X.prog X.w) X.A (eval a X.env) (λv s₁=>wpAny (model X.prog X.w) X.A (eval b X.env) (λu s₂=>wpAny (model X.prog X.w) X.A (f v u) Q X.xe s₂) X.xe s₁) X.xe s:=by
 refine cH (ha s σ H _ I h) λv s1 ⟨x,H1,I1,r1,q1⟩=>?_
 refine cH (hb s1 σ H1 _ I1 q1) λu s2 ⟨y,H2,I2,r2,q2⟩=>?_
 exact hf v u s2 x y H2 I2 r1 r2 q2
theorem aL{op:Operator}{r:R2}(ho:OpR X (binaryOp op) r)(ha:PE X a ta)(hb:PE X b tb):PE X (.BinOp a op b pos) (tOp r ta tb):=by
 intro pins s σ H Q I h
 exact wpAny_BinOp (du0 ha hb I h λv u s2 x y H2 I2 rx ry q=>ho s2 σ H2 x y v u Q I2 rx ry q)
theorem wJ(ho:UnR X (unaryOp op) r)(ha:PE X a ta):PE X (.UnaryOp op a pos) (tUn r ta):=by
 intro pins s σ H Q I h
 exact UnaryOp_ (cH (ha s σ H _ I h) λv s1 ⟨x,H1,I1,r1,q1⟩=>ho s1 σ H1 x v Q I1 r1 q1)
theorem opI{f:Value->Value->Sem Value}{C:Int->Int->Prop}{g:Int->Int->Int}
 (rule:∀(i j:Int)(t u:Tok)(s:Shared)(Q:Value->Shared->Prop)(E:Value->Shared->Prop),C i j->Q (.int (g i j) s.toks) {s with toks:=s.toks+1}->wpAny (model X.prog X.w) X.A (f (.int i t) (.int j u)) Q E s):
 OpR X f (rI C λi j=>.int (g i j)):=by
 intro pins s σ H x y v u Q I rx ry h
 obtain⟨i,j,rfl,rfl,hc,q⟩:=h
 obtain⟨t,rfl⟩:=rx
 obtain⟨t',rfl⟩:=ry
 exact rule i j t t' s _ _ hc ⟨.int (g i j),H,I.tok _,⟨_,rfl⟩,q⟩
theorem ew3{f:Value->Value->Sem Value}{g:Int->Int->Int}
 (rule:∀(i j:Int)(t u:Tok)(s:Shared)(Q:Value->Shared->Prop)(E:Value->Shared->Prop),Q (.int (g i j) s.toks) {s with toks:=s.toks+1}->wpAny (model X.prog X.w) X.A (f (.int i t) (.int j u)) Q E s):
 OpR X f (wG λi j=>.int (g i j)):=by
 intro pins s σ H x y v u Q I rx ry h
 obtain⟨i,j,rfl,rfl,q⟩:=h
 obtain⟨t,rfl⟩:=rx
 obtain⟨t',rfl⟩:=ry
 exact rule i j t t' s _ _ ⟨.int (g i j),H,I.tok _,⟨_,rfl⟩,q⟩
theorem cy5{f:Value->Value->Sem Value}{g:Int->Int->Bool}
 (rule:∀(i j:Int)(t u:Tok)(s:Shared)(Q:Value->Shared->Prop)(E:Value->Shared->Prop),Q (.bool (g i j)) s->wpAny (model X.prog X.w) X.A (f (.int i t) (.int j u)) Q E s):
 OpR X f (wG λi j=>.bl (g i j)):=by
 intro pins s σ H x y v u Q I rx ry h
 obtain⟨i,j,rfl,rfl,q⟩:=h
 obtain⟨t,rfl⟩:=rx
 obtain⟨t',rfl⟩:=ry
 exact rule i j t t' s _ _ ⟨.bl (g i j),H,I,rfl,q⟩
def xK(i j:Int):Prop:=0<j/\j<1073741824
def ay0(i j:Int):Prop:=0<=j/\j<=1000000/\i.natAbs<2^64
theorem op_add:OpR X (binaryOp .Add) (wG λi j=>.int (i+j)):=ew3 λ_ _ _ _ _ _ _ q=>add_int q
theorem cJ:OpR X (binaryOp .Sub) (wG λi j=>.int (i-j)):=ew3 λ_ _ _ _ _ _ _ q=>sub_int q
theorem gK:OpR X (binaryOp .FloorDiv) (rI xK λi j=>.int (i/j)):=opI λi j _ _ _ _ _ hc q=>by
 have h1:(0:Int)<j:=hc.1
 have h2:j<1073741824:=hc.2
 exact floordiv_int (by omega) (by rw[Int.fdiv_eq_ediv_of_nonneg i (by omega)];exact q) (.inl (PyProof.noPylong_small (by omega)))
theorem bU:OpR X (binaryOp .Mod) (rI (λ_ j=>0<j) λi j=>.int (i%j)):=opI λi j _ _ _ _ _ hc q=>by
 have h1:(0:Int)<j:=hc
 exact mod_int' (by omega) (by rw[Int.fmod_eq_emod_of_nonneg i (by omega)];exact q)
theorem ba7:OpR X (binaryOp .Pow) (rI ay0 λi j=>.int (i^j.toNat)):=opI λ_ _ _ _ _ _ _ hc q=>pow_int_small hc.1 hc.2.1 hc.2.2 q
theorem unI{f:Value->Sem Value}{g:Int->Int}
 (rule:∀(i:Int)(t:Tok)(s:Shared)(Q:Value->Shared->Prop)(E:Value->Shared->Prop),Q (.int (g i) s.toks) {s with toks:=s.toks+1}->wpAny (model X.prog X.w) X.A (f (.int i t)) Q E s):
 UnR X f (rU λi=>.int (g i)):=by
 intro pins s σ H x v Q I rx h
 obtain⟨i,rfl,q⟩:=h
 obtain⟨t,rfl⟩:=rx
 exact rule i t s _ _ ⟨.int (g i),H,I.tok _,⟨_,rfl⟩,q⟩
theorem tQ:UnR X (unaryOp .USub) (rU λi=>.int (-i)):=unI λ_ _ _ _ _ q=>neg_int q
end
def do4:V->V->Bool
 |.non,.non=>true|.non,.int _=>true|.int _,.non=>true|.non,.bl _=>true|.bl _,.non=>true|.non,.str _=>true|.str _,.non=>true
 |.int _,.int _=>true|.bl _,.bl _=>true|.str _,.str _=>true|.byt _,.byt _=>true
 |.int _,.str _=>true|.str _,.int _=>true|.bl _,.str _=>true|.str _,.bl _=>true
 |_,_=>false
def rEq:R2:=λx y H Q=>do4 x y=true/\Q (.bl (decide (x=y))) H
def rNe:R2:=λx y H Q=>do4 x y=true/\Q (.bl (!decide (x=y))) H
theorem ah9:decide (V.int i=V.int j)=(i==j):=by
 rw[Bool.eq_iff_iff]
 simp
theorem bk8:decide (V.bl i=V.bl j)=(i==j):=by
 rw[Bool.eq_iff_iff]
 simp
theorem bv0:decide (V.str i=V.str j)=(i==j):=by
 rw[Bool.eq_iff_iff]
 simp
theorem ck1:decide (V.byt i=V.byt j)=(i.toList==j.toList):=by
 rw[Bool.eq_iff_iff]
 cases i
 cases j
 simp
section
variable {X : Cx} {a b c : Expr} {ta tb tc : TE} {pos : Pos}
theorem dE(I:Inv X pins σ H s)(q:Q (.bl k) H)(e:k=k'):EP X pins σ Q (.bool k') s:=by
 subst e
 exact⟨.bl k,H,I,rfl,q⟩
theorem ek6:OpR X (compareOp .Eq) rEq:=by
 intro pins s σ H x y v u Q I rx ry h
 obtain⟨hs,q⟩:=h
 cases x with
 |non=>
  cases rx
  cases y with
  |non=>cases ry;exact PySem.EqNone.eq_none_none (dE I q (by simp))
  |bl j=>cases ry;exact PySem.EqNone.eq_none_bool (dE I q (by simp))
  |int j=>obtain⟨t',rfl⟩:=ry;exact PySem.EqNone.eq_none_int (dE I q (by simp))
  |str j=>obtain⟨t',rfl⟩:=ry;exact PySem.EqNone.eq_none_str (dE I q (by simp))
  |_=>exact absurd (show false=true from hs) Bool.false_ne_true
 |bl i=>
  cases rx
  cases y with
  |non=>cases ry;exact PySem.EqNone.eq_bool_none (dE I q (by simp))
  |bl j=>cases ry;exact eq_bool (dE I q bk8)
  |str j=>obtain⟨t',rfl⟩:=ry;exact PySem.EqMixed.eq_bool_str (dE I q (by simp))
  |_=>exact absurd (show false=true from hs) Bool.false_ne_true
 |int i=>
  obtain⟨t,rfl⟩:=rx
  cases y with
  |non=>cases ry;exact PySem.EqNone.eq_int_none (dE I q (by simp))
  |int j=>obtain⟨t',rfl⟩:=ry;exact eq_int (dE I q ah9)
  |str j=>obtain⟨t',rfl⟩:=ry;exact PySem.EqMixed.eq_int_str (dE I q (by simp))
  |_=>exact absurd (show false=true from hs) Bool.false_ne_true
 |str i=>
  obtain⟨t,rfl⟩:=rx
  cases y with
  |non=>cases ry;exact PySem.EqNone.eq_str_none (dE I q (by simp))
  |bl j=>cases ry;exact PySem.EqMixed.eq_str_bool (dE I q (by simp))
  |int j=>obtain⟨t',rfl⟩:=ry;exact PySem.EqMixed.eq_str_int (dE I q (by simp))
  |str j=>obtain⟨t',rfl⟩:=ry;exact eq_str (dE I q bv0)
  |_=>exact absurd (show false=true from hs) Bool.false_ne_true
 |byt i=>
  obtain⟨t,rfl⟩:=rx
  cases y with
  |byt j=>obtain⟨t',rfl⟩:=ry;exact PySem.W.eq_bytes (dE I q ck1)
  |_=>exact absurd (show false=true from hs) Bool.false_ne_true
 |_=>cases y<;>exact absurd (show false=true from hs) Bool.false_ne_true
theorem eu5:OpR X (compareOp .NotEq) rNe:=by
 intro pins s σ H x y v u Q I rx ry h
 obtain⟨hs,q⟩:=h
 cases x with
 |non=>
  cases rx
  cases y with
  |non=>cases ry;exact PySem.EqNone.ne_none_none (dE I q (by simp))
  |bl j=>cases ry;exact PySem.EqNone.ne_none_bool (dE I q (by simp))
  |int j=>obtain⟨t',rfl⟩:=ry;exact PySem.EqNone.ne_none_int (dE I q (by simp))
  |str j=>obtain⟨t',rfl⟩:=ry;exact PySem.EqNone.ne_none_str (dE I q (by simp))
  |_=>exact absurd (show false=true from hs) Bool.false_ne_true
 |bl i=>
  cases rx
  cases y with
  |non=>cases ry;exact PySem.EqNone.ne_bool_none (dE I q (by simp))
  |bl j=>cases ry;exact ne_bool (dE I q (congrArg not bk8))
  |str j=>obtain⟨t',rfl⟩:=ry;exact PySem.EqMixed.ne_bool_str (dE I q (by simp))
  |_=>exact absurd (show false=true from hs) Bool.false_ne_true
 |int i=>
  obtain⟨t,rfl⟩:=rx
  cases y with
  |non=>cases ry;exact PySem.EqNone.ne_int_none (dE I q (by simp))
  |int j=>obtain⟨t',rfl⟩:=ry;exact ne_int (dE I q (congrArg not ah9))
  |str j=>obtain⟨t',rfl⟩:=ry;exact PySem.EqMixed.ne_int_str (dE I q (by simp))
  |_=>exact absurd (show false=true from hs) Bool.false_ne_true
 |str i=>
  obtain⟨t,rfl⟩:=rx
  cases y with
  |non=>cases ry;exact PySem.EqNone.ne_str_none (dE I q (by simp))
  |bl j=>cases ry;exact PySem.EqMixed.ne_str_bool (dE I q (by simp))
  |int j=>obtain⟨t',rfl⟩:=ry;exact PySem.EqMixed.ne_str_int (dE I q (by simp))
  |str j=>obtain⟨t',rfl⟩:=ry;exact ne_str (dE I q (congrArg not bv0))
  |_=>exact absurd (show false=true from hs) Bool.false_ne_true
 |byt i=>
  obtain⟨t,rfl⟩:=rx
  cases y with
  |byt j=>obtain⟨t',rfl⟩:=ry;exact PySem.W.ne_bytes (dE I q (congrArg not ck1))
  |_=>exact absurd (show false=true from hs) Bool.false_ne_true
 |_=>cases y<;>exact absurd (show false=true from hs) Bool.false_ne_true
theorem ae3:OpR X (compareOp .Lt) (wG λi j=>.bl (decide (i<j))):=cy5 λ_ _ _ _ _ _ _ q=>lt_int q
theorem lM:OpR X (compareOp .LtE) (wG λi j=>.bl (decide (i<=j))):=cy5 λ_ _ _ _ _ _ _ q=>le_int q
theorem ao7:OpR X (compareOp .Gt) (wG λi j=>.bl (decide (j<i))):=cy5 λ_ _ _ _ _ _ _ q=>gt_int q
theorem dr5:OpR X (compareOp .GtE) (wG λi j=>.bl (decide (j<=i))):=cy5 λ_ _ _ _ _ _ _ q=>ge_int q
theorem cp9:OpR X (compareOp .In) (λx y H Q=>∃i j,x=.str i/\y=.str j/\Q (.bl (!(Builtin.Str.occurrences j i 0 j.length 1).isEmpty)) H):=by
 intro pins s σ H x y v u Q I rx ry h
 obtain⟨i,j,rfl,rfl,q⟩:=h
 obtain⟨t,rfl⟩:=rx
 obtain⟨t',rfl⟩:=ry
 exact in_str (dE I q rfl)
theorem eq2:OpR X (compareOp .Is) (λx y H Q=>y=.non/\Q (.bl (decide (x=.non))) H):=by
 intro pins s σ H x y v u Q I rx ry h
 obtain⟨rfl,q⟩:=h
 cases ry
 refine is_none_gen (dE I q ?_)
 cases x<;>first
  |(cases rx;rfl)
  |(obtain⟨t,rfl⟩:=rx;rfl)
theorem sI:OpR X (compareOp .IsNot) (λx y H Q=>y=.non/\Q (.bl (!decide (x=.non))) H):=by
 intro pins s σ H x y v u Q I rx ry h
 obtain⟨rfl,q⟩:=h
 cases ry
 refine isnot_none_gen (dE I q ?_)
 cases x<;>first
  |(cases rx;rfl)
  |(obtain⟨t,rfl⟩:=rx;rfl)
theorem OpR.or(h:OpR X f r)(h':OpR X f r'):OpR X f (λx y H Q=>r x y H Q\/r' x y H Q):=by
 intro pins s σ H x y v u Q I rx ry q
 rcases q with q|q
 . exact h s σ H x y v u Q I rx ry q
 . exact h' s σ H x y v u Q I rx ry q
theorem qN(b:Expr)(h:op≠ .In:=by decide)(h2:op≠ .NotIn:=by decide):behindInMarks op b=false:=by
 have e1:(op==CmpOp.In)=false:=by cases op<;>first|rfl|exact absurd rfl h
 have e2:(op==CmpOp.NotIn)=false:=by cases op<;>first|rfl|exact absurd rfl h2
 cases b<;>simp[behindInMarks,e1,e2]
theorem iU{op:CmpOp}{r:R2}(ho:OpR X (compareOp op) r)(ha:PE X a ta)(hb:PE X b tb)(hm:behindInMarks op b=false):PE X (.Compare a [op] [b] pos) (tOp r ta tb):=by
 intro pins s σ H Q I h
 exact wpAny_Compare1 (du0 ha hb I h λv u s2 x y H2 I2 rx ry q=>ho s2 σ H2 x y v u Q I2 rx ry q) hm
def bj4(t:TE):TT:=λσ H Q=>t σ H λx H'=>∃k,x=.bl k/\Q k H'
theorem bn0(ho:OpR X (compareOp op) r)(ha:PE X a ta)(hb:PE X b tb)(hm:behindInMarks op b=false):PT X (.Compare a [op] [b] pos) (bj4 (tOp r ta tb)):=by
 intro pins s σ H Q I h
 refine wpAny_isTrue_Compare1 (cH (ha s σ H _ I h) λv s1 ⟨x,H1,I1,r1,q1⟩=>cH (hb s1 σ H1 _ I1 q1) λu s2 ⟨y,H2,I2,r2,q2⟩=>
  cH (ho s2 σ H2 x y v u _ I2 r1 r2 q2) λc s3 ⟨z,H3,I3,r3,k,e,q3⟩=>?_) hm
 subst e
 cases r3
 exact wpAny_truthy_bool ⟨H3,I3,q3⟩
def bx4(r r':R2)(ta tb tc:TE):TE:=λσ H Q=>ta σ H λx H1=>tb σ H1 λy H2=>r x y H2 λz H3=>∃k,z=.bl k/\
 (if k=true then tc σ H3 λw' H4=>r' y w' H4 Q else Q (.bl false) H3)
theorem am5(ho:OpR X (compareOp op) r)(ho':OpR X (compareOp op') r')(ha:PE X a ta)(hb:PE X b tb)(hc:PE X c tc)
 (hm:lastMarks [op,op'] [b,c]=false:=by with_unfolding_all rfl):PE X (.Compare a [op,op'] [b,c] pos) (bx4 r r' ta tb tc):=by
 intro pins s σ H Q I h
 refine Compare_chain (cH (ha s σ H _ I h) λv s1 ⟨x,H1,I1,r1,q1⟩=>chain_link (cH (hb s1 σ H1 _ I1 q1) λu s2 ⟨y,H2,I2,r2,q2⟩=>
  cH (ho s2 σ H2 x y v u _ I2 r1 r2 q2) λd s3 ⟨z,H3,I3,r3,k,e,q3⟩=>?_)) hm
 subst e
 cases r3
 refine wpAny_truthy_bool ?_
 cases k with
 |false=>exact ite_ff ⟨.bl false,H3,I3,rfl,q3⟩
 |true=>exact ite_tt (chain_last (cH (hc s3 σ H3 _ I3 q3) λw' s4 ⟨z',H4,I4,r4,q4⟩=>ho' s4 σ H4 y z' u w' Q I4 r2 r4 q4))
theorem af5(ho:OpR X (compareOp op) r)(ho':OpR X (compareOp op') r')(ha:PE X a ta)(hb:PE X b tb)(hc:PE X c tc)
 (hm:lastMarks [op,op'] [b,c]=false:=by with_unfolding_all rfl):PT X (.Compare a [op,op'] [b,c] pos) (bj4 (bx4 r r' ta tb tc)):=by
 intro pins s σ H Q I h
 refine isTrue_chain (cH (ha s σ H _ I h) λv s1 ⟨x,H1,I1,r1,q1⟩=>test_link (cH (hb s1 σ H1 _ I1 q1) λu s2 ⟨y,H2,I2,r2,q2⟩=>
  cH (ho s2 σ H2 x y v u _ I2 r1 r2 q2) λd s3 ⟨z,H3,I3,r3,k,e,q3⟩=>?_)) hm
 subst e
 cases r3
 refine wpAny_truthy_bool ?_
 cases k with
 |false=>
  obtain⟨k',e',q'⟩:=q3
  cases e'
  exact ite_ff ⟨H3,I3,q'⟩
 |true=>
  refine ite_tt (test_last (cH (hc s3 σ H3 _ I3 q3) λw' s4 ⟨z',H4,I4,r4,q4⟩=>cH (ho' s4 σ H4 y z' u w' _ I4 r2 r4 q4) λd' s5 ⟨z2,H5,I5,r5,k2,e2,q5⟩=>?_))
  subst e2
  cases r5
  exact wpAny_truthy_bool ⟨H5,I5,q5⟩
def bv6(K:PySem.W.Frag)(x:V)(H:Hp)(k:Bool):Prop:=
 match x with
 |.non=>k=false
 |.bl b=>k=b
 |.int i=>k=(i !=0)
 |.str y=>y.length<=sizeLine/\k=((y.length:Int) !=0)
 |.byt y=>y.size<=sizeLine/\k=((y.size:Int) !=0)
 |.ref p=>(∃xs,SqL K H p xs/\k=!xs.isEmpty)\/(∃xs,SqT K H p xs/\k=!xs.isEmpty)\/∃kvs,H p=some (.dK kvs)/\k=!kvs.isEmpty
 |_=>False
theorem cd4(r:KV kvs vs):(!vs.isEmpty)=!kvs.isEmpty:=by
 cases r<;>rfl
theorem al6(r:Vals xs its):(!its.toArray.isEmpty)=!xs.isEmpty:=by
 cases r<;>simp
theorem yE:(sizeLine:Nat)<2^63:=by rw[sizeLine_eq];decide
theorem es0:eh7 X (λx H Q=>∃k,bv6 X.K x H k/\Q k H):=by
 intro pins s σ H x v Q I rx h
 obtain⟨k,e,q⟩:=h
 have hl:=yE
 have hs:sizeLine=16777216:=sizeLine_eq
 cases x with
 |non=>
  cases rx
  have e':k=false:=e
  subst e'
  exact truthy_none ⟨H,I,q⟩
 |bl b=>
  cases rx
  have e':k=b:=e
  subst e'
  exact wpAny_truthy_bool ⟨H,I,q⟩
 |int i=>
  obtain⟨t,rfl⟩:=rx
  have e':k=(i !=0):=e
  subst e'
  exact PySem.P.truthy_int ⟨H,I,q⟩
 |str y=>
  obtain⟨t,rfl⟩:=rx
  obtain⟨hy,e'⟩:y.length<=sizeLine/\k=((y.length:Int) !=0):=e
  subst e'
  exact PySem.P.truthy_str (by omega) ⟨H,I.tok _,q⟩
 |byt y=>
  obtain⟨t,rfl⟩:=rx
  obtain⟨hy,e'⟩:y.size<=sizeLine/\k=((y.size:Int) !=0):=e
  subst e'
  exact PySem.W.truthy_bytes (by omega) ⟨H,I.tok _,q⟩
 |ref p=>
  cases rx
  have e':(∃xs,SqL X.K H p xs/\k=!xs.isEmpty)\/(∃xs,SqT X.K H p xs/\k=!xs.isEmpty)\/∃kvs,H p=some (.dK kvs)/\k=!kvs.isEmpty:=e
  rcases e' with⟨xs,hx,e'⟩|⟨xs,hx,e'⟩|⟨kvs,hx,e'⟩
  . subst e'
    obtain⟨its,r,pl,hz⟩:=I.list hx
    have hlen:=r.length
    exact wpAny_truthy_list pl.isList (by simp only[List.size_toArray];omega) ⟨H,I.tok _,by rw[al6 r];exact q⟩
  . subst e'
    obtain⟨its,r,pl,hz⟩:=I.tuple hx
    have hlen:=r.length
    exact truthy_tuple pl (by simp only[List.size_toArray];omega) ⟨H,I.tok _,by rw[al6 r];exact q⟩
  . subst e'
    obtain⟨hz,hS,vs,r,m⟩:kvs.length<=sizeLine/\(p==sysModules)=false/\∃vs,KV kvs vs/\s.heap.DictOf (au9 X.prog X.w) p vs:=I.hok p _ hx
    have hlen:kvs.length=vs.length:=Paired.length r
    exact wpAny_truthy_dict hS m (by omega) ⟨H,I.tok _,by rw[cd4 r];exact q⟩
 |_=>exact(show False from e).elim
theorem dm2(ha:PE X a ta)(he:∀whole,isTrue a X.env whole=(do let v<-whole;standAt a.pos;holding [v] (truthy v))):
 PT X a (λσ H Q=>ta σ H λx H'=>∃k,bv6 X.K x H' k/\Q k H'):=by
 intro pins s σ H Q I h
 exact isTrue_plain (cH (ha s σ H _ I h) λv s1 ⟨x,H1,I1,r1,q1⟩=>es0 s1 σ H1 x v Q I1 r1 q1) (he _)
theorem op_add_str:OpR X (binaryOp .Add) (λx y H Q=>∃i j,x=.str i/\y=.str j/\i.length+j.length<=sizeLine/\Q (.str (i++j)) H):=by
 intro pins s σ H x y v u Q I rx ry h
 obtain⟨i,j,rfl,rfl,hz,q⟩:=h
 obtain⟨t,rfl⟩:=rx
 obtain⟨t',rfl⟩:=ry
 exact add_str (λt' tk=>⟨.str (i++j),H,I.tok _,⟨_,rfl⟩,q⟩) hz
theorem ax6(r:Vals [x] us):∃u,us=[u]/\RelV x u:=by
 cases r with
 |cons r1 r2=>cases r2;exact⟨_,rfl,r1⟩
theorem ca4(r:Vals [x,y] us):∃u w',us=[u,w']/\RelV x u/\RelV y w':=by
 cases r with
 |cons r1 r2=>
  cases r2 with
  |cons r3 r4=>cases r4;exact⟨_,_,rfl,r1,r3⟩
theorem dn1:CallR X (.builtin "abs") (λxs H Q=>∃i,xs=[.int i]/\Q (.int (if i<0 then -i else i)) H):=by
 intro pins s σ H xs us Q I r h
 obtain⟨i,rfl,q⟩:=h
 obtain⟨u,rfl,t,rfl⟩:=ax6 r
 exact call_abs_int λu tk=>⟨.int (if i<0 then -i else i),H,I.tok _,⟨_,rfl⟩,q⟩
theorem ct6(hc:X.calm=true):CallR X (.builtin "max") (λxs H Q=>∃i j,xs=[.int i,.int j]/\Q (.int (if j>i then j else i)) H):=by
 intro pins s σ H xs us Q I r h
 obtain⟨i,j,rfl,q⟩:=h
 obtain⟨u,w',rfl,⟨t,rfl⟩,⟨t',rfl⟩⟩:=ca4 r
 refine max_two_ints (I.ok.hd hc) λh' tk k=>⟨_,H,I.kept k,?_,q⟩
 by_cases hj:j>i
 . rw[if_pos hj,if_pos hj];exact⟨_,rfl⟩
 . rw[if_neg hj,if_neg hj];exact⟨_,rfl⟩
theorem cs7(hc:X.calm=true):CallR X (.builtin "min") (λxs H Q=>∃i j,xs=[.int i,.int j]/\Q (.int (if j<i then j else i)) H):=by
 intro pins s σ H xs us Q I r h
 obtain⟨i,j,rfl,q⟩:=h
 obtain⟨u,w',rfl,⟨t,rfl⟩,⟨t',rfl⟩⟩:=ca4 r
 refine min_two_ints (I.ok.hd hc) λh' tk k=>⟨_,H,I.kept k,?_,q⟩
 by_cases hj:j<i
 . rw[if_pos hj,if_pos hj];exact⟨_,rfl⟩
 . rw[if_neg hj,if_neg hj];exact⟨_,rfl⟩
theorem ba6:CallR X (.type "str") (λxs H Q=>∃i,xs=[.int i]/\i.natAbs.log2<1920/\Q (.str (toString i)) H):=by
 intro pins s σ H xs us Q I r h
 obtain⟨i,rfl,hz,q⟩:=h
 obtain⟨u,rfl,t,rfl⟩:=ax6 r
 exact PySem.P.str_of_int hz ⟨.str _,H,I.tok _,⟨_,rfl⟩,q⟩
def ez1(K:PySem.W.Frag)(x:V)(H:Hp)(n:Nat):Prop:=
 match x with
 |.str y=>y.length<=sizeLine/\n=y.length
 |.byt y=>y.size<=sizeLine/\n=y.size
 |.ref p=>(∃xs,SqL K H p xs/\n=xs.length)\/∃xs,SqT K H p xs/\n=xs.length
 |_=>False
theorem dm3:CallR X (.builtin "len") (λxs H Q=>∃x n,xs=[x]/\ez1 X.K x H n/\Q (.int n) H):=by
 intro pins s σ H xs us Q I r h
 obtain⟨x,n,rfl,e,q⟩:=h
 obtain⟨u,rfl,rx⟩:=ax6 r
 have hl:=yE
 have hs:sizeLine=16777216:=sizeLine_eq
 cases x with
 |str y=>
  obtain⟨t,rfl⟩:=rx
  obtain⟨hy,e'⟩:y.length<=sizeLine/\n=y.length:=e
  subst e'
  exact len_str (by omega) ⟨.int _,H,I.tok _,⟨_,rfl⟩,q⟩
 |byt y=>
  obtain⟨t,rfl⟩:=rx
  obtain⟨hy,e'⟩:y.size<=sizeLine/\n=y.size:=e
  subst e'
  exact PySem.W.len_bytes (by omega) ⟨.int _,H,I.tok _,⟨_,rfl⟩,q⟩
 |ref p=>
  cases rx
  have e':(∃xs,SqL X.K H p xs/\n=xs.length)\/∃xs,SqT X.K H p xs/\n=xs.length:=e
  rcases e' with⟨xs,hx,e'⟩|⟨xs,hx,e'⟩
  . subst e'
    obtain⟨its,r',pl,hz⟩:=I.list hx
    have hlen:=r'.length
    exact Calls.call_len_list pl.isList (by simp only[List.size_toArray];omega) ⟨.int xs.length,H,I.tok _,⟨_,by simp only[List.size_toArray];rw[hlen]⟩,q⟩
  . subst e'
    obtain⟨its,r',pl,hz⟩:=I.tuple hx
    have hlen:=r'.length
    exact len_tuple pl (by simp only[List.size_toArray];omega) ⟨.int xs.length,H,I.tok _,⟨_,by simp only[List.size_toArray];rw[hlen]⟩,q⟩
 |_=>exact(show False from e).elim
theorem bp9:CallR X (.builtin "divmod") (λxs H Q=>∃i j,xs=[.int i,.int j]/\xK i j/\∀p,H p=none->Q (.ref p) (upd H p (.tup [.int (i/j),.int (i%j)]))):=by
 intro pins s σ H xs us Q I r h
 obtain⟨i,j,rfl,⟨h1,h2⟩,q⟩:=h
 obtain⟨u,w',rfl,⟨t,rfl⟩,⟨t',rfl⟩⟩:=ca4 r
 refine divmod_int (by omega) ?_ (.inl (PyProof.noPylong_small (by omega)))
 rw[Int.fdiv_eq_ediv_of_nonneg i (by omega),Int.fmod_eq_emod_of_nonneg i (by omega)]
 have hn:H s.heap.objs.size=none:=I.hok.fresh (Nat.le_refl _)
 refine⟨.ref s.heap.objs.size,_,?_,rfl,q _ hn⟩
 refine I.laid (λb o e=>Heap.get?_push_of_some _ e) (Nat.le_refl _) ⟨by simp only[List.length_cons,List.length_nil];rw[sizeLine_eq];decide,[.int (i/j) s.toks,.int (i%j) (s.toks+1)],.cons ⟨_,rfl⟩ (.cons ⟨_,rfl⟩ .nil),?_⟩
 exact⟨_,Heap.get?_push_size s.heap rfl,rfl,0,rfl⟩
end
end L2
namespace L2
open PySem PySem.Spec PyProof.Rows
structure ObjM (h:Heap) (x dx C:Addr) (mA:Str->Option Value):Prop where
 obj:h.get? x=some (PySem.W.instObj C dx)
 ns:h.Ns1 dx mA
 ne:dx≠x
theorem ch7{h:Heap}{dx:Addr}{mA:Str->Option Value}(n:h.Ns1 dx mA):∃od,h.get? dx=some od/\∀name,PySem.W.lookIn name od=some (mA name):=by
 obtain⟨o,es,ep,ho,hd,hk,_,hm⟩:=n
 refine⟨o,ho,λname=>?_⟩
 have e:=hm name
 unfold nsFind findBy at e
 rw[<-Array.find?_toList]at e
 unfold PySem.W.lookIn
 rw[hd]
 dsimp only
 split
 . rename_i y q
   rw[q]at e
   exact congrArg some e
 . rename_i q
   rw[q]at e
   have a:es.toList.any (·.refKey)=false:=by
    rw[List.any_eq_false]
    intro y hy
    obtain⟨z,t,hkey⟩:=hk y (Array.mem_toList_iff.mp hy)
    simp[DictEntry.refKey,hkey]
   have a':¬es.toList.any (·.refKey)=true:=by rw[a];exact Bool.false_ne_true
   rw[if_neg a']
   exact congrArg some e
theorem ObjM.look(I:ObjM h x dx C mA):∃od,PySem.W.InstAt h x (PySem.W.instObj C dx) C (some od)/\∀name,PySem.W.lookIn name od=some (mA name):=
 let⟨od,ho,hl⟩:=ch7 I.ns
 ⟨od,⟨I.obj,rfl,rfl,ho⟩,hl⟩
section
variable {prog : Program} {w : World} {A : Around} {E : Value → Shared → Prop} {s : Shared} {K : PySem.W.Frag} {x dx C f : Addr} {mA : Str → Option Value} {name : Str} {v : Value}
theorem di9(X:K.In s.heap)(I:ObjM s.heap x dx C mA)(hg:PySem.W.plainGet K C name=true)(hh:PySem.W.hasDictIn K C=true)
 (ha:PySem.W.findIn K (.ref C) name=some none)(hv:mA name=some v)(hv':PySem.W.handedIn v=true)(h:Q v {s with toks:=s.toks+1}):
 wpAny (model prog w) A (getAttr (.ref x) name expr) Q E s:=by
 obtain⟨od,J,hl⟩:=I.look
 exact PySem.W.get_value X J (PySem.W.plainGet_of hg).1 (PySem.W.findObj_own hh ha rfl (by rw[hl,hv])) hv' h
theorem dt2(X:K.In s.heap)(I:ObjM s.heap x dx C mA)(hg:PySem.W.plainGet K C name=true)
 (hf:PySem.W.findIn K (.ref C) name=some (some (.ref f)))(ht:PySem.W.isFn K (.ref f)=true)(hv:mA name=none)(h:Q (.ref f,[.ref x]) s):
 wpAny (model prog w) A (getMethod (.ref x) name pl) Q E s:=by
 obtain⟨od,J,hl⟩:=I.look
 exact PySem.W.method_fn X J (PySem.W.plainGet_of hg).1 (PySem.W.plainGet_of hg).2 hf (beq_iff_eq.mp ht) (by show(PySem.W.lookIn name od).map (·.isSome)=some false;rw[hl,hv];rfl) h
theorem du8(X:K.In s.heap)(I:ObjM s.heap x dx C mA)
 (hs:PySem.W.findIn K (.ref C) "__setattr__"=some (some (.builtin "object.__setattr__")))(hp:PySem.W.plainOver K C=true)(ht:PySem.W.takerIn K C name=some none)(hh:PySem.W.hasDictIn K C=true)
 (hw:PySem.Within mA ns)(hsz:ns.length<=sizeLine)
 (h:∀h',ObjM h' x dx C (λy=>if y=name then some v else mA y)->Heap.SameBut dx s.heap h'->Q () {s with heap:=h',toks:=s.toks+2}):
 wpAny (model prog w) A (setAttr (.ref x) name v) Q E s:=by
 obtain⟨od,J,hl⟩:=I.look
 refine PySem.W.set_plain X J hs (PySem.W.osa_open (s:={s with toks:=s.toks+1}) (r:=none) X J hp ht λb=>?_)
 obtain⟨cd,hc,hd'⟩:=PySem.W.any_some hh
 have hx:s.heap.get? x=some ⟨.ref C,some dx,.plain,#[]⟩:=I.obj
 refine wpAny_bind (wpAny_pure (wpAny_bind (wpAny_bind (wpAny_loadPart hx (wpAny_bind (PySem.W.Looks.here (s:={s with toks:=s.toks+1}) (PySem.W.looks_clsIn X hc) ?_))))))
 rw[hd']
 refine wpAny_pure (a:=some dx) (wpAny_bind (wpAny_pure (wpAny_bind ?_)))
 refine wpAny_nsSet1 (s:={s with toks:=s.toks+1}) I.ns λh' hn2 hs2=>?_
 obtain⟨oD,esD,epD,hoD,hdD,hcD⟩:=hn2.count (PySem.Within.cons name v hw)
 refine wpAny_bind (wpAny_lookBehind hoD (by rw[hdD];exact pastItsLine_dict (Nat.le_trans hcD (by rw[List.length_cons];omega))) ?_)
 exact wpAny_pure (h _ ⟨(hs2.2 _ (Ne.symm I.ne)).trans I.obj,hn2,I.ne⟩ hs2)
theorem dj4(X:K.In s.heap)(hm:PySem.W.makesIn K C=true)
 (hi:PySem.W.findIn K (.ref C) "__init__"=some (some (.ref f)))(hf:PySem.W.typeIn K (.ref f)=some (.type "function"))
 (h:codeAny (model prog w) (A.under (.builtin "type.__call__" ⟨.ref C::vs,kw⟩)) (.call (.ref f) ⟨.ref (s.heap.objs.size+1)::vs,kw⟩) (PySem.W.InitBack (s.heap.objs.size+1) R)
  {s with heap:=(s.heap.push PySem.W.emptyDict).push (PySem.W.instObj C s.heap.objs.size)}):
 codeAny (model prog w) A (.call (.ref C) ⟨vs,kw⟩) R s:=by
 obtain⟨hh,g,d,t,os⟩:=s
 exact PySem.W.make_core (PySem.W.makes_of X hm) (PySem.W.looks_findIn X hi) (λself=>PySem.W.bind_fn X self hf) (.inl rfl) h
end
def kR (f : Str) (v : V) : List (Str × V) → List (Str × V)
  | [] => [(f, v)]
  | (g, x) :: r => if g = f then (g, v) :: r else (g, x) :: kR f v r
theorem ag4 (f g : Str) (v : V) : ∀ fs : List (Str × V), (kR f v fs).lookup g = if g = f then some v else fs.lookup g
  | [] => by
    show List.lookup g [(f, v)] = _
    by_cases h : g = f
    · have hb : (g == f) = true := beq_iff_eq.mpr h
      simp only [List.lookup, hb, if_pos h]
    · have hb : (g == f) = false := beq_eq_false_iff_ne.mpr h
      simp only [List.lookup, hb, if_neg h]
  | (k, x) :: r => by
    have ih := ag4 f g v r
    rw [show kR f v ((k, x) :: r) = (if k = f then (k, v) :: r else (k, x) :: kR f v r) from rfl]
    by_cases hk : k = f
    · rw [if_pos hk]
      by_cases h : g = k
      · have hb : (g == k) = true := beq_iff_eq.mpr h
        simp only [List.lookup, hb, if_pos (h.trans hk)]
      · have hb : (g == k) = false := beq_eq_false_iff_ne.mpr h
        simp only [List.lookup, hb, if_neg (fun e : g = f => h (e.trans hk.symm))]
    · rw [if_neg hk]
      by_cases h : g = k
      · have hb : (g == k) = true := beq_iff_eq.mpr h
        simp only [List.lookup, hb, if_neg (fun e : g = f => hk (h.symm.trans e))]
      · have hb : (g == k) = false := beq_eq_false_iff_ne.mpr h
        simp only [List.lookup, hb]
        exact ih
theorem aw0 (f : Str) (v : V) : ∀ fs : List (Str × V), f ∈ (kR f v fs).map (·.1) ∧ ∀ g, g ∈ fs.map (·.1) → g ∈ (kR f v fs).map (·.1)
  | [] => ⟨by simp [kR], fun g h => by simp at h⟩
  | (k, x) :: r => by
    obtain ⟨i1, i2⟩ := aw0 f v r
    rw [show kR f v ((k, x) :: r) = (if k = f then (k, v) :: r else (k, x) :: kR f v r) from rfl]
    by_cases hk : k = f
    · rw [if_pos hk]
      subst hk
      exact ⟨by simp, fun g h => by simpa using h⟩
    · rw [if_neg hk]
      refine ⟨?_, fun g h => ?_⟩
      · rw [List.map_cons]
        exact List.mem_cons_of_mem _ i1
      · rw [List.map_cons] at h ⊢
        rcases List.mem_cons.mp h with e | e
        · exact List.mem_cons.mpr (.inl e)
        · exact List.mem_cons_of_mem _ (i2 g e)
theorem ai4 (f : Str) (v : V) : ∀ fs : List (Str × V), (kR f v fs).length ≤ fs.length + 1
  | [] => by simp [kR]
  | (k, x) :: r => by
    have ih := ai4 f v r
    rw [show kR f v ((k, x) :: r) = (if k = f then (k, v) :: r else (k, x) :: kR f v r) from rfl]
    by_cases hk : k = f
    · rw [if_pos hk, List.length_cons, List.length_cons]; omega
    · rw [if_neg hk, List.length_cons, List.length_cons]; omega
theorem RelO.some_of(r:RelO (some v) o):∃u,o=some u/\RelV v u:=by
 cases o with
 |none=>exact(show False from r).elim
 |some u=>exact⟨u,rfl,r⟩
theorem RelO.none_of(r:RelO none o):o=none:=by
 cases o with
 |none=>rfl
 |some u=>exact(show False from r).elim
theorem cm7(r:RelV v u):PySem.W.handedIn u=true:=by
 cases v with
 |non=>cases(show u=Value.none from r);rfl
 |bl b=>cases(show u=Value.bool b from r);rfl
 |int i=>obtain⟨t,e⟩:=(show∃t,u=Value.int i t from r);cases e;rfl
 |str x=>obtain⟨t,e⟩:=(show∃t,u=Value.str x t from r);cases e;rfl
 |byt b=>obtain⟨t,e⟩:=(show∃t,u=Value.bytes b t from r);cases e;rfl
 |flt b=>obtain⟨t,e⟩:=(show∃t,u=Value.float b t from r);cases e;rfl
 |ref a=>cases(show u=Value.ref a from r);rfl
 |ty n=>cases(show u=Value.type n from r);rfl
section
variable {P : Program} {w : World} {H H' : Hp} {h h' : Heap} {a C dx : Addr} {fs fs' : List (Str × V)}
theorem bw0(hok:HOk P w H h)(e:H a=some (.ins C dx fs)):∃mA,ObjM h a dx C mA/\(∀f,RelO (fs.lookup f) (mA f))/\PySem.Within mA (fs.map (·.1))/\fs.length<=1000/\H dx=some (.own a):=by
 obtain⟨d,z,ne,ob,mA,n,r,q⟩:=(show ObjOk P w H h a (.ins C dx fs) from hok a _ e)
 exact⟨mA,⟨ob,n,ne⟩,r,q,z,d⟩
end
structure Cls (K:PySem.W.Frag) (C:Addr):Prop where
 pg:PySem.W.plainGet K C Str.empty=true
 hd:PySem.W.hasDictIn K C=true
 po:PySem.W.plainOver K C=true
 sa:PySem.W.findIn K (.ref C) "__setattr__"=some (some (.builtin "object.__setattr__"))
theorem Cls.get{K:PySem.W.Frag}{C:Addr}(c:Cls K C)(f:Str):PySem.W.plainGet K C f=true:=c.pg
def NoAttr(K:PySem.W.Frag)(C:Addr)(f:Str):Prop:=PySem.W.findIn K (.ref C) f=some none
theorem NoAttr.taker{K:PySem.W.Frag}{C:Addr}{f:Str}(n:NoAttr K C f):PySem.W.takerIn K C f=some none:=by
 unfold PySem.W.takerIn
 rw[show PySem.W.findIn K (.ref C) f=some none from n]
 rfl
structure de2 (K:PySem.W.Frag) (C:Addr) (m:Str) (f:Addr):Prop where
 at_:PySem.W.findIn K (.ref C) m=some (some (.ref f))
 fn:PySem.W.isFn K (.ref f)=true
 kp:PySem.W.keepIn K (.ref f)=true
section
variable {X : Cx} {pins : List (Addr × Obj)} {σ : St} {H : Hp} {s : Shared} {a C dx : Addr} {fs : List (Str × V)} {f : Str} {v : V} {A : Around} {E : Value → Shared → Prop}
theorem cv3(I:Inv X pins σ H s)(e:H a=some (.ins C dx fs))(c:Cls X.K C)(n:NoAttr X.K C f)(l:fs.lookup f=some v)
 (h:∀u s',Inv X pins σ H s'->RelV v u->Q u s'):wpAny (model X.prog X.w) A (getAttr (.ref a) f b) Q E s:=by
 obtain⟨mA,O,r,_,_,_⟩:=bw0 I.hok e
 obtain⟨u,hu,ru⟩:=RelO.some_of (v:=v) (o:=mA f) (by rw[<-l];exact r f)
 exact di9 I.kIn O (c.get f) c.hd n hu (cm7 ru) (h u _ (I.tok _) ru)
theorem aq6(I:Inv X pins σ H s)(e:H a=some (.ins C dx fs))(c:Cls X.K C)(k:de2 X.K C m g)(l:fs.lookup m=none)
 (h:Q (.ref g,[.ref a]) s):wpAny (model X.prog X.w) A (getMethod (.ref a) m pl) Q E s:=by
 obtain⟨mA,O,r,_,_,_⟩:=bw0 I.hok e
 have hn:mA m=none:=RelO.none_of (by rw[<-l];exact r m)
 exact dt2 I.kIn O (c.get m) k.at_ k.fn hn h
theorem cb3(I:Inv X pins σ H s)(e:H a=some (.ins C dx fs))(c:Cls X.K C)(n:NoAttr X.K C f)(hl:fs.length<1000)(ry:RelV y u)
 (h:∀s',Inv X pins σ (upd H a (.ins C dx (kR f y fs))) s'->Q () s'):wpAny (model X.prog X.w) A (setAttr (.ref a) f u) Q E s:=by
 obtain⟨mA,O,r,wi,_,ho⟩:=bw0 I.hok e
 have hz:(fs.map (·.1)).length<=sizeLine:=by rw[List.length_map,sizeLine_eq];omega
 refine du8 I.kIn O c.sa c.po n.taker c.hd wi hz λh' O' sb=>h _ ?_
 have hd:∃o,h'.get? dx=some o:=let⟨o,_,_,e',_⟩:=O'.ns;⟨o,e'⟩
 refine I.write (x:=a) (e:=dx) (by rw[e];exact True.intro) (.inr ho) (λb q hb z=>(sb.2 b hb).trans z) hd ?_
 refine⟨by rw[cR O.ne];exact ho,?_,O.ne,O'.obj,_,O'.ns,λg=>?_,λg hg=>?_⟩
 . have:=ai4 f y fs;omega
 . show RelO ((kR f y fs).lookup g) (if g=f then some u else mA g)
   rw[ag4]
   by_cases q:g=f
   . rw[if_pos q,if_pos q];exact ry
   . rw[if_neg q,if_neg q];exact r g
 . by_cases q:g=f
   . rw[q];exact(aw0 f y fs).1
   . refine(aw0 f y fs).2 g (wi g λz=>hg ?_)
     show(if g=f then some u else mA g)=none
     rw[if_neg q];exact z
theorem Inv.made(I:Inv X pins σ H s):Inv X pins σ (upd (upd H s.heap.objs.size (.own (s.heap.objs.size+1))) (s.heap.objs.size+1) (.ins C s.heap.objs.size []))
 {s with heap:=(s.heap.push PySem.W.emptyDict).push (PySem.W.instObj C s.heap.objs.size)}:=by
 have e1:(s.heap.push PySem.W.emptyDict).get? s.heap.objs.size=some PySem.W.emptyDict:=Heap.get?_push_size s.heap rfl
 have e2:((s.heap.push PySem.W.emptyDict).push (PySem.W.instObj C s.heap.objs.size)).get? (s.heap.objs.size+1)=some (PySem.W.instObj C s.heap.objs.size):=by
  have:=Heap.get?_push_size (s.heap.push PySem.W.emptyDict) (o:=PySem.W.instObj C s.heap.objs.size) rfl
  rwa[Heap.size_push]at this
 have e3:(s.heap.push PySem.W.emptyDict).Ns s.heap.objs.size (λ_=>none):=⟨PySem.W.emptyDict,#[],_,e1,rfl,(λe he=>absurd he (by simp)),λ_=>rfl⟩
 have I1:=I.laid (a:=s.heap.objs.size) (o:=.own (s.heap.objs.size+1)) (h':=s.heap.push PySem.W.emptyDict) (t':=s.toks) (λb u q=>Heap.get?_push_of_some _ q) (Nat.le_refl _) ⟨_,e1⟩
 refine I1.laid (a:=s.heap.objs.size+1) (o:=.ins C s.heap.objs.size []) (t':=s.toks) (λb u q=>Heap.get?_push_of_some _ q) (Nat.le_of_eq (Heap.size_push _ _)) ?_
 have ne:s.heap.objs.size≠s.heap.objs.size+1:=Nat.ne_of_lt (Nat.lt_succ_self _)
 refine⟨by rw[cR ne,fG],Nat.zero_le _,ne,e2,λ_=>none,(Heap.Ns1.of_empty e3).at λo q=>Heap.get?_push_of_some _ q,λ_=>True.intro,λy hy=>absurd rfl hy⟩
theorem dk7(hb:attributeBase e f env (eval e env)=eval e env)
 (h:wpAny (model prog w) A (eval e env) (λo s₁=>wpAny (model prog w) A (getAttr o f true) Q E s₁) E s):wpAny (model prog w) A (eval (.Attribute e f pos) env) Q E s:=
 Attribute_any_ h (by rw[arm_eval_Attribute,hb])
end
def dq4(K:PySem.W.Frag)(ta:TE)(f:Str):TE:=λσ H Q=>ta σ H λx H1=>∃a C dx fs v,x=.ref a/\H1 a=some (.ins C dx fs)/\Cls K C/\NoAttr K C f/\fs.lookup f=some v/\Q v H1
def dr4(K:PySem.W.Frag)(ta tv:TE)(f:Str):TS:=λD σ H=>tv σ H λy H1=>ta σ H1 λx H2=>∃a C dx fs,x=.ref a/\H2 a=some (.ins C dx fs)/\Cls K C/\NoAttr K C f/\fs.length<1000/\
 D.nx σ (upd H2 a (.ins C dx (kR f y fs)))
section
variable {X : Cx} {o e value : Expr} {f : Str} {pos pos' tpos : Pos} {ta tv : TE}
theorem et2(he:PE X e ta)(hb:attributeBase e f X.env (eval e X.env)=eval e X.env):PE X (.Attribute e f pos) (dq4 X.K ta f):=by
 intro pins s σ H Q I h
 refine dk7 hb (cH (he s σ H _ I h) λu s1 ⟨x,H1,I1,rx,a,C,dx,fs,v,ex,ea,c,n,l,q⟩=>?_)
 subst ex
 obtain rfl:u=Value.ref a:=rx
 exact cv3 I1 ea c n l λu' s2 I2 ru=>⟨v,H1,I2,ru,q⟩
theorem ef4(ha:PE X o ta)(hv:PE X value tv)(hs:swapsWith value (some (.Attribute o f pos')) pos.line X.env=pure false):PS X (.Assign [.Attribute o f pos'] value pos) (dr4 X.K ta tv f):=by
 intro pins s σ H D I h
 refine plainObj_wpAny_Assign_Attribute (cH (hv s σ H _ I h) λu s1 ⟨y,H1,I1,ry,q⟩=>cH (ha s1 σ H1 _ I1 q) λov s2 ⟨x,H2,I2,rx,a,C,dx,fs,ex,ea,c,n,l,q2⟩=>?_) hs
 subst ex
 obtain rfl:ov=Value.ref a:=rx
 exact cb3 I2 ea c n l ry λs3 I3=>⟨σ,_,I3,q2⟩
end
section
variable {X : Cx} {pins : List (Addr × Obj)} {σ : St} {H : Hp} {s : Shared} {A : Around} {E : Value → Shared → Prop} {Q : Value → Shared → Prop} {c : Value} {b : Bool}
end
end L2
namespace L2
open PySem PySem.Spec PyProof.Rows
structure Room (k:Nat) (A:Around):Prop where
 hd:A.handled=none
 dp:A.depth+3*k+5<recursionLimit
 un:A.units+16*k+200<cLine
theorem Room.mono(r:Room k A)(h:j<=k):Room j A:=⟨r.hd,by have:=r.dp;omega,by have:=r.un;omega⟩
theorem Room.deeper(r:Room (k+1) A)(env:Env):Room k (A.deeper env):=
 ⟨r.hd,by have:=r.dp;show A.depth+1+3*k+5<_;omega,by have:=r.un;show A.units+3+16*k+200<_;omega⟩
theorem cp5{A:Around}{C:Addr}{us:List Value}{kw:List (Str×Value)}:(A.under (.builtin "type.__call__" ⟨.ref C::us,kw⟩)).depth=A.depth+1:=by
 first|rfl|simp[Around.under,Code.weight,Code.isCreation,Code.isGuard,Code.isCaller,Code.frames,Code.isFrame,guardIds]
theorem ch5{A:Around}{C:Addr}{us:List Value}{kw:List (Str×Value)}:(A.under (.builtin "type.__call__" ⟨.ref C::us,kw⟩)).units=A.units+1:=by
 first|rfl|simp[Around.under,Code.cUnits,Code.frames,Code.isFrame]
theorem Room.make(r:Room (k+1) A)(C:Addr)(us:List Value)(kw:List (Str×Value)):Room k (A.under (.builtin "type.__call__" ⟨.ref C::us,kw⟩)):=
 ⟨r.hd,by have:=r.dp;rw[cp5];omega,by have:=r.un;rw[ch5];omega⟩
theorem Room.depth(r:Room k A):A.depth<recursionLimit:=by have:=r.dp;omega
theorem Room.units(r:Room k A):A.units+64<cLine:=by have:=r.un;omega
def au5:TA:=λ_ H Q=>Q [] H
def vC(ta:TE)(tr:TA):TA:=λσ H Q=>ta σ H λx H1=>tr σ H1 λxs H2=>Q (x::xs) H2
section
variable {X : Cx} {e : Expr} {es : List Expr} {te : TE} {t : TA} {pos : Pos}
theorem qZ:PA X [] au5:=λ_ _ _ _ H Q I h=>Calls.spliced_nil ⟨[],H,I,.nil,h⟩
theorem aF(ha:PE X e te)(hr:PA X es t)(hs:starEach (e::es) X.env=(false,eval e X.env)::starEach es X.env:=by rfl):PA X (e::es) (vC te t):=by
 intro pos pins s σ H Q I h
 rw[hs]
 show wpAny _ _ (spliced ((false,eval e X.env)::backTo pos (starEach es X.env))) _ _ s
 refine Calls.spliced_cons (cH (ha s σ H _ I h) λu s1 ⟨x,H1,I1,r1,q1⟩=>?_)
 exact cH (hr pins s1 σ H1 _ I1 q1) λus s2 ⟨xs,H2,I2,r2,q2⟩=>⟨x::xs,H2,I2,.cons r1 r2,q2⟩
def eb1(t:TA):TE:=λσ H Q=>t σ H λxs H1=>xs.length<=sizeLine/\∀p,H1 p=none->Q (.ref p) (upd H1 p (.tup xs))
def dz9(t:TA):TE:=λσ H Q=>t σ H λxs H1=>xs.length<=sizeLine/\∀p,H1 p=none->Q (.ref p) (upd H1 p (.lst xs))
theorem bY{x1}(h:PA X es t):PE X (.Tuple es x1 pos) (eb1 t):=by
 intro pins s σ H Q I hq
 refine wpAny_Tuple_spliced (cH (h pins s σ H _ I hq) λus s1 ⟨xs,H1,I1,r,z,q⟩=>⟨by rw[<-r.length];exact z,?_⟩)
 have hf:H1 s1.heap.objs.size=none:=I1.hok.fresh (Nat.le_refl _)
 refine⟨.ref s1.heap.objs.size,upd H1 s1.heap.objs.size (.tup xs),I1.laid (t':=s1.toks) (λb u e=>Heap.get?_push_of_some _ e) (Nat.le_refl _) ?_,rfl,q _ hf⟩
 exact⟨z,us,r,⟨_,Heap.get?_push_size _ rfl,rfl,_,rfl⟩⟩
theorem cW(h:PA X es t):PE X (.List es pos) (dz9 t):=by
 intro pins s σ H Q I hq
 refine wpAny_List_spliced (cH (h pins s σ H _ I hq) λus s1 ⟨xs,H1,I1,r,z,q⟩=>⟨by rw[<-r.length];exact z,?_⟩)
 have hf:H1 s1.heap.objs.size=none:=I1.hok.fresh (Nat.le_refl _)
 refine⟨.ref s1.heap.objs.size,upd H1 s1.heap.objs.size (.lst xs),I1.laid (t':=s1.toks) (λb u e=>Heap.get?_push_of_some _ e) (Nat.le_refl _) ?_,rfl,q _ hf⟩
 exact⟨z,us,0,r,Heap.get?_push_size _ rfl⟩
end
abbrev Sp:=List V->Hp->VK->XK->Prop
abbrev CXT:=List Env->Hp->Shared->XK->Value->Shared->Prop
structure Env0 (P:Program) (w:World) (K:PySem.W.Frag) (mg:Str->Option Value) (base:Heap) (A:Around) (outer:List Env) (s:Shared) (H:Hp):Prop where
 frames:A.frames=some outer
 mod:Mod K mg base
 bs:∀b o,base.get? b=some o->s.heap.get? b=some o/\H b=none
 bsz:base.objs.size<=s.heap.objs.size
 funs:s.heap.FunFrames base outer
 frf:∀b∈xW outer,H b=none
 hok:HOk P w H s.heap
 bare:AllBare s.gens
def CE(outer:List Env)(P:Program)(w:World)(H:Hp)(s:Shared)(Q:VK)(u:Value)(s':Shared):Prop:=
 ∃v H',s'.os=s.os/\AllBare s'.gens/\Un (xW outer) [] H H' s.heap s'.heap/\HOk P w H' s'.heap/\RelV v u/\Q v H'
def CR(CX:CXT)(outer:List Env)(P:Program)(w:World)(H:Hp)(s:Shared)(Q:VK)(E:XK)(r:Result)(s':Shared):Prop:=
 match r with
 |.ok (.ret u)=>CE outer P w H s Q u s'
 |.ok _=>False
 |.error e=>CX outer H s E e s'
structure FnOk (P:Program) (w:World) (K:PySem.W.Frag) (mg:Str->Option Value) (base:Heap) (CX:CXT) (k:Nat) (f:Addr) (fd:FuncData) (ps:List Str) (sp:Sp):Prop where
 len:∀vs H Q E,sp vs H Q E->vs.length=ps.length
 run:∀(A:Around)(outer:List Env)(s:Shared)(H:Hp)(args:Args)(us:List Value)(vs:List V)(Q:VK)(E:XK),Room k A->Env0 P w K mg base A outer s H->BindsTo s fd args (ps.zip us)->Vals vs us->sp vs H Q E->
  codeAny (model P w) A (.call (.ref f) args) (CR CX outer P w H s Q E) s
theorem FnOk.mono{P:Program}{w:World}{K:PySem.W.Frag}{mg:Str->Option Value}{base:Heap}{CX:CXT}{j k:Nat}{f:Addr}{fd:FuncData}{ps:List Str}{sp:Sp}(F:FnOk P w K mg base CX j f fd ps sp)(h:j<=k):
 FnOk P w K mg base CX k f fd ps sp:=⟨F.len,λA outer s H args us vs Q E hr=>F.run A outer s H args us vs Q E (hr.mono h)⟩
theorem FnOk.imp{P:Program}{w:World}{K:PySem.W.Frag}{mg:Str->Option Value}{base:Heap}{CX:CXT}{k:Nat}{f:Addr}{fd:FuncData}{ps:List Str}{sp sp':Sp}(F:FnOk P w K mg base CX k f fd ps sp)
 (h:∀vs H Q E,sp' vs H Q E->sp vs H Q E):FnOk P w K mg base CX k f fd ps sp':=
 ⟨λvs H Q E q=>F.len vs H Q E (h _ _ _ _ q),λA outer s H args us vs Q E hr he hb hv hs=>F.run A outer s H args us vs Q E hr he hb hv (h _ _ _ _ hs)⟩
theorem Env0.make {P : Program} {w : World} {K : PySem.W.Frag} {mg : Str → Option Value} {base : Heap} {A : Around} {outer : List Env} {s : Shared} {H : Hp} (e : Env0 P w K mg base A outer s H) (C : Addr) (us : List Value) (kw : List (Str × Value)) :
    Env0 P w K mg base (A.under (.builtin "type.__call__" ⟨.ref C :: us, kw⟩)) outer s H := ⟨by first | exact e.frames | (simpa [Around.under, Code.envs, Code.isFrame, pushEnvs] using e.frames), e.mod, e.bs, e.bsz, e.funs, e.frf, e.hok, e.bare⟩
section
variable {X : Cx} {pins : List (Addr × Obj)} {σ : St} {H : Hp} {s s' : Shared}
theorem Inv.env0(I:Inv X pins σ H s):Env0 X.prog X.w X.K X.mg X.base X.A X.stack s H:=
 ⟨I.ok.frames,I.ok.mod,I.bs,Nat.le_trans I.ok.bsz I.sz,I.stack,I.stkFree,I.hok,I.bare⟩
theorem Inv.after(I:Inv X pins σ H s)(h:CE X.stack X.prog X.w H s Q u s'):EP X pins σ Q u s':=by
 obtain⟨v,H',os,bare,un,hok,r,q⟩:=h
 obtain⟨hh,g,d,t,os'⟩:=s'
 obtain rfl:os'=s.os:=os
 exact⟨v,H',I.call (h':=hh) (g':=g) (d':=d) (t':=t) (ch:=[]) un hok bare (λb z=>absurd z (by simp)),r,q⟩
end
def eo5(sp:Sp)(dvs:List V)(E:XK)(t:TA):TE:=λσ H Q=>t σ H λvs H1=>sp (vs++dvs) H1 Q E
def cy2(C:Addr)(sp:Sp)(dvs:List V)(E:XK)(t:TA):TE:=λσ H Q=>t σ H λvs H1=>∀x dx,H1 x=none->H1 dx=none->dx≠x->
 sp (.ref x::(vs++dvs)) (upd (upd H1 dx (.own x)) x (.ins C dx [])) (λv H2=>v=.non/\Q (.ref x) H2) E
def Binds(K:PySem.W.Frag)(fd:FuncData)(ps:List Str)(ds:List Value):Prop:=
 ∀(s:Shared)(us:List Value),K.In s.heap->(us++ds).length=ps.length->BindsTo s fd ⟨us,[]⟩ (ps.zip (us++ds))
theorem Binds.all{K:PySem.W.Frag}{fd:FuncData}{ps:List Str}(h:∀us:List Value,us.length=ps.length->bindArgs fd ⟨us,[]⟩=pure (ps.zip us)):Binds K fd ps []:=λs us _ hl=>by
 rw[List.append_nil]at hl⊢
 exact .of_eq (h us hl)
def av2(CX:CXT)(X:Cx)(E:XK):Prop:=∀(pins:List (Addr×Obj))(σ:St)(H:Hp)(s:Shared)(e:Value)(s':Shared),Inv X pins σ H s->CX X.stack H s E e s'->X.xe e s'
section
variable {X : Cx} {CX : CXT} {k : Nat} {f C : Addr} {fd : FuncData} {ps : List Str} {sp : Sp} {dvs : List V} {ds : List Value} {E : XK} {x m : Str} {p pos apos : Pos} {e o : Expr} {es : List Expr} {ta : TE} {t : TA}
theorem ad7(F:FnOk X.prog X.w X.K X.mg X.base CX k f fd ps sp)(hr:Room k X.A)(hb:Binds X.K fd ps ds)(hd:Vals dvs ds)(hx:av2 CX X E)
 (I:Inv X pins σ H s)(r:Vals vs us)(h:sp (vs++dvs) H Q E):wpAny (model X.prog X.w) X.A (call (.ref f) us) (EP X pins σ Q) X.xe s:=by
 have r2:Vals (vs++dvs) (us++ds):=r.append hd
 have hl:(us++ds).length=ps.length:=by rw[<-r2.length];exact F.len _ _ _ _ h
 refine wpAny_call (codeAny_mono (F.run X.A X.stack s H ⟨us,[]⟩ (us++ds) (vs++dvs) Q E hr I.env0 (hb s us I.kIn hl) r2 h) λr s' hq=>?_)
 cases r with
 |error e=>exact hx pins σ H s e s' I hq
 |ok fl=>
  cases fl with
  |ret u=>exact I.after hq
  |next=>exact False.elim hq
  |brk=>exact False.elim hq
  |cont=>exact False.elim hq
theorem de8(F:FnOk X.prog X.w X.K X.mg X.base CX k f fd ps sp)(hr:Room k X.A)(hg:Gl X x)(hm:X.mg x=some (.ref f))(hk:PySem.W.keepIn X.K (.ref f)=true)(hb:Binds X.K fd ps ds)(hd:Vals dvs ds)(hx:av2 CX X E)
 (ha:PA X (e::es) t)(hdb:(x==("__debug__":Str))=false:=by decide)(he:starEach (e::es) X.env=(false,eval e X.env)::starEach es X.env:=by rfl)(hpl:(backTo pos (starEach es X.env)).any (·.1)=false:=by rfl):
 PE X (.Call (.Name x p) (e::es) [] pos) (eo5 sp dvs E t):=by
 intro pins s σ H Q I h
 refine wpAny_Call_Name_kw (xZ I hg hm ?_ hdb)
 refine PySem.W.callWith_K (h₀:=X.base) I.ok.mod.kin hk (cH (ha pins s σ H _ I h) λus s1 ⟨vs,H1,I1,r,q⟩=>⟨I1.kIn,?_⟩) he hpl
 exact ad7 F hr hb hd hx I1 r q
structure Mk (K:PySem.W.Frag) (C f:Addr):Prop where
 makes:PySem.W.makesIn K C=true
 init:PySem.W.findIn K (.ref C) "__init__"=some (some (.ref f))
 fn:PySem.W.isFn K (.ref f)=true
 kp:PySem.W.keepIn K (.ref C)=true
theorem dt4(M:Mk X.K C f)(F:FnOk X.prog X.w X.K X.mg X.base CX k f fd ps sp)(hr:Room (k+1) X.A)(hb:Binds X.K fd ps ds)(hd:Vals dvs ds)
 (hx:av2 CX X E)(I:Inv X pins σ H s)(r:Vals vs us)
 (h:∀x dx,H x=none->H dx=none->dx≠x->sp (.ref x::(vs++dvs)) (upd (upd H dx (.own x)) x (.ins C dx [])) (λv H2=>v=.non/\Q (.ref x) H2) E):
 wpAny (model X.prog X.w) X.A (call (.ref C) us) (EP X pins σ Q) X.xe s:=by
 have hq:=h (s.heap.objs.size+1) s.heap.objs.size (I.hok.fresh (Nat.le_succ _)) (I.hok.fresh (Nat.le_refl _)) (Nat.ne_of_lt (Nat.lt_succ_self _))
 have I2:=Inv.made (C:=C) I
 have r2:Vals (V.ref (s.heap.objs.size+1)::(vs++dvs)) (Value.ref (s.heap.objs.size+1)::(us++ds)):=.cons rfl (r.append hd)
 have hl:(Value.ref (s.heap.objs.size+1)::us++ds).length=ps.length:=by
  have e:=r2.length
  rw[F.len _ _ _ _ hq]at e
  exact e.symm
 refine wpAny_call (dj4 (f:=f) I.kIn M.makes M.init (beq_iff_eq.mp M.fn) (codeAny_mono (F.run _ X.stack _ _ ⟨Value.ref (s.heap.objs.size+1)::us,[]⟩ (Value.ref (s.heap.objs.size+1)::(us++ds)) _ _ E (hr.make C us [])
  (I2.env0.make C us []) (hb _ (Value.ref (s.heap.objs.size+1)::us) I2.kIn hl) r2 hq) λr s' hq'=>?_))
 cases r with
 |error e=>exact hx pins σ _ _ e s' I2 hq'
 |ok fl=>
  cases fl with
  |ret u=>
   obtain⟨v,H',I3,rv,ev,q3⟩:=I2.after hq'
   subst ev
   exact⟨rv,⟨V.ref (s.heap.objs.size+1),H',I3,rfl,q3⟩⟩
  |next=>exact False.elim hq'
  |brk=>exact False.elim hq'
  |cont=>exact False.elim hq'
theorem dp8(M:Mk X.K C f)(F:FnOk X.prog X.w X.K X.mg X.base CX k f fd ps sp)(hr:Room (k+1) X.A)(hg:Gl X x)(hm:X.mg x=some (.ref C))(hb:Binds X.K fd ps ds)(hd:Vals dvs ds)(hx:av2 CX X E)
 (ha:PA X (e::es) t)(hdb:(x==("__debug__":Str))=false:=by decide)(he:starEach (e::es) X.env=(false,eval e X.env)::starEach es X.env:=by rfl)(hpl:(backTo pos (starEach es X.env)).any (·.1)=false:=by rfl):
 PE X (.Call (.Name x p) (e::es) [] pos) (cy2 C sp dvs E t):=by
 intro pins s σ H Q I h
 refine wpAny_Call_Name_kw (xZ I hg hm ?_ hdb)
 refine PySem.W.callWith_K (h₀:=X.base) I.ok.mod.kin M.kp (cH (ha pins s σ H _ I h) λus s1 ⟨vs,H1,I1,r,q⟩=>⟨I1.kIn,?_⟩) he hpl
 exact dt4 M F hr hb hd hx I1 r q
end
section
variable {X : Cx} {CX : CXT} {k : Nat} {f C : Addr} {fd : FuncData} {ps ks : List Str} {sp : Sp} {E : XK} {x m : Str} {p pos apos kpos : Pos} {e o : Expr} {es : List Expr} {kws : List Keyword} {te ta : TE} {t tk : TA} {nm : Option Str}
variable {g : List Value → List Value → List Value} {gV : List V → List V → List V}
end
structure aY (N P:List Str) (sc:Scope):Prop where
 kind:sc.kind=.function
 co:sc.isCoroutine=false
 gen:sc.isGenerator=false
 nd:N.Nodup
 pre:N.take P.length=P
 par:∀x∈P,sc.names.lookup x=some .local\/sc.names.lookup x=some .cell
 nofree:∀y∈sc.names,y.2≠ .free
theorem bq2 {kindOf : Str → Option NameKind} {x : Str} : ∀ {binds : List (Str × Value)} {m : Str → Option Value}, (∀ v, (x, v) ∉ binds) → bindL kindOf binds m x = m x
  | [], _, _ => rfl
  | (n, v) :: r, m, h => by
    unfold bindL
    rw [bq2 fun w hw => h w (List.mem_cons_of_mem _ hw)]
    split
    · have : x ≠ n := by rintro rfl; exact h v List.mem_cons_self
      simp [this]
    · rfl
theorem bx1 {kindOf : Str → Option NameKind} {x : Str} : ∀ {binds : List (Str × Value)} {m : Str → Option Value}, (∀ v, (x, v) ∉ binds) → bindC kindOf binds m x = m x
  | [], _, _ => rfl
  | (n, v) :: r, m, h => by
    unfold bindC
    rw [bx1 fun w hw => h w (List.mem_cons_of_mem _ hw)]
    split
    · rfl
    · have : x ≠ n := by rintro rfl; exact h v List.mem_cons_self
      simp [this]
theorem by1{kindOf:Str->Option NameKind}{x:Str}{v:Value}:∀{P:List Str}{vs:List Value}{i:Nat}{m:Str->Option Value},P.Nodup->P[i]?=some x->vs[i]?=some v->kindOf x=some .local->
 bindL kindOf (P.zip vs) m x=some v
 |[],_,_,_,_,h,_,_=>by simp at h
 |_::_,[],_,_,_,_,h,_=>by simp at h
 |p::P,w::vs,0,m,nd,h1,h2,hk=>by
  simp at h1 h2;subst h1;subst h2
  show bindL kindOf ((p,w)::P.zip vs) m p=_
  unfold bindL
  rw[bq2 λv hv=>(List.nodup_cons.mp nd).1 (List.of_mem_zip hv).1,if_pos hk]
  simp
 |p::P,w::vs,i+1,m,nd,h1,h2,hk=>by
  show bindL kindOf ((p,w)::P.zip vs) m x=_
  unfold bindL
  exact by1 (i:=i) (List.nodup_cons.mp nd).2 (by simpa using h1) (by simpa using h2) hk
theorem bs2{kindOf:Str->Option NameKind}{x:Str}{v:Value}:∀{P:List Str}{vs:List Value}{i:Nat}{m:Str->Option Value},P.Nodup->P[i]?=some x->vs[i]?=some v->kindOf x≠some .local->
 bindC kindOf (P.zip vs) m x=some v
 |[],_,_,_,_,h,_,_=>by simp at h
 |_::_,[],_,_,_,_,h,_=>by simp at h
 |p::P,w::vs,0,m,nd,h1,h2,hk=>by
  simp at h1 h2;subst h1;subst h2
  show bindC kindOf ((p,w)::P.zip vs) m p=_
  unfold bindC
  rw[bx1 λv hv=>(List.nodup_cons.mp nd).1 (List.of_mem_zip hv).1,if_neg hk]
  simp
 |p::P,w::vs,i+1,m,nd,h1,h2,hk=>by
  show bindC kindOf ((p,w)::P.zip vs) m x=_
  unfold bindC
  exact bs2 (i:=i) (List.nodup_cons.mp nd).2 (by simpa using h1) (by simpa using h2) hk
def start(N:List Str)(vs:List V):St:=vs.map some++List.replicate (N.length-vs.length) none
def mK(CX:CXT)(P:Program)(w:World)(K:PySem.W.Frag)(mg:Str->Option Value)(base:Heap)(N:List Str)(qual:Str)(scope:Scope)(f:Addr)(cd:Value)(A:Around)(outer:List Env)(s:Shared)(H:Hp)(E:XK):Cx where
 prog:=P
 w:=w
 K:=K
 mg:=mg
 base:=base
 A:=A.deeper (envOfC qual scope s.heap.objs.size f cd)
 N:=N
 s₀:=s
 H₀:=H
 env:=envOfC qual scope s.heap.objs.size f cd
 outer:=outer
 stack:=envOfC qual scope s.heap.objs.size f cd::outer
 ex:=[]
 calm:=true
 fn:=λ_=>true
 pn:=[]
 xe:=λe s'=>wpAny (model P w) (A.deeper (envOfC qual scope s.heap.objs.size f cd)) (leaving (envOfC qual scope s.heap.objs.size f cd) e) (λ_ s''=>CX outer H s E e s'') (λe' s''=>CX outer H s E e' s'') s'
theorem bx6{sc:Scope}{n:Nat}{x:Str}(h:sc.names.lookup x=some .cell):∃c,(cellsFrom n sc.names []).lookup x=some c:=by
 have q:=PySem.W.cellsFrom_some sc.names n [] (.inl h)
 exact Option.isSome_iff_exists.mp q
theorem cw7{CX:CXT}{P:Program}{w:World}{K:PySem.W.Frag}{mg:Str->Option Value}{base:Heap}{N ps:List Str}{qual:Str}{scope:Scope}{f:Addr}{cd:Value}{A:Around}{outer:List Env}{s s1:Shared}{H:Hp}{E:XK}{us:List Value}{vs:List V}
 (S:aY N ps scope)(hd:A.handled=none)(e0:Env0 P w K mg base A outer s H)(hl:vs.length=ps.length)(r:Vals vs us)
 (x:InCallC s s.heap.objs.size (bindL (envOfC qual scope s.heap.objs.size f cd).kindOf (ps.zip us) λ_=>none) (cellsFrom (s.heap.objs.size+1) scope.names []) (bindC (envOfC qual scope s.heap.objs.size f cd).kindOf (ps.zip us) λ_=>none) s1):
 Inv (mK CX P w K mg base N qual scope f cd A outer s H E) [] (start N vs) H s1:=by
 have hpl:ps.length<=N.length:=by have:=congrArg List.length S.pre;rw[List.length_take]at this;omega
 obtain⟨h1,tk,rfl,hk⟩:=x.done
 have noA:∀b:Addr,b∉(mK CX P w K mg base N qual scope f cd A outer s H E).ex:=λb z=>absurd (show b∈([]:List Addr) from z) (by simp)
 refine⟨⟨e0.mod,S.kind,rfl,rfl,Nat.le_refl _,λy z c h1 h2=>?_,λy hy=>?_,λy c _ h=>?_,λ_=>hd,Around.frames_deeper e0.frames,.inr ⟨rfl,rfl⟩,λb z=>absurd z (noA b),e0.bs,e0.bsz,λb _ _=>noA b,λb z=>absurd z (noA b),e0.funs,e0.frf⟩,
  rfl,e0.bare,Un.kept hk,⟨_,x.toInCall.ns,λi y v h1 h2 h3=>?_⟩,λy c h=>⟨_,x.cell y c h⟩,e0.hok.fresh (Nat.le_refl _),λy c h=>?_,λp hp=>absurd (show p∈([]:List (Addr×Obj)) from hp) (by simp),e0.hok.kept hk,?_⟩
 . exact name_of_addr x.apart (PySem.mem_of_lookup h1) (PySem.mem_of_lookup h2)
 . have hy:scope.names.lookup y=some .cell\/scope.names.lookup y=some .free:=hy
   rcases hy with hy|hy
   . exact bx6 hy
   . exact absurd rfl (S.nofree _ (PySem.mem_of_lookup hy))
 . exact Nat.le_of_lt (x.above y c (PySem.mem_of_lookup h))
 . have hi:i<vs.length:=by
    unfold start at h2
    by_cases hi:i<vs.length
    . exact hi
    . rw[List.getElem?_append_right (by simpa using hi)]at h2
      rw[List.getElem?_replicate]at h2
      split at h2<;>cases h2
   have ha:vs[i]?=some v:=by
    unfold start at h2
    rw[List.getElem?_append_left (by simpa using hi),List.getElem?_map]at h2
    cases e:vs[i]? with
    |none=>rw[e]at h2;cases h2
    |some a=>rw[e]at h2;cases h2;rfl
   obtain⟨u,hu,rv⟩:=r.get ha
   have hp:ps[i]?=some y:=by
    rw[<-S.pre,List.getElem?_take_of_lt (by omega)];exact h1
   have ndP:ps.Nodup:=by rw[<-S.pre];exact S.nd.sublist (List.take_sublist _ _)
   refine⟨u,rv,?_⟩
   rcases S.par y (List.mem_of_getElem? hp)with k|k
   . exact .inl ⟨k,by1 ndP hp hu k⟩
   . obtain⟨c,e⟩:=bx6 (n:=s.heap.objs.size+1) k
     refine .inr ⟨.inl k,c,e,?_⟩
     have q:=x.cell y c e
     rw[bs2 ndP hp hu (by show scope.names.lookup y≠_;rw[k];decide)]at q
     exact q
 . exact e0.hok.fresh (Nat.le_of_lt (x.above y c (PySem.mem_of_lookup h)))
 . unfold start
   show _=N.length
   rw[List.length_append,List.length_map,List.length_replicate]
   omega
theorem ep6{CX:CXT}{P:Program}{w:World}{K:PySem.W.Frag}{mg:Str->Option Value}{base:Heap}{k:Nat}{f:Addr}{name qual:Str}{params:Arguments}{body:List Stmt}{scope:Scope}{dV kV doc pm cdv ct oc:Value}{an od:Option Addr}
 {osl:Array (Option Value)}{N ps:List Str}{sp:Sp}(lk:K.lookup f=some ⟨oc,od,.func (PySem.W.fnOf name qual params body scope dV kV doc pm an cdv ct),osl⟩)(hcd:PySem.W.codeIn K cdv qual=true)(S:aY N ps scope)
 (len:∀vs H Q E,sp vs H Q E->vs.length=ps.length)
 (hbody:∀(A:Around)(outer:List Env)(s:Shared)(H:Hp)(vs:List V)(Q:VK)(E:XK),Room k (A.deeper (envOfC qual scope s.heap.objs.size f cdv))->sp vs H Q E->
  ∃t,PSs (mK CX P w K mg base N qual scope f cdv A outer s H E) body t/\t {nx:=λ_ H'=>Q .non H',rt:=Q} (start N vs) H):
 FnOk P w K mg base CX (k+1) f (PySem.W.fnOf name qual params body scope dV kV doc pm an cdv ct) ps sp:=by
 refine⟨len,λA outer s H args us vs Q E hr e0 hb r hsp=>?_⟩
 have hl:=len _ _ _ _ hsp
 have KX:K.In s.heap:=e0.mod.kin.keeps λb o e=>(e0.bs b o e).1
 have lim:s.heap.NoLimit:=e0.mod.nolimit.keeps λb o e=>(e0.bs b o e).1
 have hkind:∀y∈ps.zip us,scope.names.lookup y.1=some .local\/(scope.names.lookup y.1=some .cell/\((cellsFrom (s.heap.objs.size+1) scope.names []).lookup y.1).isSome=true):=λ⟨n,v⟩ hy=>by
  rcases S.par n (List.of_mem_zip hy).1 with q|q
  . exact .inl q
  . exact .inr ⟨q,PySem.W.cellsFrom_some _ _ _ (.inl q)⟩
 refine codeAny_call_function hr.depth (KX _ _ lk) rfl S.co S.gen rfl (PySem.W.codeRec_of KX hcd) (hb _ _ _ _ ?_)
 refine wpAny_newFunctionEnv_cells S.kind hkind λenv he s1 x=>?_
 subst he
 refine⟨lim.keeps x.toInCall.keep,codeAny_func ?_⟩
 obtain⟨t,ht,hq⟩:=hbody A outer s H vs Q E (hr.deeper _) hsp
 have I:Inv (mK CX P w K mg base N qual scope f cdv A outer s H E) [] (start N vs) H s1:=cw7 S hr.hd e0 hl r x
 refine wpAny_mono (ht s1 (start N vs) H _ I hq) (λfl s' hs=>?_) λe s' hs=>hs
 have bQ:∀{σ':St}{H':Hp}{v:V}{u:Value},Inv (mK CX P w K mg base N qual scope f cdv A outer s H E) [] σ' H' s'->RelV v u->Q v H'->CE outer P w H s Q u s':=
  λ{σ' H' v u} J rv q=>⟨v,H',J.os,J.bare,J.base,J.hok,rv,q⟩
 cases fl with
 |ret u=>
  obtain⟨v,σ',H',J,rv,q⟩:=hs
  exact bQ J rv q
 |next=>
  obtain⟨σ',H',J,q⟩:=hs
  exact bQ (v:=V.non) (u:=Value.none) J rfl q
 |brk=>
  obtain⟨_,_,_,q⟩:=hs
  exact False.elim q
 |cont=>
  obtain⟨_,_,_,q⟩:=hs
  exact False.elim q
end L2
namespace L2
open PySem PySem.Spec PyProof.Rows
section
variable {X : Cx} {x : Str} {p pos : Pos} {e : Expr} {es : List Expr} {t : TA} {id T : String} {r : List V → Hp → VK → Prop}
def tCB(r:List V->Hp->VK->Prop)(t:TA):TE:=λσ H Q=>t σ H λvs H1=>r vs H1 Q
theorem aV(hc:CallR X (.builtin id) r)(hg:Gl X x)(hm:X.mg x=none)(hv:bootBuiltins x=some (.builtin id))(ha:PA X (e::es) t)(hn:x≠"__name__":=by decide)(hdb:(x==("__debug__":Str))=false:=by decide)
 (he:starEach (e::es) X.env=(false,eval e X.env)::starEach es X.env:=by rfl)(hpl:(backTo pos (starEach es X.env)).any (·.1)=false:=by rfl):PE X (.Call (.Name x p) (e::es) [] pos) (tCB r t):=by
 intro pins s σ H Q I h
 refine wpAny_Call_Name_kw (nI I hg hm hv ?_ hn hdb)
 exact PyProof.Rows.callWith_builtin1 (cH (ha pins s σ H _ I h) λus s1 ⟨vs,H1,I1,r1,q1⟩=>hc s1 σ H1 vs us Q I1 r1 q1) he hpl
theorem iR(hc:CallR X (.type T) r)(hg:Gl X x)(hm:X.mg x=none)(hv:bootBuiltins x=some (.type T))(ha:PA X (e::es) t)(hn:x≠"__name__":=by decide)(hdb:(x==("__debug__":Str))=false:=by decide)
 (he:starEach (e::es) X.env=(false,eval e X.env)::starEach es X.env:=by rfl)(hpl:(backTo pos (starEach es X.env)).any (·.1)=false:=by rfl):PE X (.Call (.Name x p) (e::es) [] pos) (tCB r t):=by
 intro pins s σ H Q I h
 refine wpAny_Call_Name_kw (nI I hg hm hv ?_ hn hdb)
 exact PyProof.Rows.callWith_type1 (cH (ha pins s σ H _ I h) λus s1 ⟨vs,H1,I1,r1,q1⟩=>hc s1 σ H1 vs us Q I1 r1 q1) he hpl
end
end L2
namespace HT
open PySem PyProof.Rows
section
open PySem.SeqAt
open PySem.AutoSeq1 (wpAny_loadPart')
open PySem.MeetsSeq PySem.MeetsSeq2 PySem.MeetsSeq3
end
section
variable {prog : Program} {w : World} {A : Around} {E : Value → Shared → Prop} {s : Shared}
theorem cat_tup(ht:IsTup s.heap t vs.toArray)(hb:IsTup s.heap b ws.toArray)(hv:vs≠[])
 (h1:ws=[]->Q (.ref t) s)(h2:ws≠[]->Q (.ref s.heap.objs.size) {s with heap:=s.heap.push {cls:=.type "tuple",data:=.seq (vs++ws).toArray}})
 (hsz:vs.length+ws.length<=sizeLine):wpAny (model prog w) A (binaryOp .Add (.ref t) (.ref b)) Q E s:=by
 obtain⟨⟨cls,dd,data,sl⟩,ho,hc,n,hd⟩:=id ht
 obtain⟨⟨cls2,dd2,data2,sl2⟩,ho2,hc2,n2,hd2⟩:=id hb
 simp only at hc hd hc2 hd2
 subst hc hd hc2 hd2
 have e:vs.toArray++ws.toArray=(vs++ws).toArray:=by simp
 by_cases hw:ws=[]
 . exact concat_meets ⟨_,ho,rfl⟩ ⟨_,ho2,rfl⟩ noFill_tuple_add seq_tuple_add PySem.F.slot_tuple_add PySem.F.entry_tuple_add (PySem.F.args_tuple_add_2 _ _)
    (tuple_addW1 t b vs.toArray ws.toArray n n2 dd dd2 sl sl2 (by simpa using hv) (by simp[hw])) ⟨ho,ho2,h1 hw⟩
 . refine concat_meets ⟨_,ho,rfl⟩ ⟨_,ho2,rfl⟩ noFill_tuple_add seq_tuple_add PySem.F.slot_tuple_add PySem.F.entry_tuple_add (PySem.F.args_tuple_add_2 _ _)
    (tuple_addW2 t b vs.toArray ws.toArray n n2 dd dd2 sl sl2 (by simpa using hv) (by simpa using hw) (by rw[List.size_toArray,List.size_toArray];exact hsz)) ⟨ho,ho2,?_⟩
   rw[e]
   exact h2 hw
def sIx(n d:Nat):Option Int->Nat
 |none=>d
 |some v=>if v<0 then(v+(n:Int)).toNat else min v.toNat n
theorem sIx_le(n d:Nat)(hd:d<=n)(o:Option Int):sIx n d o<=n:=by
 cases o with
 |none=>exact hd
 |some v=>
  show(if v<0 then(v+(n:Int)).toNat else min v.toNat n)<=n
  by_cases hv:v<0
  . rw[if_pos hv];omega
  . rw[if_neg hv];exact Nat.min_le_right _ _
theorem clip_eq(v:Int)(n d:Nat):(if v<0 then max (v+(n:Int)) 0 else min v (n:Int))=((sIx n d (some v):Nat):Int):=by
 show(if v<0 then max (v+(n:Int)) 0 else min v (n:Int))=(((if v<0 then(v+(n:Int)).toNat else min v.toNat n):Nat):Int)
 by_cases hv:v<0
 . simp only[if_pos hv];omega
 . simp only[if_neg hv];omega
theorem adjust_gen(lo hi:Option Int)(n:Nat):Builtin.Slice.sliceAdjust lo hi 1 (n:Int)=(((sIx n 0 lo:Nat):Int),((sIx n n hi:Nat):Int)):=by
 have h1:¬((1:Int)<0):=by omega
 unfold Builtin.Slice.sliceAdjust
 simp only[h1,if_false]
 refine Prod.ext ?_ ?_
 . cases lo with
   |none=>rfl
   |some v=>exact clip_eq v n 0
 . cases hi with
   |none=>rfl
   |some v=>exact clip_eq v n n
theorem places_gen(i j:Nat):Builtin.Slice.slicePlaces (i:Int) (j:Int) 1=j-i:=by
 unfold Builtin.Slice.slicePlaces
 have h1:(1:Int)>0:=by omega
 simp only[h1,if_true,Int.ediv_one]
 split<;>omega
theorem slicePart_(p:IsPart v o)(h:Q o s):wpAny (model prog w) A (Builtin.Slice.slicePartIndex v) Q E s:=by
 cases p with
 |none=>exact slicePart_none h
 |int i t=>exact slicePart_int h
theorem sliceApplied_gen {sl : Addr} {vl vu : Value} {lo hi : Option Int} {n : Nat} {Q : Int × Int × Nat → Shared → Prop} (hs : s.heap.IsSliceOf sl vl vu .none) (pl : IsPart vl lo) (pu : IsPart vu hi)
    (h : Q (((sIx n 0 lo : Nat) : Int), 1, sIx n n hi - sIx n 0 lo) s) : wpAny (model prog w) A (Builtin.Slice.sliceApplied (.ref sl) (pure (n : Int))) Q E s := by
  obtain ⟨os, hos, hcs, hds⟩ := id hs
  unfold Builtin.Slice.sliceApplied Builtin.Slice.sliceFields
  refine wpAny_bind (wpAny_bind (wpAny_field hos hds (x := vl) rfl (wpAny_bind (wpAny_field hos hds (x := vu) rfl (wpAny_bind (wpAny_field hos hds (x := .none) rfl (wpAny_pure ?_)))))))
  refine wpAny_bind (slicePart_none ?_)
  show wpAny _ _ (if ((1 : Int) == 0) = true then _ else _) _ _ s
  rw [if_neg (by decide)]
  refine wpAny_bind (slicePart_ pl (wpAny_bind (slicePart_ pu (wpAny_bind (wpAny_pure ?_)))))
  show wpAny _ _ (match Builtin.Slice.sliceAdjust lo hi 1 (n : Int) with | (lo, hi) => pure (lo, (1 : Int), Builtin.Slice.slicePlaces lo hi 1)) _ _ s
  rw [adjust_gen lo hi n]
  show wpAny _ _ (pure (((sIx n 0 lo : Nat) : Int), (1 : Int), Builtin.Slice.slicePlaces ((sIx n 0 lo : Nat) : Int) ((sIx n n hi : Nat) : Int) 1)) _ _ s
  rw [places_gen]
  exact wpAny_pure h
theorem pick_gen(xs:Array Value)(i k:Nat):((List.range k).filterMap λ(m:Nat)=>xs[((i:Int)+(m:Int)*1).toNat]?).toArray=((xs.toList.drop i).take k).toArray:=by
 have e:(λ(m:Nat)=>xs[((i:Int)+(m:Int)*1).toNat]?)=λm=>xs[i+m]?:=by
  funext m
  have:((i:Int)+(m:Int)*1).toNat=i+m:=by omega
  rw[this]
 rw[e]
 have:=pick_run xs i k
 rw[List.filterMap_map]at this
 have e2:((λx=>xs[x]?)∘λx=>i+x)=λm=>xs[i+m]?:=rfl
 rw[e2]at this
 rw[this]
theorem getItem_tuple_cut{t sl:Addr}{items:Array Value}{vl vu:Value}{lo hi:Option Int}{Q:Value->Shared->Prop}(ht:IsTup s.heap t items)(hs:s.heap.IsSliceOf sl vl vu .none)(pl:IsPart vl lo)(pu:IsPart vu hi)
 (hw:¬(sIx items.size 0 lo=0/\sIx items.size items.size hi=items.size))
 (h:Q (.ref s.heap.objs.size) {s with heap:=s.heap.push {cls:=.type "tuple",data:=.seq ((items.toList.drop (sIx items.size 0 lo)).take (sIx items.size items.size hi-sIx items.size 0 lo)).toArray}})
 (hsz:items.size<=sizeLine):wpAny (model prog w) A (getItem (.ref t) (.ref sl)) Q E s:=by
 have htake:sizeOk (.seq ((items.toList.drop (sIx items.size 0 lo)).take (sIx items.size items.size hi-sIx items.size 0 lo)).toArray):=by
  show((items.toList.drop (sIx items.size 0 lo)).take (sIx items.size items.size hi-sIx items.size 0 lo)).toArray.size<=sizeLine
  rw[List.size_toArray,List.length_take,List.length_drop,Array.length_toList]
  omega
 have hj:sIx items.size items.size hi<=items.size:=sIx_le _ _ (Nat.le_refl _) hi
 obtain⟨os,hos,hcs,hds⟩:=id hs
 have hTs:s.TypeIs (.ref sl) "slice":=⟨os,hos,hcs⟩
 unfold getItem
 try with_reducible refine wpAny_holding ?_
 first|refine wpAny_bind (wpAny_pure ?_)|skip
 refine wpAny_bind (wpAny_sequenceKey ht.typeIs (by decide) ?_)
 refine wpAny_bind (wpAny_callSpecial?_slot (name:=Str.ofString "__getitem__") ht.typeIs PyProof.Rows.slot_tuple_getitem
  (wpAny_call_entry PyProof.Rows.slot_tuple_getitem ht.typeIs entry_tuple_getitem ?_ (args_tuple_getitem _ _)))
 show wpAny _ _ (Builtin.Tuple.tupleItemsOf (.ref t)>>=_) _ _ s
 refine wpAny_bind (tupleItemsOf_ ht ?_)
 refine wpAny_bind (wpAny_typeOf hTs ?_)
 rw[if_pos (by decide)]
 refine wpAny_bind (sliceApplied_gen hs pl pu ?_)
 have hno:¬((((sIx items.size 0 lo:Nat):Int)==0&&(1:Int)==1&&(sIx items.size items.size hi-sIx items.size 0 lo)==items.size)=true):=by
  intro q
  rw[Bool.and_eq_true,Bool.and_eq_true]at q
  have q1:((sIx items.size 0 lo:Nat):Int)=0:=eq_of_beq q.1.1
  have q2:sIx items.size items.size hi-sIx items.size 0 lo=items.size:=eq_of_beq q.2
  exact hw ⟨by omega,by omega⟩
 show wpAny _ _ (if(((sIx items.size 0 lo:Nat):Int)==0&&(1:Int)==1&&(sIx items.size items.size hi-sIx items.size 0 lo)==items.size)=true then _ else _) _ _ s
 rw[if_neg hno,pick_gen]
 first
  |exact wpAny_bind (m:=Builtin.Tuple.tupleExact _) (wpAny_newObj_type (wpAny_pure ⟨_,rfl,wpAny_pure h⟩) htake)
  |exact wpAny_bind (m:=Builtin.Tuple.tupleExact _) (wpAny_newObj_type (wpAny_bind (wpAny_pure (wpAny_pure ⟨_,rfl,wpAny_pure h⟩))) htake)
  |exact wpAny_bind (wpAny_bind (m:=Builtin.Tuple.tupleExact _) (wpAny_newObj_type (wpAny_pure (wpAny_pure ⟨_,rfl,wpAny_pure h⟩)) htake))
  |exact wpAny_bind (wpAny_bind (m:=Builtin.Tuple.tupleExact _) (wpAny_newObj_type (wpAny_pure ⟨_,rfl,wpAny_pure h⟩) htake))
end
end HT
namespace L2
open PySem PySem.Spec PyProof.Rows
abbrev TO:=St->Hp->(Option Int->Hp->Prop)->Prop
def PO(X:Cx)(e:Option Expr)(t:TO):Prop:=
 ∀⦃pins:List (Addr×Obj)⦄ (s:Shared)(σ:St)(H:Hp)(Q:Option Int->Hp->Prop),Inv X pins σ H s->t σ H Q->
  wpAny (model X.prog X.w) X.A (evalPart e X.env) (λu s'=>∃o H',Inv X pins σ H' s'/\IsPart u o/\Q o H') X.xe s
def cg1:TO:=λ_ H Q=>Q none H
def dx5(t:TE):TO:=λσ H Q=>t σ H λx H1=>∃i,x=.int i/\Q (some i) H1
theorem uP:∀{us:List Value},Vals (ns.map V.int) us->IntsAre us ns:=by
 induction ns with
 |nil=>intro us r;rw[List.map_nil]at r;cases r;exact .nil
 |cons n ns ih=>
  intro us r
  rw[List.map_cons]at r
  cases r with
  |cons r1 r2=>
   obtain⟨t,e⟩:=r1
   subst e
   exact .cons n t (ih r2)
section
variable {X : Cx} {e : Expr} {te : TE} {lo hi : Option Expr} {tl th : TO} {pos p2 : Pos}
theorem lE:PO X none cg1:=by
 intro pins s σ H Q I h
 rw[evalPart_none]
 exact wpAny_pure ⟨none,H,I,.none,h⟩
theorem iB(h:PE X e te):PO X (some e) (dx5 te):=by
 intro pins s σ H Q I hw
 rw[evalPart_some]
 refine cH (h s σ H _ I hw) λu s1 ⟨x,H1,I1,r1,q1⟩=>?_
 obtain⟨i,rfl,q⟩:=q1
 obtain⟨t,rfl⟩:=r1
 exact⟨some i,H1,I1,.int i t,q⟩
def SlR(X:Cx)(r:V->Option Int->Option Int->Hp->VK->Prop):Prop:=
 ∀⦃pins:List (Addr×Obj)⦄ (s:Shared)(σ:St)(H:Hp)(x:V)(v vl vu:Value)(lo hi:Option Int)(sl:Addr)(Q:VK),Inv X pins σ H s->RelV x v->s.heap.IsSliceOf sl vl vu .none->IsPart vl lo->IsPart vu hi->r x lo hi H Q->
  ∃T id,typeLookup (.type T) "__getitem__"=pure (some (.builtin id))/\s.TypeIs v T/\wpAny (model X.prog X.w) X.A (getItem v (.ref sl)) (EP X pins σ Q) X.xe s
theorem SlR.or(h:SlR X r)(h':SlR X r'):SlR X (λx lo hi H Q=>r x lo hi H Q\/r' x lo hi H Q):=by
 intro pins s σ H x v vl vu lo hi sl Q I rx hs pl pu q
 rcases q with q|q
 . exact h s σ H x v vl vu lo hi sl Q I rx hs pl pu q
 . exact h' s σ H x v vl vu lo hi sl Q I rx hs pl pu q
def tSl(r:V->Option Int->Option Int->Hp->VK->Prop)(te:TE)(tl th:TO):TE:=λσ H Q=>te σ H λx H1=>tl σ H1 λl H2=>th σ H2 λu H3=>r x l u H3 Q
theorem iD(hr:SlR X r)(he:PE X e te)(hl:PO X lo tl)(hu:PO X hi th):PE X (.Subscript e (.Slice lo hi none p2) pos) (tSl r te tl th):=by
 intro pins s σ H Q I h
 refine Subscript_ (cH (he s σ H _ I h) λv s1 ⟨x,H1,I1,r1,q1⟩=>?_)
 refine wpAny_Slice (cH (hl s1 σ H1 _ I1 q1) λvl s2 ⟨l,H2,I2,pl,q2⟩=>cH (hu s2 σ H2 _ I2 q2) λvu s3 ⟨u,H3,I3,pu,q3⟩=>?_)
 rw[evalPart_none]
 refine wpAny_pure ?_
 have I4:Inv X pins σ H3 {s3 with heap:=s3.heap.push {cls:=.type "slice",data:=.fields #[vl,vu,.none]}}:=I3.kept (t':=s3.toks) λb ob q=>Heap.get?_push_of_some _ q
 obtain⟨T,id,hT,ht,hg⟩:=hr {s3 with heap:=s3.heap.push {cls:=.type "slice",data:=.fields #[vl,vu,.none]}} σ H3 x v vl vu l u s3.heap.objs.size Q I4 r1 (Heap.IsSliceOf.new ..) pl pu q3
 show wpAny (model X.prog X.w) X.A (subscriptTail e (.Slice lo hi none p2) v (.ref s3.heap.objs.size)) (EP X pins σ Q) X.xe {s3 with heap:=s3.heap.push {cls:=.type "slice",data:=.fields #[vl,vu,.none]}}
 exact tail_any (ops:=[.ref s3.heap.objs.size,v]) ht hT hg (by with_unfolding_all rfl)
def au2(xs:List V)(lo hi:Option Int):List V:=(xs.drop (HT.sIx xs.length 0 lo)).take (HT.sIx xs.length xs.length hi-HT.sIx xs.length 0 lo)
theorem ab4(xs:List V)(lo hi:Option Int):(au2 xs lo hi).length<=xs.length:=by
 unfold au2
 rw[List.length_take,List.length_drop]
 omega
def ed0(K:PySem.W.Frag):V->Option Int->Option Int->Hp->VK->Prop:=λx lo hi H Q=>∃a xs,x=.ref a/\SqT K H a xs/\
 ¬(HT.sIx xs.length 0 lo=0/\HT.sIx xs.length xs.length hi=xs.length)/\∀p,H p=none->Q (.ref p) (upd H p (.tup (au2 xs lo hi)))
theorem eg3:SlR X (ed0 X.K):=by
 intro pins s σ H x v vl vu lo hi sl Q I rx hs pl pu h
 obtain⟨a,xs,rfl,hx,hw,q⟩:=h
 cases rx
 obtain⟨its,r,ht,hz⟩:=I.tuple hx
 have hlen:its.toArray.size=xs.length:=by rw[List.size_toArray];exact r.length.symm
 refine⟨"tuple",_,PyProof.Rows.slot_tuple_getitem.lookup,ht.typeIs,?_⟩
 refine HT.getItem_tuple_cut ht hs pl pu (by rw[hlen];exact hw) ?_ (by rw[hlen];exact hz)
 rw[hlen]
 refine⟨.ref s.heap.objs.size,_,I.laid (t':=s.toks) (o:=.tup (au2 xs lo hi)) (λb ob q=>Heap.get?_push_of_some _ q) (Nat.le_refl _) ?_,rfl,q _ (I.hok.fresh (Nat.le_refl _))⟩
 exact⟨Nat.le_trans (ab4 xs lo hi) hz,_,(r.drop (HT.sIx xs.length 0 lo)).take (HT.sIx xs.length xs.length hi-HT.sIx xs.length 0 lo),IsTup.new _ _⟩
def dc6(K:PySem.W.Frag):R2:=λx y H Q=>∃a b xs ys,x=.ref a/\y=.ref b/\SqT K H a xs/\SqT K H b ys/\xs≠[]/\xs.length+ys.length<=sizeLine/\
 (ys=[]->Q (.ref a) H)/\(ys≠[]->∀p,H p=none->Q (.ref p) (upd H p (.tup (xs++ys))))
theorem Vals.nil_iff(r:Vals xs us):us=[]↔xs=[]:=by
 cases r with
 |nil=>simp
 |cons _ _=>simp
theorem dc8:OpR X (binaryOp .Add) (dc6 X.K):=by
 intro pins s σ H x y v u Q I rx ry h
 obtain⟨a,b,xs,ys,rfl,rfl,ha,hb,hx,hz,q1,q2⟩:=h
 cases rx
 cases ry
 obtain⟨its,r1,p1,_⟩:=I.tuple ha
 obtain⟨its2,r2,p2,_⟩:=I.tuple hb
 refine HT.cat_tup p1 p2 (λz=>hx (r1.nil_iff.mp z)) (λz=>⟨.ref a,H,I,rfl,q1 (r2.nil_iff.mp z)⟩) (λz=>?_) (by rw[<-r1.length,<-r2.length];exact hz)
 refine⟨.ref s.heap.objs.size,_,I.laid (t':=s.toks) (o:=.tup (xs++ys)) (λb ob q=>Heap.get?_push_of_some _ q) (Nat.le_refl _) ?_,rfl,q2 (λw=>z (r2.nil_iff.mpr w)) _ (I.hok.fresh (Nat.le_refl _))⟩
 exact⟨by rw[List.length_append];exact hz,_,r1.append r2,IsTup.new _ _⟩
end
end L2
namespace L2
open PySem PySem.Spec PyProof.Rows
def rK(n:Nat)(i:Int):Option Nat:=if 0<=i then(if i<n then some i.toNat else none)else if -(n:Int)<=i then some (i+n).toNat else none
def atI{α:Type}(xs:List α)(i:Int):Option α:=(rK xs.length i).bind λj=>xs[j]?
theorem bz0(h:rK n i=some j):seqIndex? i n=some j/\j<n/\-(n:Int)<=i/\i<n:=by
 unfold rK at h
 by_cases h0:0<=i
 . rw[if_pos h0]at h
   by_cases h1:i<n
   . rw[if_pos h1]at h
     have e:i.toNat=j:=Option.some.inj h
     exact⟨by rw[seqIndex_of h0 h1,e],by omega,by omega,h1⟩
   . rw[if_neg h1]at h;cases h
 . rw[if_neg h0]at h
   by_cases h1:-(n:Int)<=i
   . rw[if_pos h1]at h
     have e:(i+n).toNat=j:=Option.some.inj h
     exact⟨by rw[seqIndex_neg (by omega) h1,e],by omega,h1,by omega⟩
   . rw[if_neg h1]at h;cases h
theorem af9(h:atI xs i=some v):∃j,seqIndex? i xs.length=some j/\xs[j]?=some v/\j<xs.length/\-(xs.length:Int)<=i/\i<xs.length:=by
 unfold atI at h
 cases e:rK xs.length i with
 |none=>rw[e]at h;cases h
 |some j=>
  rw[e]at h
  obtain⟨h1,h2,h3,h4⟩:=bz0 e
  exact⟨j,h1,h,h2,h3,h4⟩
theorem fQ{α:Type}{xs:List α}{j:Nat}{v:α}(h:xs[j]?=some v):atI xs (j:Int)=some v:=by
 have hj:j<xs.length:=(List.getElem?_eq_some_iff.mp h).1
 have e:rK xs.length (j:Int)=some j:=by
  unfold rK
  rw[if_pos (by omega),if_pos (by omega)];simp
 unfold atI;rw[e];exact h
def cf1(b:Expr):Prop:=∀o i,subscripted b false o i=operate [o,i] (getItem o i)
def IxR(X:Cx)(r:R2):Prop:=
 ∀(value slice:Expr)(pins:List (Addr×Obj))(s:Shared)(σ:St)(H:Hp)(x y:V)(v u:Value)(Q:VK),Inv X pins σ H s->RelV x v->RelV y u->r x y H Q->
  subscripted slice false v u=operate [v,u] (getItem v u)->wpAny (model X.prog X.w) X.A (subscriptTail value slice v u) (EP X pins σ Q) X.xe s
def MtR(X:Cx)(id:String)(r:V->List V->Hp->VK->Prop):Prop:=
 ∀⦃pins:List (Addr×Obj)⦄ (s:Shared)(σ:St)(H:Hp)(x:V)(xs:List V)(v:Value)(us:List Value)(Q:VK),Inv X pins σ H s->RelV x v->Vals xs us->r x xs H Q->
  wpAny (model X.prog X.w) X.A (call (.builtin id) (v::us)) (EP X pins σ Q) X.xe s
section
variable {X : Cx} {a b : Expr} {ta tb : TE} {pos : Pos}
theorem IxR.or(h:IxR X r)(h':IxR X r'):IxR X (λx y H Q=>r x y H Q\/r' x y H Q):=by
 intro value slice pins s σ H x y v u Q I rx ry q hs
 rcases q with q|q
 . exact h value slice pins s σ H x y v u Q I rx ry q hs
 . exact h' value slice pins s σ H x y v u Q I rx ry q hs
theorem ej6(hr:IxR X r)(ha:PE X a ta)(hb:PE X b tb)(hs:cf1 b):PE X (.Subscript a b pos) (tOp r ta tb):=by
 intro pins s σ H Q I h
 exact Subscript_ (du0 ha hb I h λv u s2 x y H2 I2 rx ry q=>hr a b pins s2 σ H2 x y v u Q I2 rx ry q (hs _ _))
def ee1(K:PySem.W.Frag):R2:=λx y H Q=>∃p xs i v,x=.ref p/\y=.int i/\SqL K H p xs/\atI xs i=some v/\Q v H
def es1(K:PySem.W.Frag):R2:=λx y H Q=>∃p xs i v,x=.ref p/\y=.int i/\SqT K H p xs/\atI xs i=some v/\Q v H
def ep1:R2:=λx y H Q=>∃z i c,x=.str z/\y=.int i/\z.length<=sizeLine/\atI z.cps.toList i=some c/\Q (.str ⟨#[c]⟩) H
theorem ix_list:IxR X (ee1 X.K):=by
 intro value slice pins s σ H x y v u Q I rx ry h hs
 obtain⟨p,xs,i,z,rfl,rfl,hq,he,q⟩:=h
 cases rx
 obtain⟨t,rfl⟩:=ry
 obtain⟨its,r,pl,hz⟩:=I.list hq
 obtain⟨j,h1,h2,h3,h4,h5⟩:=af9 he
 obtain⟨w,ew,rw'⟩:=r.get h2
 have hl:=r.length
 have hn:=yE
 have bQ:EP X pins σ Q w s:=⟨z,H,I,rw',q⟩
 by_cases h0:0<=i
 . have hj:i.toNat=j:=by
    rw[seqIndex_of h0 h5]at h1
    exact Option.some.inj h1
   exact item_listR pl.isList h0 (by omega) (by rw[hj];simpa using ew) bQ hs
 . have hj:(i+(its.toArray.size:Int)).toNat=j:=by
    rw[seqIndex_neg (by omega) h4]at h1
    rw[List.size_toArray,<-hl]
    exact Option.some.inj h1
   exact subscriptTail_builtinR (x:=w) pl.isList.typeIs slot_list_getitem.lookup
    (wpAny_getItem_list_neg (Q:=λr s'=>r=w/\EP X pins σ Q r s') pl.isList (by omega) (by rw[List.size_toArray]<;>omega) (by omega) (by rw[hj];simpa using ew) ⟨rfl,bQ⟩) hs
theorem ix_tup:IxR X (es1 X.K):=by
 intro value slice pins s σ H x y v u Q I rx ry h hs
 obtain⟨p,xs,i,z,rfl,rfl,hq,he,q⟩:=h
 cases rx
 obtain⟨t,rfl⟩:=ry
 obtain⟨its,r,pl,hz⟩:=I.tuple hq
 obtain⟨j,h1,h2,h3,h4,h5⟩:=af9 he
 obtain⟨w,ew,rw'⟩:=r.get h2
 have hl:=r.length
 have hn:=yE
 have bQ:EP X pins σ Q w s:=⟨z,H,I,rw',q⟩
 exact subscriptTail_builtinR (x:=w) pl.typeIs slot_tuple_getitem.lookup
  (getItem_tuple (j:=j) (Q:=λr s'=>r=w/\EP X pins σ Q r s') pl (by omega) (by omega) (by rw[List.size_toArray,<-hl];exact h1) (by simpa using ew) ⟨rfl,bQ⟩) hs
theorem er3:IxR X ep1:=by
 intro value slice pins s σ H x y v u Q I rx ry h hs
 obtain⟨z,i,c,rfl,rfl,hz,he,q⟩:=h
 obtain⟨t,rfl⟩:=rx
 obtain⟨t',rfl⟩:=ry
 obtain⟨j,h1,h2,h3,h4,h5⟩:=af9 he
 have hl:z.cps.toList.length=z.length:=by simp[Str.length]
 rw[hl]at h1 h4 h5
 have hn:=yE
 exact tail_any (typeIs_str s z t) slot_str_getitem.lookup (getItem_str (c:=c) (by
  have e1:decide (i< -(2^63:Int))=false:=decide_eq_false (by omega)
  have e2:decide (i>=2^63)=false:=decide_eq_false (by omega)
  rw[e1,e2,Bool.or_false]) (by rw[h1];simpa using h2) ⟨.str ⟨#[c]⟩,H,I.tok _,⟨_,rfl⟩,q⟩) hs
def rIx(K:PySem.W.Frag):R2:=λx y H Q=>ee1 K x y H Q\/es1 K x y H Q\/ep1 x y H Q
theorem ee4:IxR X (rIx X.K):=ix_list.or (ix_tup.or er3)
theorem cc4(its:List Value)(n j:Nat)(u:Value):Obj.mapSeq (·.setIfInBounds j u) {cls:=.type "list",data:=.seq its.toArray n}={cls:=.type "list",data:=.seq (its.set j u).toArray n}:=by
 simp[Obj.mapSeq]
theorem Inv.lst{pins:List (Addr×Obj)}{σ:St}{H:Hp}{s:Shared}{p:Addr}{xs:List V}(I:Inv X pins σ H s)(h:H p=some (.lst xs)):
 ∃(its:List Value)(n:Nat),Vals xs its/\s.heap.get? p=some {cls:=.type "list",data:=.seq its.toArray n}/\xs.length<=sizeLine:=by
 obtain⟨z,its,n,r,e⟩:=I.hok p _ h
 exact⟨its,n,r,e,z⟩
theorem Inv.lstUpd{pins:List (Addr×Obj)}{σ:St}{H:Hp}{s:Shared}{p:Addr}{xs ys:List V}{its its':List Value}{n n':Nat}{f:Obj->Obj}(I:Inv X pins σ H s)(h:H p=some (.lst xs))
 (ho:s.heap.get? p=some {cls:=.type "list",data:=.seq its.toArray n})(hf:f {cls:=.type "list",data:=.seq its.toArray n}={cls:=.type "list",data:=.seq its'.toArray n'})(r:Vals ys its')(hz:ys.length<=sizeLine)(t:Nat):
 Inv X pins σ (upd H p (.lst ys)) {s with heap:=s.heap.update p f,toks:=t}:=by
 have e:(s.heap.update p f).get? p=some {cls:=.type "list",data:=.seq its'.toArray n'}:=by
  rw[Heap.get?_update_self f ho (by rw[hf]<;>rfl),hf]
 refine I.write (x:=p) (e:=p) (by rw[h];trivial) (.inl rfl) (λb u hb q=>(Heap.get?_update_other _ _ (Ne.symm hb)).trans q) ⟨_,e⟩ ?_
 exact⟨hz,its',n',r,e⟩
def dz5:V->V->V->Hp->(Hp->Prop)->Prop:=λo i v H Q=>∃p xs k j,o=.ref p/\i=.int k/\H p=some (.lst xs)/\rK xs.length k=some j/\Q (upd H p (.lst (xs.set j v)))
theorem bk6:er0 X dz5:=by
 intro pins s σ H o i v ov iv u Q I ro ri rv h
 obtain⟨p,xs,k,j,rfl,rfl,hp,hj,q⟩:=h
 cases ro
 obtain⟨t,rfl⟩:=ri
 obtain⟨its,n,r,ho,hz⟩:=I.lst hp
 obtain⟨h1,h2,h3,h4⟩:=bz0 hj
 have hl:=r.length
 have hn:=yE
 have I':Inv X pins σ (upd H p (.lst (xs.set j v))) {s with heap:=s.heap.update p (Obj.mapSeq (·.setIfInBounds j u))}:=
  I.lstUpd hp ho (cc4 its n j u) (r.set rv j) (by rw[List.length_set];exact hz) s.toks
 by_cases h0:0<=k
 . have hk:k.toNat=j:=by
    rw[seqIndex_of h0 h4]at h1
    exact Option.some.inj h1
   exact PySem.W.ki_setAt ho h0 (by omega) (by rw[List.size_toArray,<-hl];exact h4) (by rw[hk];exact⟨_,I',q⟩)
 . have hk:(k+(its.toArray.size:Int)).toNat=j:=by
    rw[seqIndex_neg (by omega) h3]at h1
    rw[List.size_toArray,<-hl]
    exact Option.some.inj h1
   exact PySem.W.ki_setBack ho (by omega) (by rw[List.size_toArray,<-hl];exact h3) (by omega) (by rw[hk];exact⟨_,I',q⟩)
theorem bh7(lo hi:Option Int)(n:Nat):(sliceBounds lo hi none n).1=((HT.sIx n 0 lo:Nat):Int)/\(sliceBounds lo hi none n).2.1=((HT.sIx n n hi:Nat):Int)/\(sliceBounds lo hi none n).2.2=1:=by
 refine⟨?_,?_,rfl⟩
 . cases lo with
   |none=>simp[sliceBounds,HT.sIx]
   |some i=>
    simp only[sliceBounds,HT.sIx,Option.getD_none,show(1:Int)>0 by decide,if_true]
    by_cases h:i<0
    . simp only[h,if_true]<;>omega
    . simp only[h,if_false]<;>omega
 . cases hi with
   |none=>simp[sliceBounds,HT.sIx]
   |some i=>
    simp only[sliceBounds,HT.sIx,Option.getD_none,show(1:Int)>0 by decide,if_true]
    by_cases h:i<0
    . simp only[h,if_true]<;>omega
    . simp only[h,if_false]<;>omega
theorem bd3(its:List Value)(lo hi:Option Int):slicePick its.toArray lo hi none=((its.drop (HT.sIx its.length 0 lo)).take (HT.sIx its.length its.length hi-HT.sIx its.length 0 lo)).toArray:=by
 obtain⟨h1,h2,h3⟩:=bh7 lo hi its.toArray.size
 unfold slicePick
 rw[h1,h2,h3]
 simp only[sliceRange_one,pick_run,List.size_toArray]<;>rfl
def el3(K:PySem.W.Frag):V->Option Int->Option Int->Hp->VK->Prop:=λx lo hi H Q=>∃a xs,x=.ref a/\SqL K H a xs/\∀p,H p=none->Q (.ref p) (upd H p (.lst (au2 xs lo hi)))
theorem dy6:SlR X (el3 X.K):=by
 intro pins s σ H x v vl vu lo hi sl Q I rx hs pl pu h
 obtain⟨a,xs,rfl,hx,q⟩:=h
 cases rx
 obtain⟨its,r,ht,hz⟩:=I.list hx
 have hlen:=r.length
 refine⟨"list",_,slot_list_getitem.lookup,ht.isList.typeIs,?_⟩
 refine wpAny_getItem_list_slice ht.isList hs pl pu .none (by simp) ?_ (by rw[List.size_toArray]<;>omega)
 rw[bd3,<-hlen]
 refine⟨.ref s.heap.objs.size,_,I.laid (t':=s.toks) (o:=.lst (au2 xs lo hi)) (λb ob q=>Heap.get?_push_of_some _ q) (Nat.le_refl _) ?_,rfl,q _ (I.hok.fresh (Nat.le_refl _))⟩
 exact⟨Nat.le_trans (ab4 xs lo hi) hz,_,0,(r.drop (HT.sIx xs.length 0 lo)).take (HT.sIx xs.length xs.length hi-HT.sIx xs.length 0 lo),Heap.get?_push_size _ rfl⟩
def tI:V->Bool
 |.non=>true
 |.bl _=>true
 |.int _=>true
 |.str _=>true
 |_=>false
def eqV:V->V->Bool
 |.non,.non=>true
 |.bl a,.bl b=>a==b
 |.bl a,.int b=>(if a then 1 else 0)==b
 |.int a,.bl b=>a==(if b then 1 else 0)
 |.int a,.int b=>a==b
 |.str a,.str b=>a==b
 |_,_=>false
theorem cs8(ry:RelV y u)(rx:RelV x v)(fy:tI y=true)(fx:tI x=true):SeqAt.EqAt A s u v (eqV y x):=by
 cases y with
 |non=>
  cases ry
  cases x with
  |non=>cases rx;exact SeqAt.EqAt.same _
  |bl b=>cases rx;exact SeqAt.EqAt.none_bool b
  |int b=>obtain⟨t,rfl⟩:=rx;exact SeqAt.EqAt.none_int b t
  |str b=>obtain⟨t,rfl⟩:=rx;exact SeqAt.EqAt.none_str b t
  |_=>exact absurd (show false=true from fx) Bool.false_ne_true
 |bl a=>
  cases ry
  cases x with
  |non=>cases rx;exact SeqAt.EqAt.bool_none a
  |bl b=>cases rx;exact SeqAt.EqAt.bool_bool a b
  |int b=>obtain⟨t,rfl⟩:=rx;exact SeqAt.EqAt.bool_int a b t
  |str b=>obtain⟨t,rfl⟩:=rx;exact SeqAt.EqAt.bool_str a b t
  |_=>exact absurd (show false=true from fx) Bool.false_ne_true
 |int a=>
  obtain⟨t',rfl⟩:=ry
  cases x with
  |non=>cases rx;exact SeqAt.EqAt.int_none a t'
  |bl b=>cases rx;exact SeqAt.EqAt.int_bool a t' b
  |int b=>obtain⟨t,rfl⟩:=rx;exact SeqAt.EqAt.int_int a t' b t
  |str b=>obtain⟨t,rfl⟩:=rx;exact SeqAt.EqAt.int_str a t' b t
  |_=>exact absurd (show false=true from fx) Bool.false_ne_true
 |str a=>
  obtain⟨t',rfl⟩:=ry
  cases x with
  |non=>cases rx;exact SeqAt.EqAt.str_none a t'
  |bl b=>cases rx;exact SeqAt.EqAt.str_bool a t' b
  |int b=>obtain⟨t,rfl⟩:=rx;exact SeqAt.EqAt.str_int a t' b t
  |str b=>obtain⟨t,rfl⟩:=rx;exact SeqAt.EqAt.str_str a t' b t
  |_=>exact absurd (show false=true from fx) Bool.false_ne_true
 |_=>exact absurd (show false=true from fy) Bool.false_ne_true
theorem bx5:OpR X (compareOp .NotIn) (λx y H Q=>∃i j,x=.str i/\y=.str j/\Q (.bl (!(!(Builtin.Str.occurrences j i 0 j.length 1).isEmpty))) H):=by
 intro pins s σ H x y v u Q I rx ry h
 obtain⟨i,j,rfl,rfl,q⟩:=h
 obtain⟨t,rfl⟩:=rx
 obtain⟨t',rfl⟩:=ry
 exact notIn_str ⟨.bl _,H,I,rfl,q⟩
theorem CallR.or(h:CallR X f r)(h':CallR X f r'):CallR X f (λxs H Q=>r xs H Q\/r' xs H Q):=by
 intro pins s σ H xs us Q I rs q
 rcases q with q|q
 . exact h s σ H xs us Q I rs q
 . exact h' s σ H xs us Q I rs q
theorem bq6:CallR X (.type "list") (λxs H Q=>∃p ys,xs=[.ref p]/\(SqL X.K H p ys\/SqT X.K H p ys)/\∀l,H l=none->Q (.ref l) (upd H l (.lst ys))):=by
 intro pins s σ H xs us Q I r h
 obtain⟨p,ys,rfl,hq,q⟩:=h
 obtain⟨u,rfl,rx⟩:=ax6 r
 cases rx
 have bQ:∀(its:List Value),Vals ys its->ys.length<=sizeLine->∀(h':Heap)(c':Nat),(∀b o',s.heap.get? b=some o'->h'.get? b=some o')->
  h'.get? s.heap.objs.size=some {cls:=.type "list",dict:=none,data:=.seq its.toArray c',slots:=#[]}->EP X pins σ Q (.ref s.heap.objs.size) {s with heap:=h'}:=λits r' hz h' c' kp e=>
  ⟨.ref s.heap.objs.size,_,I.laid (t':=s.toks) kp (Nat.le_refl _) (show ObjOk X.prog X.w _ h' _ (.lst ys) from⟨hz,its,c',r',e⟩),rfl,q _ (I.hok.fresh (Nat.le_refl _))⟩
 rcases hq with hq|hq
 . obtain⟨its,r',pl,hz⟩:=I.list hq
   have hlen:=r'.length
   obtain⟨o,ho,hc,n,hd⟩:=pl.isList
   exact call_list_seq p (.inl rfl) ho hc hd (λh' c' kp e=>bQ its r' hz h' c' kp e) (by simp only[List.size_toArray]<;>omega)
 . obtain⟨its,r',pl,hz⟩:=I.tuple hq
   have hlen:=r'.length
   obtain⟨o,ho,hc,n,hd⟩:=pl
   exact call_list_seq p (.inr rfl) ho hc hd (λh' c' kp e=>bQ its r' hz h' c' kp e) (by simp only[List.size_toArray]<;>omega)
def tyV(K:PySem.W.Frag)(T:String)(x:V)(H:Hp):Prop:=match x with
 |.str _=>T="str"
 |.int _=>T="int"
 |.ref p=>(T="list"/\∃xs,SqL K H p xs)\/(T="tuple"/\∃o,K.lookup p=some o/\o.cls=.type "tuple"/\o.dict=none)\/
  (T="dict"/\((∃kvs,H p=some (.dK kvs))\/∃kvs,H p=some (.dT kvs)))\/(T="set"/\∃S n,H p=some (.set S n))
 |_=>False
theorem eb2(I:Inv X pins σ H s)(r:RelV x v)(ty:tyV X.K T x H):
 s.TypeIs v T/\∀a,v=.ref a->∃ob,s.heap.get? a=some ob/\ob.dict=none:=by
 cases x with
 |str z=>
  obtain⟨t,rfl⟩:=r
  cases(show T="str" from ty)
  exact⟨typeIs_str s z t,λ_ e=>nomatch e⟩
 |int i=>
  obtain⟨t,rfl⟩:=r
  cases(show T="int" from ty)
  exact⟨typeIs_int s i t,λ_ e=>nomatch e⟩
 |ref p=>
  cases r
  rcases ty with⟨rfl,xs,hq⟩|⟨rfl,o,hk,hc,hd⟩|⟨rfl,hk⟩|⟨rfl,S,n,hk⟩
  . obtain⟨its,_,pl,_⟩:=I.list hq
    refine⟨pl.isList.typeIs,λa e=>?_⟩
    cases e
    obtain⟨o,n,e,c,hd,_⟩:=pl
    exact⟨o,e,hd⟩
  . refine⟨⟨o,I.kIn p o hk,hc⟩,λa e=>?_⟩
    cases e
    exact⟨o,I.kIn _ o hk,hd⟩
  . have z:∃o,s.heap.get? p=some o/\o.ExactDict:=by
     rcases hk with⟨kvs,hk⟩|⟨kvs,hk⟩
     . obtain⟨_,_,_,_,o,_,_,e,ex,_⟩:=I.hok p _ hk
       exact⟨o,e,ex⟩
     . obtain⟨_,_,_,_,o,_,_,e,ex,_⟩:=I.hok p _ hk
       exact⟨o,e,ex⟩
    obtain⟨o,e,ex⟩:=z
    refine⟨⟨o,e,ex.1⟩,λa e2=>?_⟩
    cases e2
    exact⟨o,e,ex.2.1⟩
  . obtain⟨o,_,_,_,e,ex,_⟩:=I.hok p _ hk
    refine⟨⟨o,e,ex.1⟩,λa e2=>?_⟩
    cases e2
    exact⟨o,e,ex.2.1⟩
 |_=>exact False.elim ty
def tBM(K:PySem.W.Frag)(T:String)(r:V->List V->Hp->VK->Prop)(to:TE)(t:TA):TE:=λσ H Q=>to σ H λx H1=>tyV K T x H1/\t σ H1 λxs H2=>r x xs H2 Q
variable {o e : Expr} {es : List Expr} {to : TE} {t : TA} {name : Str} {apos cpos : Pos} {T id : String} {r : V → List V → Hp → VK → Prop}
theorem er6(pa:PlainAttrs T)(slot:Slot T name id)(hty:typeOf (.builtin id)=pure (.type "method_descriptor"))(hm:MtR X id r)(ho:PE X o to)(ha:PA X (e::es) t)
 (hbase:attributeBase o name X.env (eval o X.env)=eval o X.env:=by rfl)
 (hfew:((backTo cpos (starEach (e::es) X.env)).all (λx=>!x.1)&&(backToKw cpos (keywordEach [] X.env)).all (λx=>x.1.isSome)
  &&decide ((e::es).length+([]:List Keyword).length+(if([]:List Keyword).isEmpty then 0 else 1)<30))=true:=by rfl)
 (hline:(apos.endLine==cpos.line)=true:=by rfl)(hs:starEach (e::es) X.env=(false,eval e X.env)::starEach es X.env:=by rfl)(hplain:(backTo cpos (starEach es X.env)).any (·.1)=false:=by rfl):
 PE X (.Call (.Attribute o name apos) (e::es) [] cpos) (tBM X.K T r to t):=by
 intro pins s σ H Q I h
 refine wpAny_Call_method_late hbase hfew hline rfl (cH (ho s σ H _ I h) λv s1 ⟨x,H1,I1,r1,ty,q1⟩=>?_)
 obtain⟨h1,h2⟩:=eb2 I1 r1 ty
 refine⟨T,id,pa,slot,hty,h1,h2,?_⟩
 have hA:=@ha cpos pins s1 σ H1 _ I1 q1
 rw[hs]at hA⊢
 refine Calls.callWith_builtin (by show(false||(backTo cpos (starEach es X.env)).any (·.1))=false;rw[hplain]<;>rfl) (Calls.evalArgs_plain ?_)
 exact cH hA λus s2 ⟨vs,H2,I2,r2,q2⟩=>hm s2 σ H2 x vs v us Q I2 r1 r2 q2
/- xs.append(e), list.index on a module's tuple .. are MtR facts of 06m -/
end
end L2
namespace L2
open PySem PySem.Spec PyProof.Rows
def MtM(X:Cx)(id:String)(r:V->List V->Hp->VK->Prop):Prop:=
 ∀(pins:List (Addr×Obj))(s:Shared)(σ:St)(H:Hp)(x:V)(xs:List V)(v:Value)(us:List Value)(Q:VK),Inv X pins σ H s->RelV x v->Vals xs us->r x xs H Q->
  wpAny (model X.prog X.w) X.A (call (.builtin id) (v::us)) (EP X pins σ Q) X.xe s
theorem Vals.one:∀{x:V}{us:List Value},Vals [x] us->∃u,us=[u]/\RelV x u
 |_,_,.cons r .nil=>⟨_,rfl,r⟩
theorem Vals.two:∀{x y:V}{us:List Value},Vals [x,y] us->∃u v,us=[u,v]/\RelV x u/\RelV y v
 |_,_,_,.cons r (.cons q .nil)=>⟨_,_,rfl,r,q⟩
section
variable {X : Cx} {pins : List (Addr × Obj)} {σ : St} {H : Hp} {s : Shared} {l b : Addr} {xs ys zs : List V}
theorem Inv.lset{its its':List Value}{n:Nat}{f:Array Value->Array Value}{t':Nat}(I:Inv X pins σ H s)(hH:H l=some (.lst xs))
 (e:s.heap.get? l=some {cls:=.type "list",data:=.seq its.toArray n})(hf:f its.toArray=its'.toArray)(hv:Vals ys its')(hz:ys.length<=sizeLine):
 Inv X pins σ (upd H l (.lst ys)) {s with heap:=s.heap.update l (Obj.mapSeq f),toks:=t'}:=by
 have q:=PySem.IsL.update e f
 rw[hf]at q
 refine I.write (x:=l) (e:=l) (by rw[hH];exact trivial) (.inl rfl) (λb' u hb hu=>(Heap.get?_update_other s.heap (Obj.mapSeq f) (Ne.symm hb)).trans hu) ⟨_,q⟩ ?_
 exact⟨hz,its',_,hv,q⟩
theorem Inv.lnew(I:Inv X pins σ H s)(hv:Vals ys its)(hz:ys.length<=sizeLine):
 Inv X pins σ (upd H s.heap.objs.size (.lst ys)) {s with heap:=s.heap.push {cls:=.type "list",data:=.seq its.toArray},toks:=t'}:=
 I.laid (λ_ _ q=>Heap.get?_push_of_some _ q) (Nat.le_refl _) ⟨hz,its,0,hv,Heap.get?_push_size _ rfl⟩
theorem Inv.fresh(I:Inv X pins σ H s):H s.heap.objs.size=none:=I.hok.fresh (Nat.le_refl _)
theorem Inv.lstM(I:Inv X pins σ H s)(hH:H l=some (.lst xs)):xs.length<=sizeLine/\∃(its:List Value)(n:Nat),Vals xs its/\xs.length=its.length/\s.heap.get? l=some {cls:=.type "list",data:=.seq its.toArray n}:=by
 obtain⟨z,its,n,r,e⟩:=I.hok l _ hH
 exact⟨z,its,n,r,r.length,e⟩
theorem dx2(h:n<=sizeLine):Builtin.List.listTooLong n=false:=by
 unfold Builtin.List.listTooLong
 exact decide_eq_false (by omega)
end
section
variable {X : Cx}
def bd0:V->List V->Hp->VK->Prop:=λx vs H Q=>∃l xs y,x=.ref l/\vs=[y]/\H l=some (.lst xs)/\xs.length<sizeLine/\Q .non (upd H l (.lst (xs++[y])))
theorem ch9:MtM X "list.append" bd0:=by
 intro pins s σ H x vs v us Q I rx rv h
 obtain⟨l,xs,y,rfl,rfl,hH,hz,q⟩:=h
 cases rx
 obtain⟨u,rfl,ru⟩:=rv.one
 obtain⟨z,its,n,r,hl,e⟩:=I.lstM hH
 refine call_meets F.slot_list_append ⟨_,e,rfl⟩ F.entry_list_append (F.args_list_append_2 _ _) (PySem.list_append l its.toArray n u (by rw[List.size_toArray];omega)) ⟨e,?_⟩
 refine⟨.non,_,I.lset (its':=its++[u]) hH e (by simp) (r.append (.cons ru .nil)) ?_,rfl,q⟩
 rw[List.length_append,List.length_singleton]
 omega
def ca1:V->List V->Hp->VK->Prop:=λx vs H Q=>∃l b xs zs,x=.ref l/\vs=[.ref b]/\H l=some (.lst xs)/\H b=some (.lst zs)/\xs.length+zs.length<=sizeLine/\Q .non (upd H l (.lst (xs++zs)))
theorem bb2:MtM X "list.extend" ca1:=by
 intro pins s σ H x vs v us Q I rx rv h
 obtain⟨l,b,xs,zs,rfl,rfl,hH,hB,hz,q⟩:=h
 cases rx
 obtain⟨u,rfl,ru⟩:=rv.one
 cases ru
 obtain⟨z,its,n,r,hl,e⟩:=I.lstM hH
 obtain⟨z2,its2,n2,r2,hl2,e2⟩:=I.lstM hB
 have hsz:its.toArray.size+its2.toArray.size<=sizeLine:=by rw[List.size_toArray,List.size_toArray];omega
 have hlong:¬(!its.toArray.isEmpty&&Builtin.List.listTooLong (its.toArray.size+its2.toArray.size))=true:=by
  rw[dx2 hsz,Bool.and_false]
  exact Bool.false_ne_true
 refine call_meets F.slot_list_extend ⟨_,e,rfl⟩ F.entry_list_extend (F.args_list_extend_2 _ _)
  (AutoSeq1.list_extend_list_list_0 l its.toArray n b its2.toArray n2 hlong (by rw[List.size_toArray];omega) (by omega)) ⟨e,e2,?_⟩
 refine⟨.non,_,I.lset (its':=its++its2) hH e (by simp) (r.append r2) ?_,rfl,q⟩
 rw[List.length_append]
 omega
theorem dl6(xs:List α)(k:Nat):(List.replicate k xs).flatten.length=k*xs.length:=by
 induction k with
 |zero=>simp
 |succ k ih=>rw[List.replicate_succ,List.flatten_cons,List.length_append,ih,Nat.succ_mul,Nat.add_comm]
end
section
variable {prog : Program} {w : World} {A : Around} {E : Value → Shared → Prop} {s : Shared}
set_option maxRecDepth 100000 in
end
section
variable {X : Cx}
end
end L2
namespace Att
open PySem PySem.W PySem.Calls PyProof.Rows
theorem ints_of_wellAll:∀(ns:List Int)(vs:List Value),WellAll P h vs (ns.map WData.int)->IntsAre vs ns:=by
 intro ns
 induction ns with
 |nil=>
  intro vs w
  rw[List.map_nil]at w
  cases w
  exact .nil
 |cons n ns ih=>
  intro vs w
  rw[List.map_cons]at w
  cases w with
  |cons a b=>
   cases a
   exact .cons _ _ (ih _ b)
theorem script_of{l:OpenLaw}{n:Nat}(hn:l.most=some n){P:Params}{h:Heap}{args:List WData}{vals:List Value}
 (hpre:l.row.toRowW.claim.pre args=true)(hwl:WellAll P h vals args):
 ∃a vs ns,vals=[Value.ref a]/\args=[WData.list (ns.map WData.int)]/\h.get? a=some {cls:=.type "list",data:=.seq vs.toArray}/\IntsAre vs ns/\ns.length<=n:=by
 have hsh:WShape.hasAll [] args [.list .int]=true:=(pre_splitW hpre).1
 have hc:l.pre.holds [] {args:=args}=true:=(pre_splitW hpre).2
 obtain⟨d,r,rfl,h1,h2⟩:=hasAllW_cons hsh
 obtain rfl:=hasAllW_nil h2
 obtain⟨xs,rfl,h3⟩:=hasW_list h1
 obtain⟨ns,rfl⟩:=items_int h3
 have hlen:ns.length<=n:=by
  unfold OpenLaw.pre at hc
  have h4:(WTm.not (.lt (.lit (.int (n:Int))) (.len (.arg 0)))).holds [] {args:=[.list (ns.map .int)]}=true:=by
   have h4:=(holds_andW hc).1
   rw[hn]at h4
   exact h4
  have h5:=condW_of h4 (w_not (w_lt w_lit (w_len_list (w_arg rfl))))
  rw[List.length_map]at h5
  refine Nat.le_of_not_lt λq=>?_
  have q':(n:Int)<((ns.length:Nat):Int):=by omega
  first
   |(rw[decide_eq_true q']at h5;exact absurd h5 (by decide))
   |(simp at h5;omega)
 cases hwl with
 |cons w1 w2=>
  cases w2
  cases w1 with
  |list ho hall=>exact⟨_,_,ns,rfl,rfl,ho,ints_of_wellAll ns _ hall,hlen⟩
theorem post_true(l:OpenLaw)(args:List WData):l.row.toRowW.claim.post args (.bool true) args=true:=
 postW_of (r:=l.row.toRowW) (X:=(true==true))
  (show WShape.has [] (.bool true) .bool=true by first|rfl|decide|simp[WShape.has,WShape.arms,WShape.armsAll])
  (show(WTm.eq .res (.lit (.bool true))).value [] {args:=args,res:=some (.bool true),after:=args}=some (.bool (true==true)) from w_eq_bool (w_res rfl) w_lit) rfl
section
variable {prog : Program} {w : World} {A : Around} {E : Value → Shared → Prop} {s : Shared} {K : Frag}
end
end Att
namespace L2
open PySem PySem.Spec PyProof.Rows
theorem ak2:∀{vs:List Value}{ns:List Int},IntsAre vs ns->Vals (ns.map V.int) vs
 |_,_,.nil=>.nil
 |_,_,.cons n t h=>.cons ⟨t,rfl⟩ (ak2 h)
def ey1(H:Hp):Prop:=∀b,H b=none\/∃o xs,H b=some (.frz o (.lst xs))
theorem dr2{P:Program}{w:World}{K:PySem.W.Frag}{mg mb:Str->Option Value}{CX:CXT}{k:Nat}{fa a:Addr}{fd:FuncData}{x:Str}{sp:Sp}{s₁:Shared}{vs:List Value}{ns:List Int}
 (KX:K.In s₁.heap)(hns:s₁.heap.Ns mainGlobals mg)(hb:s₁.heap.Ns builtinsNs mb)(hbb:∀x:Str,x≠"__name__"->mb x=bootBuiltins x)(hlim:s₁.heap.NoLimit)(hg:s₁.gens=#[])
 (ha:s₁.heap.get? a=some {cls:=.type "list",data:=.seq vs.toArray})(hi:IntsAre vs ns)(hl:ns.length<=sizeLine)(hr:Room k callerA)
 (F:∀base:Heap,K.In base->base.Ns mainGlobals mg->FnOk P w K mg base CX k fa fd [x] sp)(hbind:∀(s:Shared)(u:Value),BindsTo s fd ⟨[u],[]⟩ [(x,u)])
 (hsp:∀H:Hp,ey1 H->SqL K H a (ns.map V.int)->sp [.ref a] H (λv _=>v=.bl true) λ_ _ _=>False)
 (hCX:∀H e s',CX [] H s₁ (λ_ _ _=>False) e s'->False):
 codeAny (model P w) callerA (.call (.ref fa) ⟨[.ref a],[]⟩) (λr s'=>r=.ok (.ret (.bool true))/\OldK s₁.heap s'.heap/\s'.os=s₁.os/\AllBare s'.gens) s₁:=by
 have rv:=ak2 hi
 have lenV:=hi.length
 have core:∀H:Hp,ey1 H->SqL K H a (ns.map V.int)->HOk P w H s₁.heap->(∀b,H b≠none->b=a)->(H a≠none->K.lookup a=none)->
  codeAny (model P w) callerA (.call (.ref fa) ⟨[.ref a],[]⟩) (λr s'=>r=.ok (.ret (.bool true))/\OldK s₁.heap s'.heap/\s'.os=s₁.os/\AllBare s'.gens) s₁:=by
  intro H hO hS hok hA hK
  have base_of:∀{b:Addr}{o:Obj},s₁.heap.get? b=some o->H b=none->(zN s₁.heap H).get? b=some o:=λe n=>dc2 e n
  have noA:∀{b:Addr}{o:Obj}{es:Array DictEntry}{ep:Nat},s₁.heap.get? b=some o->o.data=.dict es ep->H b=none:=λ{b o es ep} e d=>by
   cases q:H b with
   |none=>rfl
   |some u=>
    have e':b=a:=hA b (by rw[q];simp)
    subst e'
    rw[ha]at e;cases e
    have d':Data.seq vs.toArray _=Data.dict es ep:=d
    cases d'
  have nsK:∀{b:Addr}{m:Str->Option Value},s₁.heap.Ns b m->(zN s₁.heap H).Ns b m:=λ{b m} ⟨o,es,ep,e,d,r⟩=>⟨o,es,ep,base_of e (noA e d),d,r⟩
  have hKb:K.In (zN s₁.heap H):=λb o e=>base_of (KX b o e) (by
   cases q:H b with
   |none=>rfl
   |some u=>
    have e':b=a:=hA b (by rw[q];simp)
    subst e'
    rw[hK (by rw[q];simp)]at e;cases e)
  have hM:Mod K mg (zN s₁.heap H):=⟨hKb,nsK hns,⟨mb,nsK hb,hbb⟩,let⟨mc,h1,h2⟩:=hlim;⟨mc,nsK h1,h2⟩⟩
  have e0:Env0 P w K mg (zN s₁.heap H) callerA [] s₁ H:=⟨rfl,hM,λb o e=>dh9 e,Nat.le_of_eq (ca9 _ _),trivial,λb hb=>absurd (show b∈([]:List Addr) from hb) (by simp),hok,.of_eq hg⟩
  refine codeAny_mono ((F _ hKb (nsK hns)).run callerA [] s₁ H ⟨[.ref a],[]⟩ [.ref a] [.ref a] _ _ hr e0 (hbind s₁ (.ref a)) (.cons rfl .nil) (hsp H hO hS)) λr s' h=>?_
  cases r with
  |error e=>exact(hCX H e s' h).elim
  |ok fl=>
   cases fl with
   |next=>exact False.elim h
   |brk=>exact False.elim h
   |cont=>exact False.elim h
   |ret u=>
    obtain⟨v,H',os,bare,un,hok',r',q⟩:=h
    have q':v=.bl true:=q
    subst q'
    obtain rfl:u=Value.bool true:=r'
    refine⟨rfl,OldK.of_keep λb o e=>?_,os,bare⟩
    cases q:H b with
    |none=>exact un.keep b o e q (by intro z;exact absurd (show b∈([]:List Addr) from z) (by simp)) (by simp)
    |some u=>
     rcases hO b with z|⟨ob,xs,z⟩
     . rw[q]at z;cases z
     . have z2:=un.frzs b ob _ z
       obtain⟨e1,_⟩:=hok b _ z
       obtain⟨e2,_⟩:=hok' b _ z2
       rw[e]at e1;cases e1
       exact e2
 cases hk:K.lookup a with
 |some o=>
  have e:=KX a o hk
  rw[ha]at e
  cases e
  refine core (λ_=>none) (λ_=>.inl rfl) (.inr ⟨_,vs.toArray,_,hk,rfl,rfl,rfl,by rw[List.size_toArray,lenV];exact hl,by simpa using rv⟩) (λb u z=>by have z':(none:Option HO)=some u:=z;cases z') (λb z=>absurd rfl z) λz=>absurd rfl z
 |none=>
  refine core (λb=>if b=a then some (.frz {cls:=.type "list",data:=.seq vs.toArray} (.lst (ns.map V.int)))else none) (λb=>?_) (.inl (.inr ⟨{cls:=.type "list",data:=.seq vs.toArray},if_pos rfl⟩)) (λb u z=>?_) (λb z=>?_) λ_=>hk
  . by_cases hb:b=a
    . exact .inr ⟨_,_,if_pos hb⟩
    . exact .inl (if_neg hb)
  . by_cases hb:b=a
    . have z':=(if_pos hb).symm.trans z
      cases z'
      subst hb
      exact⟨ha,by rw[List.length_map];exact hl,vs,_,rv,ha⟩
    . have z':=(if_neg hb).symm.trans z
      cases z'
  . by_cases hb:b=a
    . exact hb
    . exact absurd (if_neg hb) z
end L2
namespace L2
open PySem PySem.Spec PyProof.Rows
end L2
namespace L2
open PySem PySem.Spec PyProof.Rows
def xN(s:Stmt)(j:Nat):Stmt:=match s with
 |.ClassDef _ _ _ body _ _ _ _ _ _ _=>body.getD j (.Pass ⟨0,0,0,0⟩)
 |_=>.Pass ⟨0,0,0,0⟩
def jM(s:Stmt):Arguments:=match s with
 |.FunctionDef _ a _ _ _ _ _ _ _ _=>a
 |_=>{posonlyargs:=[],args:=[],vararg:=none,kwonlyargs:=[],kw_defaults:=[],kwarg:=none,defaults:=[]}
def dO(s:Stmt):List Stmt:=match s with
 |.FunctionDef _ _ b _ _ _ _ _ _ _=>b
 |_=>[]
def aO(s:Stmt):Scope:=match s with
 |.FunctionDef _ _ _ _ _ _ sc _ _ _=>sc
 |_=>{kind:=.function,names:=[],isGenerator:=false,isCoroutine:=false}
abbrev kA:CXT:=λ_ _ _ _ _ _=>False
abbrev E0:XK:=λ_ _ _=>False
theorem au6:av2 kA X E0:=λ_ _ _ _ _ _ _ h=>h.elim
structure Fun (K:PySem.W.Frag) (x qual:Str) (st:Stmt) (f:Addr) (fd:FuncData):Prop where
 ex:∃(oc:Value)(od:Option Addr)(kV doc pm:Value)(an:Option Addr)(cdv ct:Value)(osl:Array (Option Value)),
  fd=PySem.W.fnOf x qual (jM st) (dO st) (aO st) .none kV doc pm an cdv ct/\K.lookup f=some ⟨oc,od,.func fd,osl⟩/\PySem.W.codeIn K cdv qual=true
 kp:PySem.W.keepIn K (.ref f)=true
section
variable {P : Program} {w : World} {K : PySem.W.Frag} {mg : Str → Option Value} {base : Heap}
theorem Fun.ok{x qual:Str}{st:Stmt}{f:Addr}{fd:FuncData}{N ps:List Str}{k:Nat}{sp:Sp}(F:Fun K x qual st f fd)(S:aY N ps (aO st))(len:∀vs H Q E,sp vs H Q E->vs.length=ps.length)
 (hbody:∀(cdv:Value)(A:Around)(outer:List Env)(s:Shared)(H:Hp)(vs:List V)(Q:VK)(E:XK),Room k (A.deeper (envOfC qual (aO st) s.heap.objs.size f cdv))->sp vs H Q E->
  ∃t,PSs (mK kA P w K mg base N qual (aO st) f cdv A outer s H E).nox (dO st) t/\t {nx:=λ_ H'=>Q .non H',rt:=Q} (start N vs) H):FnOk P w K mg base kA (k+1) f fd ps sp:=by
 obtain⟨oc,od,kV,doc,pm,an,cdv,ct,osl,rfl,lk,hcd⟩:=F.ex
 refine ep6 lk hcd S len λA outer s H vs Q E hr hsp=>?_
 obtain⟨t,h,q⟩:=hbody cdv A outer s H vs Q E hr hsp
 exact⟨t,h.nox,q⟩
theorem Fun.binds{x qual:Str}{st:Stmt}{f:Addr}{fd:FuncData}{ps:List Str}(F:Fun K x qual st f fd)
 (h:∀(kV doc pm:Value)(an:Option Addr)(cdv ct:Value)(us:List Value),us.length=ps.length->bindArgs (PySem.W.fnOf x qual (jM st) (dO st) (aO st) .none kV doc pm an cdv ct) ⟨us,[]⟩=pure (ps.zip us)):Binds K fd ps []:=by
 obtain⟨oc,od,kV,doc,pm,an,cdv,ct,osl,rfl,lk,hcd⟩:=F.ex
 exact .all (h kV doc pm an cdv ct)
theorem aj6{x qual:Str}{st:Stmt}{f:Addr}{oc:Value}{od an:Option Addr}{osl:Array (Option Value)}{kV doc pm cdv ct:Value}(l:K.lookup f=some ⟨oc,od,.func (PySem.W.fnOf x qual (jM st) (dO st) (aO st) .none kV doc pm an cdv ct),osl⟩)
 (c:PySem.W.codeIn K cdv qual=true)(k:PySem.W.keepIn K (.ref f)=true):Fun K x qual st f (PySem.W.fnOf x qual (jM st) (dO st) (aO st) .none kV doc pm an cdv ct):=⟨⟨oc,od,kV,doc,pm,an,cdv,ct,osl,rfl,l,c⟩,k⟩
end
section
variable {X : Cx}
theorem pv(i:Nat)(hN:X.N[i]?=some x:=by rfl)(hv:Vis X.env.scope x:=by first|exact Or.inl rfl|exact Or.inr (Or.inl rfl)|exact Or.inr (Or.inr rfl))(hd:(x==("__debug__":Str))=false:=by decide)
 (hcd:(x==("__classdict__":Str))=false:=by decide):PE X (.Name x pos) (af2 i):=ec2 hN hv hd hcd
end
def Same(H H':Hp):Prop:=∀b o,H b=some o->H' b=some o
theorem Same.refl(H:Hp):Same H H:=λ_ _ h=>h
theorem Same.trans(a:Same H H1)(b:Same H1 H2):Same H H2:=λc o h=>b c o (a c o h)
theorem Same.free(e:Same H H')(h:H' l=Option.none):H l=Option.none:=by
 cases q:H l with
 |none=>rfl
 |some o=>
  rw[e l o q]at h
  cases h
theorem Same.seq{K:PySem.W.Frag}{H H':Hp}{a:Addr}{xs:List V}(e:Same H H')(h:SqL K H a xs):SqL K H' a xs:=by
 rcases h with(h|⟨o,h⟩)|h
 . exact .inl (.inl (e _ _ h))
 . exact .inl (.inr ⟨o,e _ _ h⟩)
 . exact .inr h
end L2
namespace L2
open PySem PySem.Spec PyProof.Rows
def eu3:R2:=λx y H Q=>∃i j,x=.int i/\y=.int j/\IntMulOk i j/\Q (.int (i*j)) H
section
variable {X : Cx}
theorem op_mulB:OpR X (binaryOp .Mult) eu3:=by
 intro pins s σ H x y v u Q I rx ry h
 obtain⟨i,j,rfl,rfl,hc,q⟩:=h
 obtain⟨t,rfl⟩:=rx
 obtain⟨t',rfl⟩:=ry
 exact mul_int ⟨.int (i*j),H,I.tok _,⟨_,rfl⟩,q⟩ hc
def TyN(K:PySem.W.Frag)(H:Hp)(x:V)(tx:String):Prop:=match x with
 |.int _=>tx="int"
 |.bl _=>tx="bool"
 |.str _=>tx="str"
 |.ref p=>(tx="list"/\∃xs,SqL K H p xs)\/(tx="tuple"/\∃xs,SqT K H p xs)
 |_=>False
inductive gQ:String->String->Bool->Prop where
 |int_int:gQ "int" "int" true
 |int_bool:gQ "int" "bool" false
 |int_str:gQ "int" "str" false
 |int_list:gQ "int" "list" false
 |int_tuple:gQ "int" "tuple" false
 |bool_int:gQ "bool" "int" true
 |bool_bool:gQ "bool" "bool" true
 |bool_str:gQ "bool" "str" false
 |bool_list:gQ "bool" "list" false
 |bool_tuple:gQ "bool" "tuple" false
 |str_int:gQ "str" "int" false
 |str_bool:gQ "str" "bool" false
 |str_str:gQ "str" "str" true
 |str_list:gQ "str" "list" false
 |str_tuple:gQ "str" "tuple" false
 |list_int:gQ "list" "int" false
 |list_bool:gQ "list" "bool" false
 |list_str:gQ "list" "str" false
 |list_list:gQ "list" "list" true
 |list_tuple:gQ "list" "tuple" false
 |tuple_int:gQ "tuple" "int" false
 |tuple_bool:gQ "tuple" "bool" false
 |tuple_str:gQ "tuple" "str" false
 |tuple_list:gQ "tuple" "list" false
 |tuple_tuple:gQ "tuple" "tuple" true
theorem de4:CallR X (.builtin "isinstance") (λxs H Q=>∃x T tx b,xs=[x,.ty T]/\TyN X.K H x tx/\gQ tx T b/\Q (.bl b) H):=by
 intro pins s σ H xs us Q I r h
 obtain⟨x,T,tx,b,rfl,ht,ho,q⟩:=h
 obtain⟨u,v,rfl,rx,rT⟩:=r.two
 obtain rfl:v=Value.type T:=rT
 have fin1:EP X pins σ Q (.bool b) s:=⟨.bl b,H,I,rfl,q⟩
 have fin2:EP X pins σ Q (.bool b) {s with toks:=s.toks+1}:=⟨.bl b,H,I.tok _,rfl,q⟩
 cases x with
 |int i=>
  obtain⟨t,rfl⟩:=rx
  have ht:tx="int":=ht
  cases ho with
  |int_int=>exact IsiPair.int_int fin1
  |int_bool=>exact IsiPair.int_bool fin2
  |int_str=>exact IsiPair.int_str fin2
  |int_list=>exact IsiPair.int_list fin2
  |int_tuple=>exact IsiPair.int_tuple fin2
  |bool_int=>exact absurd ht (by decide+kernel)
  |bool_bool=>exact absurd ht (by decide+kernel)
  |bool_str=>exact absurd ht (by decide+kernel)
  |bool_list=>exact absurd ht (by decide+kernel)
  |bool_tuple=>exact absurd ht (by decide+kernel)
  |str_int=>exact absurd ht (by decide+kernel)
  |str_bool=>exact absurd ht (by decide+kernel)
  |str_str=>exact absurd ht (by decide+kernel)
  |str_list=>exact absurd ht (by decide+kernel)
  |str_tuple=>exact absurd ht (by decide+kernel)
  |list_int=>exact absurd ht (by decide+kernel)
  |list_bool=>exact absurd ht (by decide+kernel)
  |list_str=>exact absurd ht (by decide+kernel)
  |list_list=>exact absurd ht (by decide+kernel)
  |list_tuple=>exact absurd ht (by decide+kernel)
  |tuple_int=>exact absurd ht (by decide+kernel)
  |tuple_bool=>exact absurd ht (by decide+kernel)
  |tuple_str=>exact absurd ht (by decide+kernel)
  |tuple_list=>exact absurd ht (by decide+kernel)
  |tuple_tuple=>exact absurd ht (by decide+kernel)
 |bl i=>
  cases rx
  have ht:tx="bool":=ht
  cases ho with
  |int_int=>exact absurd ht (by decide+kernel)
  |int_bool=>exact absurd ht (by decide+kernel)
  |int_str=>exact absurd ht (by decide+kernel)
  |int_list=>exact absurd ht (by decide+kernel)
  |int_tuple=>exact absurd ht (by decide+kernel)
  |bool_int=>exact IsiPair.bool_int fin1
  |bool_bool=>exact IsiPair.bool_bool fin1
  |bool_str=>exact IsiPair.bool_str fin2
  |bool_list=>exact IsiPair.bool_list fin2
  |bool_tuple=>exact IsiPair.bool_tuple fin2
  |str_int=>exact absurd ht (by decide+kernel)
  |str_bool=>exact absurd ht (by decide+kernel)
  |str_str=>exact absurd ht (by decide+kernel)
  |str_list=>exact absurd ht (by decide+kernel)
  |str_tuple=>exact absurd ht (by decide+kernel)
  |list_int=>exact absurd ht (by decide+kernel)
  |list_bool=>exact absurd ht (by decide+kernel)
  |list_str=>exact absurd ht (by decide+kernel)
  |list_list=>exact absurd ht (by decide+kernel)
  |list_tuple=>exact absurd ht (by decide+kernel)
  |tuple_int=>exact absurd ht (by decide+kernel)
  |tuple_bool=>exact absurd ht (by decide+kernel)
  |tuple_str=>exact absurd ht (by decide+kernel)
  |tuple_list=>exact absurd ht (by decide+kernel)
  |tuple_tuple=>exact absurd ht (by decide+kernel)
 |str i=>
  obtain⟨t,rfl⟩:=rx
  have ht:tx="str":=ht
  cases ho with
  |int_int=>exact absurd ht (by decide+kernel)
  |int_bool=>exact absurd ht (by decide+kernel)
  |int_str=>exact absurd ht (by decide+kernel)
  |int_list=>exact absurd ht (by decide+kernel)
  |int_tuple=>exact absurd ht (by decide+kernel)
  |bool_int=>exact absurd ht (by decide+kernel)
  |bool_bool=>exact absurd ht (by decide+kernel)
  |bool_str=>exact absurd ht (by decide+kernel)
  |bool_list=>exact absurd ht (by decide+kernel)
  |bool_tuple=>exact absurd ht (by decide+kernel)
  |str_int=>exact IsiPair.str_int fin2
  |str_bool=>exact IsiPair.str_bool fin2
  |str_str=>exact IsiPair.str_str fin1
  |str_list=>exact IsiPair.str_list fin2
  |str_tuple=>exact IsiPair.str_tuple fin2
  |list_int=>exact absurd ht (by decide+kernel)
  |list_bool=>exact absurd ht (by decide+kernel)
  |list_str=>exact absurd ht (by decide+kernel)
  |list_list=>exact absurd ht (by decide+kernel)
  |list_tuple=>exact absurd ht (by decide+kernel)
  |tuple_int=>exact absurd ht (by decide+kernel)
  |tuple_bool=>exact absurd ht (by decide+kernel)
  |tuple_str=>exact absurd ht (by decide+kernel)
  |tuple_list=>exact absurd ht (by decide+kernel)
  |tuple_tuple=>exact absurd ht (by decide+kernel)
 |ref p=>
  cases rx
  have ht:(tx="list"/\∃xs,SqL X.K H p xs)\/(tx="tuple"/\∃xs,SqT X.K H p xs):=ht
  rcases ht with⟨ht,ys,hq⟩|⟨ht,ys,hq⟩
  . obtain⟨its,rv,⟨o,n,e,c,d,dt⟩,hz⟩:=I.list hq
    cases ho with
    |int_int=>exact absurd ht (by decide+kernel)
    |int_bool=>exact absurd ht (by decide+kernel)
    |int_str=>exact absurd ht (by decide+kernel)
    |int_list=>exact absurd ht (by decide+kernel)
    |int_tuple=>exact absurd ht (by decide+kernel)
    |bool_int=>exact absurd ht (by decide+kernel)
    |bool_bool=>exact absurd ht (by decide+kernel)
    |bool_str=>exact absurd ht (by decide+kernel)
    |bool_list=>exact absurd ht (by decide+kernel)
    |bool_tuple=>exact absurd ht (by decide+kernel)
    |str_int=>exact absurd ht (by decide+kernel)
    |str_bool=>exact absurd ht (by decide+kernel)
    |str_str=>exact absurd ht (by decide+kernel)
    |str_list=>exact absurd ht (by decide+kernel)
    |str_tuple=>exact absurd ht (by decide+kernel)
    |list_int=>exact IsiPair.list_int e c fin2
    |list_bool=>exact IsiPair.list_bool e c fin2
    |list_str=>exact IsiPair.list_str e c fin2
    |list_list=>exact IsiPair.list_list e c fin1
    |list_tuple=>exact IsiPair.list_tuple e c fin2
    |tuple_int=>exact absurd ht (by decide+kernel)
    |tuple_bool=>exact absurd ht (by decide+kernel)
    |tuple_str=>exact absurd ht (by decide+kernel)
    |tuple_list=>exact absurd ht (by decide+kernel)
    |tuple_tuple=>exact absurd ht (by decide+kernel)
  . obtain⟨its,rv,⟨o,e,c,n,d⟩,hz⟩:=I.tuple hq
    cases ho with
    |int_int=>exact absurd ht (by decide+kernel)
    |int_bool=>exact absurd ht (by decide+kernel)
    |int_str=>exact absurd ht (by decide+kernel)
    |int_list=>exact absurd ht (by decide+kernel)
    |int_tuple=>exact absurd ht (by decide+kernel)
    |bool_int=>exact absurd ht (by decide+kernel)
    |bool_bool=>exact absurd ht (by decide+kernel)
    |bool_str=>exact absurd ht (by decide+kernel)
    |bool_list=>exact absurd ht (by decide+kernel)
    |bool_tuple=>exact absurd ht (by decide+kernel)
    |str_int=>exact absurd ht (by decide+kernel)
    |str_bool=>exact absurd ht (by decide+kernel)
    |str_str=>exact absurd ht (by decide+kernel)
    |str_list=>exact absurd ht (by decide+kernel)
    |str_tuple=>exact absurd ht (by decide+kernel)
    |list_int=>exact absurd ht (by decide+kernel)
    |list_bool=>exact absurd ht (by decide+kernel)
    |list_str=>exact absurd ht (by decide+kernel)
    |list_list=>exact absurd ht (by decide+kernel)
    |list_tuple=>exact absurd ht (by decide+kernel)
    |tuple_int=>exact IsiPair.tuple_int e c fin2
    |tuple_bool=>exact IsiPair.tuple_bool e c fin2
    |tuple_str=>exact IsiPair.tuple_str e c fin2
    |tuple_list=>exact IsiPair.tuple_list e c fin2
    |tuple_tuple=>exact IsiPair.tuple_tuple e c fin1
 |_=>exact(show False from ht).elim
theorem xJ:∀{bs:List Bool}{us:List Value}{i:Nat}{u:Value},Vals (bs.map V.bl) us->us[i]?=some u->∃b,bs[i]?=some b/\u=.bool b
 |[],_,_,_,.nil,e=>by simp at e
 |b::bs,_,0,_,.cons r _,e=>by
  simp at e
  subst e
  exact⟨b,rfl,r⟩
 |b::bs,_,i+1,_,.cons _ t,e=>by
  obtain⟨c,h1,h2⟩:=xJ (i:=i) t (by simpa using e)
  exact⟨c,by simpa using h1,h2⟩
theorem ci7(bs:List Bool):((List.range bs.length).all λi=>(bs[i]?).getD true)=bs.all id:=by
 rw[Bool.eq_iff_iff,List.all_eq_true,List.all_eq_true]
 constructor
 . intro h b hb
   obtain⟨i,hi,e⟩:=List.mem_iff_getElem.mp hb
   have q:=h i (List.mem_range.mpr hi)
   rw[List.getElem?_eq_getElem hi,e]at q
   exact q
 . intro h i hi
   have hi':=List.mem_range.mp hi
   rw[List.getElem?_eq_getElem hi']
   exact h _ (List.getElem_mem hi')
theorem cg9(bs:List Bool):((List.range bs.length).any λi=>(bs[i]?).getD true)=bs.any id:=by
 rw[Bool.eq_iff_iff,List.any_eq_true,List.any_eq_true]
 constructor
 . rintro⟨i,hi,q⟩
   have hi':=List.mem_range.mp hi
   rw[List.getElem?_eq_getElem hi']at q
   exact⟨_,List.getElem_mem hi',q⟩
 . rintro⟨b,hb,q⟩
   obtain⟨i,hi,e⟩:=List.mem_iff_getElem.mp hb
   refine⟨i,List.mem_range.mpr hi,?_⟩
   rw[List.getElem?_eq_getElem hi,e]
   exact q
theorem an1{s:Shared}{h':Heap}{o:Obj}(hk:∀b x,b∉[s.heap.objs.size]->(s.heap.push o).get? b=some x->h'.get? b=some x):∀b x,s.heap.get? b=some x->h'.get? b=some x:=
 λb x e=>hk b x (λhm=>by rw[List.mem_singleton.mp hm]at e;exact Nat.lt_irrefl _ (Heap.lt_size e)) (Heap.get?_push_of_some _ e)
theorem dm4(hc:X.calm=true):CallR X (.builtin "all") (λxs H Q=>∃(p:Addr)(bs:List Bool),xs=[.ref p]/\SqL X.K H p (bs.map V.bl)/\Q (.bl (bs.all id)) H):=by
 intro pins s σ H xs us Q I r h
 obtain⟨p,bs,rfl,hq,q⟩:=h
 obtain⟨u,rfl,r1⟩:=r.one
 obtain rfl:u=Value.ref p:=r1
 obtain⟨its,rv,pl,hz⟩:=I.list hq
 have hl:=pl.isList
 have hlen:bs.length=its.length:=by have:=rv.length;rwa[List.length_map]at this
 have hlt:p<s.heap.objs.size:=by obtain⟨_,_,e,_⟩:=pl;exact Heap.lt_size e
 refine call_all_walk (wpAny_pyIter_list hl ?_)
 refine⟨s.heap.objs.size,[s.heap.objs.size,p],[s.heap.objs.size],its.toArray.size,_,_,λi=>(bs[i]?).getD true,rfl,Walks.list (A:=X.A.in1) (I.ok.hd hc) _ p (Nat.ne_of_lt hlt) its.toArray,
  ⟨⟨_,Heap.get?_push_size _ rfl,rfl,rfl⟩,hl.push _⟩,λi v s' Q' E' hP hQ=>?_,λh' tk hk=>?_⟩
 . obtain⟨b,e,rfl⟩:=xJ rv (i:=i) (u:=v) (by simpa using hP)
   simp only[e,Option.getD_some]at hQ
   exact wpAny_truthy_bool hQ
 . have e:((List.range its.toArray.size).all λi=>(bs[i]?).getD true)=bs.all id:=by
    rw[List.size_toArray,<-hlen]
    exact ci7 bs
   rw[e]
   exact⟨.bl _,H,I.kept (an1 hk),rfl,q⟩
theorem dw1(hc:X.calm=true):CallR X (.builtin "any") (λxs H Q=>∃(p:Addr)(bs:List Bool),xs=[.ref p]/\SqL X.K H p (bs.map V.bl)/\Q (.bl (bs.any id)) H):=by
 intro pins s σ H xs us Q I r h
 obtain⟨p,bs,rfl,hq,q⟩:=h
 obtain⟨u,rfl,r1⟩:=r.one
 obtain rfl:u=Value.ref p:=r1
 obtain⟨its,rv,pl,hz⟩:=I.list hq
 have hl:=pl.isList
 have hlen:bs.length=its.length:=by have:=rv.length;rwa[List.length_map]at this
 have hlt:p<s.heap.objs.size:=by obtain⟨_,_,e,_⟩:=pl;exact Heap.lt_size e
 refine call_any_walk (wpAny_pyIter_list hl ?_)
 refine⟨s.heap.objs.size,[s.heap.objs.size,p],[s.heap.objs.size],its.toArray.size,_,_,λi=>(bs[i]?).getD true,rfl,Walks.list (A:=X.A.in1) (I.ok.hd hc) _ p (Nat.ne_of_lt hlt) its.toArray,
  ⟨⟨_,Heap.get?_push_size _ rfl,rfl,rfl⟩,hl.push _⟩,λi v s' Q' E' hP hQ=>?_,λh' tk hk=>?_⟩
 . obtain⟨b,e,rfl⟩:=xJ rv (i:=i) (u:=v) (by simpa using hP)
   simp only[e,Option.getD_some]at hQ
   exact wpAny_truthy_bool hQ
 . have e:((List.range its.toArray.size).any λi=>(bs[i]?).getD true)=bs.any id:=by
    rw[List.size_toArray,<-hlen]
    exact cg9 bs
   rw[e]
   exact⟨.bl _,H,I.kept (an1 hk),rfl,q⟩
end
structure dQ (P:Program) (w:World) (K:PySem.W.Frag) (mg:Str->Option Value) (base:Heap) (k:Nat) (x:Str) (ps:List Str) (sp:Sp):Prop where
 ex:∃f fd,FnOk P w K mg base kA k f fd ps sp/\mg x=some (.ref f)/\PySem.W.keepIn K (.ref f)=true/\Binds K fd ps []
def cz4(sp:Sp)(t:TA):TE:=λσ H Q=>t σ H λvs H1=>sp vs H1 Q E0
section
variable {X : Cx}
theorem ei3(d:dQ X.prog X.w X.K X.mg X.base k x ps sp)(hr:Room k X.A)(ha:PA X (e::es) t)(hg:Gl X x:=by rfl)
 (hdb:(x==("__debug__":Str))=false:=by decide)(he:starEach (e::es) X.env=(false,eval e X.env)::starEach es X.env:=by rfl)(hpl:(backTo pos (starEach es X.env)).any (·.1)=false:=by rfl):
 PE X (.Call (.Name x p) (e::es) [] pos) (cz4 sp t):=by
 obtain⟨f,fd,F,hm,hk,hb⟩:=d.ex
 intro pins s σ H Q I h
 have e1:(λvs H1=>sp (vs++[]) H1 Q E0)=λvs H1=>sp vs H1 Q E0:=by
  funext vs H1
  rw[List.append_nil]
 refine de8 F hr hg hm hk hb .nil au6 ha hdb he hpl s σ H Q I ?_
 show t σ H λvs H1=>sp (vs++[]) H1 Q E0
 rw[e1]
 exact h
end
end L2
namespace Att
open PySem PySem.W PySem.Calls PyProof.Rows
theorem weight_mem:∀(ns:List Int)(n:Int),n∈ns->WData.weight (.int n)<=WData.weightAll (ns.map WData.int)
 |m::ns,n,h=>by
  rw[List.map_cons]
  simp only[WData.weightAll]
  rcases List.mem_cons.mp h with rfl|h
  . omega
  . have:=weight_mem ns n h
    omega
theorem bits_of{ns:List Int}(h:WData.layableAll [.list (ns.map WData.int)]=true):∀n∈ns,Builtin.Int.intBits n<=1048576:=by
 intro n hn
 have h1:WData.layable (.list (ns.map WData.int))=true:=by
  have h2:([WData.list (ns.map WData.int)].all WData.layable)=true:=h
  rw[List.all_cons,Bool.and_eq_true]at h2
  exact h2.1
 unfold WData.layable at h1
 rw[Bool.and_eq_true]at h1
 have h3:=of_decide_eq_true h1.2
 have h4:=weight_mem ns n hn
 have h5:WData.weight (.int n)=Builtin.Int.intBits n:=by
  unfold WData.weight Builtin.Int.intBits
  rfl
 have h6:WData.weight (.list (ns.map WData.int))=WData.weightAll (ns.map WData.int):=by
  conv=>lhs;unfold WData.weight
 rw[h6]at h3
 rw[h5]at h4
 have h7:(2:Nat)^20=1048576:=by decide
 omega
theorem attach_callB{l:OpenLaw}{n:Nat}{q:Program}{loose:List Str}{XP:(Str->Option Value)->Heap->Prop}{YP:World->Heap->Prop}{d:DefRec}
 (hn:l.most=some n)(hdf:d.params.defaults=[])
 (call:∀(w:World)(s₀ s₁:Shared)(mg mb:Str->Option Value)(fa:Addr)(o:Obj)(pm cd doc:Value)(a:Addr)(vs:List Value)(ns:List Int),
  Ground q loose [] XP w s₀ mg mb s₁.heap->YP w s₁.heap->
  s₁.heap.get? fa=some o->o.data=.func (docDef d.name d.params d.body d.scope pm cd doc)->s₁.heap.CodeRec cd d.name->mg d.name=some (.ref fa)->
  s₁.heap.get? a=some {cls:=.type "list",data:=.seq vs.toArray}->IntsAre vs ns->ns.length<=n->s₁.gens=#[]->(∀n∈ns,Builtin.Int.intBits n<=1048576)->
  codeAny (model l.prog w) callerA (.call (.ref fa) ⟨[.ref a],[]⟩) (λr s'=>r=.ok (.ret (.bool true))/\OldK s₁.heap s'.heap/\s'.os=s₁.os/\AllBare s'.gens) s₁):
 WalkO q loose XP YP l.row.toRowW d [] (λf vs=>PySem.call f vs):=by
 intro w s₀ s₁ mg mb G Y fa o pm cd doc dV kV ho hd hcd hD hmg hg args vals as hpre hlay hrd hwl hlo
 obtain rfl:dV=.none:=Dflts.none hD hdf
 obtain rfl:kV=.none:=Dflts.noKw hD
 obtain⟨a,vs,ns,rfl,rfl,hobj,hints,hlen⟩:=script_of hn hpre hwl
 refine enter_call (codeAny_mono (call w s₀ s₁ mg mb fa o pm cd doc a vs ns G Y ho (fd_plain hd) hcd hmg hobj hints hlen hg (bits_of hlay)) λr s' hq=>?_)
 obtain⟨rfl,h2,h3,h4⟩:=hq
 exact⟨.inl ⟨.bool true,.bool true,[],rfl,λ_=>rfl,.bool true,post_true l _,λ_=>⟨List.Pairwise.nil,λ_ hm=>(nomatch hm)⟩⟩,h2,h3,h4⟩
end Att
namespace L2
open PySem PySem.Spec PyProof.Rows
def SqS(K:PySem.W.Frag)(H:Hp)(a:Addr)(xs:List V):Prop:=
 Rd H a (.lst xs)\/
  ∃(o:Obj)(its:Array Value)(n:Nat),K.lookup a=some o/\o.cls=.type "list"/\o.dict=none/\o.slots=#[]/\o.data=.seq its n/\its.size<=sizeLine/\Vals xs its.toList
theorem SqS.sq{K:PySem.W.Frag}{H:Hp}{a:Addr}{xs:List V}(h:SqS K H a xs):SqL K H a xs:=by
 rcases h with h|⟨o,its,n,h1,h2,h3,_,h5,h6,h7⟩
 . exact .inl h
 . exact .inr ⟨o,its,n,h1,h2,h3,h5,h6,h7⟩
theorem Inv.listS(I:Inv X pins σ H s)(h:SqS X.K H a xs):∃(its:List Value)(n:Nat),Vals xs its/\s.heap.get? a=some {cls:=.type "list",data:=.seq its.toArray n}/\xs.length<=sizeLine:=by
 rcases h with h|⟨o,its,n,hk,hc,hd,hsl,hs,hz,r⟩
 . obtain⟨z,its,n,r,e⟩:=h.ok I.hok
   exact⟨its,n,r,e,z⟩
 . have e:=I.kIn a o hk
   obtain⟨cls,dict,data,slots⟩:=o
   simp only at hc hd hsl hs
   subst hc hd hsl hs
   refine⟨its.toList,n,r,by simpa using e,?_⟩
   have:=r.length
   simp only[Array.length_toList]at this
   omega
def bp4(K:PySem.W.Frag):Sp:=λvs H Q _=>∃(a:Addr)(ns:List Int),vs=[.ref a]/\SqS K H a (ns.map V.int)/\ns.length<=63/\(∀n∈ns,Builtin.Int.intBits n<=1048576)/\∀H',Q (.bl true) H'
theorem dl1{l:PySem.W.OpenLaw}{k:Nat}{q:Program}{loose:List Str}{XP:(Str->Option Value)->Heap->Prop}{YP:World->Heap->Prop}{d:DefRec}{K:Params->PySem.W.Frag}{x:Str}
 (hn:l.most=some 63)(hdf:d.params.defaults=[])(hr:Room k callerA)
 (hY:∀(w:World)(h:Heap),YP w h->(K w.params).In h)
 (F:∀(w:World)(mg:Str->Option Value)(fa:Addr)(h:Heap),(K w.params).In h->h.Ns mainGlobals mg->mg d.name=some (.ref fa)->
  ∃fd:FuncData,(∀(s:Shared)(u:Value),BindsTo s fd ⟨[u],[]⟩ [(x,u)])/\
   ∀base:Heap,(K w.params).In base->base.Ns mainGlobals mg->FnOk l.prog w (K w.params) mg base kA k fa fd [x] (bp4 (K w.params))):
 PySem.W.WalkO q loose XP YP l.row.toRowW d [] (λf vs=>PySem.call f vs):=by
 refine Att.attach_callB hn hdf λw s₀ s₁ mg mb fa o pm cd doc a vs ns G Y ho hd hcd hmg hobj hints hlen hg hbits=>?_
 have KX:=hY w _ Y
 obtain⟨fd,hb,hF⟩:=F w mg fa _ KX G.T.g hmg
 have hS':∀{H:Hp},SqL (K w.params) H a (ns.map V.int)->SqS (K w.params) H a (ns.map V.int):=λ{H} h=>by
  rcases h with h|⟨o,its,n,h1,h2,h3,h5,h6,h7⟩
  . exact .inl h
  . have e:=KX a o h1
    rw[hobj]at e
    cases e
    exact .inr ⟨_,its,n,h1,h2,h3,rfl,h5,h6,h7⟩
 exact dr2 KX G.T.g G.T.b G.T.builtins G.T.nolimit hg hobj hints (Nat.le_trans hlen (by decide)) hr hF hb (λH hO hS=>⟨a,ns,rfl,hS' hS,hlen,hbits,λ_=>rfl⟩) λH e s' h=>h
end L2
namespace L2
open PySem PySem.Spec PyProof.Rows
abbrev nJ(X:Cx)(scope:Scope)(cl:List (Str×Addr))(C:Addr)(s₀:Shared)(H₀:Hp)(ex:List Addr):Cx:=
 {X with s₀:=s₀,H₀:=H₀,env:=compEnvC scope cl C X.env,outer:=X.stack,ex:=ex,fn:=λ_=>false,pn:=[],xe:=λ_ _=>False}
def gI (cells : List (Str × Addr)) : List (Str × NameKind) → List (Str × Addr) → List (Str × Addr)
  | [], acc => acc
  | (n, k) :: r, acc => if (k == .free) = true then gI cells r ((n, (cells.lookup n).getD 0) :: acc) else gI cells r acc
theorem zF : ∀ (names : List (Str × NameKind)) (acc : List (Str × Addr)), (∀ x ∈ names, x.2 = .free → ∃ c, env.cells.lookup x.1 = some c) →
    (forIn names acc fun (x : Str × NameKind) (cs : List (Str × Addr)) => (if (x.2 == .free) = true then (do let c ← cellOf env x.1; pure (ForInStep.yield ((x.1, c) :: cs))) else pure (ForInStep.yield cs) : Sem (ForInStep (List (Str × Addr))))) = (pure (gI env.cells names acc) : Sem (List (Str × Addr)))
  | [], acc, _ => rfl
  | (n, k) :: r, acc, h => by
    rw [List.forIn_cons]
    have hr : ∀ x ∈ r, x.2 = .free → ∃ c, env.cells.lookup x.1 = some c := fun x hx => h x (List.mem_cons_of_mem _ hx)
    by_cases hk : (k == NameKind.free) = true
    · obtain ⟨c, hc⟩ := h (n, k) List.mem_cons_self (by simpa using hk)
      have e1 : cellOf env n = pure c := by unfold cellOf; rw [hc]
      simp only [hk, if_true, e1, pure_bind]
      have e2 : gI env.cells ((n, k) :: r) acc = gI env.cells r ((n, c) :: acc) := by
        conv => lhs; unfold gI
        rw [if_pos hk, hc]
        all_goals rfl
      rw [e2]
      exact zF r _ hr
    · simp only [hk, if_false, pure_bind]
      have e2 : gI env.cells ((n, k) :: r) acc = gI env.cells r acc := by
        conv => lhs; unfold gI
        rw [if_neg hk]
      rw [e2]
      exact zF r _ hr
theorem zZ (h : ∀ x ∈ scope.names, x.2 = .free → ∃ c, env.cells.lookup x.1 = some c) : closureFor scope env = pure (gI env.cells scope.names []) := by
  have q := zF (env := env) scope.names [] h
  unfold closureFor
  have e : (forIn scope.names ([] : List (Str × Addr)) fun (x : Str × NameKind) (r : List (Str × Addr)) =>
      (match x with
      | (name, kind) => if (kind == NameKind.free) = true then (do let c ← cellOf env name; pure (ForInStep.yield ((name, c) :: r))) else pure (ForInStep.yield r) : Sem (ForInStep (List (Str × Addr))))) = pure (gI env.cells scope.names []) := q
  first
    | (show (do let r ← (forIn scope.names ([] : List (Str × Addr)) _); pure r) = _; erw [e]; rfl)
    | (simp only [bind_pure]; exact e)
    | exact e
theorem vS : ∀ (names : List (Str × NameKind)) (acc : List (Str × Addr)), (∀ x ∈ names, x.2 = .free → ∃ c, cells.lookup x.1 = some c) → (∀ y c, acc.lookup y = some c → cells.lookup y = some c) →
    ∀ y c, (gI cells names acc).lookup y = some c → cells.lookup y = some c
  | [], _, _, ha => ha
  | (n, k) :: r, acc, h, ha => by
    have hr : ∀ x ∈ r, x.2 = .free → ∃ c, cells.lookup x.1 = some c := fun x hx => h x (List.mem_cons_of_mem _ hx)
    unfold gI
    by_cases hk : (k == NameKind.free) = true
    · rw [if_pos hk]
      obtain ⟨c, hc⟩ := h (n, k) List.mem_cons_self (by simpa using hk)
      refine vS r _ hr fun y d e => ?_
      rw [List.lookup_cons] at e
      cases q : y == n with
      | true =>
        rw [q] at e
        have e' : (cells.lookup n).getD 0 = d := Option.some.inj e
        have yn : y = n := by simpa using q
        subst yn
        have hc' : cells.lookup y = some c := hc
        rw [hc'] at e' ⊢
        exact congrArg some e'
      | false =>
        rw [q] at e
        exact ha y d e
    · rw [if_neg hk]
      exact vS r acc hr ha
theorem vO : ∀ (names : List (Str × NameKind)) (acc : List (Str × Addr)) (y : Str), (∃ c, acc.lookup y = some c) → ∃ c, (gI cells names acc).lookup y = some c
  | [], _, _, h => h
  | (n, k) :: r, acc, y, h => by
    unfold gI
    split
    · refine vO r _ y ?_
      rw [List.lookup_cons]
      cases q : y == n with
      | true => exact ⟨_, rfl⟩
      | false => exact h
    · exact vO r acc y h
theorem uH : ∀ (names : List (Str × NameKind)) (acc : List (Str × Addr)) (y : Str), (y, NameKind.free) ∈ names → ∃ c, (gI cells names acc).lookup y = some c
  | (n, k) :: r, acc, y, h => by
    unfold gI
    rcases List.mem_cons.mp h with e | h
    · have e1 : y = n := congrArg Prod.fst e
      have e2 : NameKind.free = k := congrArg Prod.snd e
      subst e1
      subst e2
      rw [if_pos (by rfl)]
      refine vO r _ y ?_
      rw [List.lookup_cons, beq_self_eq_true]
      exact ⟨_, rfl⟩
    · split
      · exact uH r _ y h
      · exact uH r _ y h
theorem yB {env : Env} {x : Str} : ∀ (names : List (Str × NameKind)),
    (names.map fun (n, k) => if (k == NameKind.free && env.scope.kind == .function && env.kindOf n == some .cell) then (n, NameKind.cell) else (n, k)).lookup x
      = (names.lookup x).map fun k => if (k == NameKind.free && env.scope.kind == .function && env.kindOf x == some .cell) = true then NameKind.cell else k
  | [] => rfl
  | (n, k) :: r => by
    have ih := yB (env := env) (x := x) r
    show List.lookup x ((if (k == NameKind.free && env.scope.kind == .function && env.kindOf n == some .cell) = true then (n, NameKind.cell) else (n, k)) :: _) = _
    rw [List.lookup_cons (a := x) (as := r)]
    cases hx : x == n with
    | true =>
      have e : x = n := by simpa using hx
      subst e
      by_cases hc : (k == NameKind.free && env.scope.kind == .function && env.kindOf x == some .cell) = true
      · rw [if_pos hc, List.lookup_cons, beq_self_eq_true]
        show some NameKind.cell = some (if _ then _ else _)
        rw [if_pos hc]
      · rw [if_neg hc, List.lookup_cons, beq_self_eq_true]
        show some k = some (if _ then _ else _)
        rw [if_neg hc]
    | false =>
      by_cases hc : (k == NameKind.free && env.scope.kind == .function && env.kindOf n == some .cell) = true
      · rw [if_pos hc, List.lookup_cons, hx]; exact ih
      · rw [if_neg hc, List.lookup_cons, hx]; exact ih
theorem an4 : ∀ {names : List (Str × NameKind)}, names.lookup x = some k → (x, k) ∈ names
  | (n, k') :: r, h => by
    rw [List.lookup_cons] at h
    cases hx : x == n with
    | true =>
      rw [hx] at h
      have e : x = n := by simpa using hx
      subst e
      cases h
      exact List.mem_cons_self
    | false =>
      rw [hx] at h
      exact List.mem_cons_of_mem _ (an4 h)
structure CScope (X : Cx) (ks : List Nat) (scope : Scope) : Prop where
  kind : scope.kind = .function
  cell : ∀ y ∈ scope.names, y.2 ≠ .cell
  names : ∀ y ∈ scope.names, y.2 = .local → scope.names.lookup y.1 = some .local
  freeB : (scope.names.all fun y => !(y.2 == NameKind.free) || (X.env.kindOf y.1 == some NameKind.cell || X.env.kindOf y.1 == some NameKind.free)) = true
  slotsB : (X.N.zipIdx.all fun p => !(scope.names.lookup p.1 == some NameKind.local) || ks.contains p.2) = true
theorem CScope.free(S:CScope X ks scope):∀y∈scope.names,y.2=.free->X.env.kindOf y.1=some .cell\/X.env.kindOf y.1=some .free:=λy hy hk=>by
 have h:=List.all_eq_true.mp S.freeB y hy
 rw[hk]at h
 simpa using h
theorem CScope.slots(S:CScope X ks scope):∀p∈X.N.zipIdx,scope.names.lookup p.1=some .local->p.2∈ks:=λp hp hk=>by
 have h:=List.all_eq_true.mp S.slotsB p hp
 rw[hk]at h
 simpa using h
def clr:List Nat->St->St
 |[],σ=>σ
 |k::ks,σ=>clr ks (σ.set k none)
theorem qU:∀(ks:List Nat)(σ:St),(clr ks σ).length=σ.length
 |[],_=>rfl
 |k::ks,σ=>by
  show(clr ks (σ.set k none)).length=_
  rw[qU ks,List.length_set]
theorem az9:∀(ks:List Nat)(σ:St){i:Nat}{v:V},(clr ks σ)[i]?=some (some v)->σ[i]?=some (some v)/\i∉ks
 |[],_,_,_,h=>⟨h,List.not_mem_nil⟩
 |k::ks,σ,i,v,h=>by
  obtain⟨h1,h2⟩:=az9 ks (σ.set k none) h
  by_cases e:i=k
  . subst e
    rw[List.getElem?_set_self']at h1
    cases q:σ[i]? with
    |none=>rw[q]at h1;cases h1
    |some o=>rw[q]at h1;cases h1
  . rw[List.getElem?_set_ne (Ne.symm e)]at h1
    exact⟨h1,λz=>(List.mem_cons.mp z).elim e h2⟩
def PIf(Y:Cx)(ifs:List Expr)(t:TT):Prop:=
 ∀⦃pins:List (Addr×Obj)⦄ (s:Shared)(σ:St)(H:Hp)(Q:Bool->Hp->Prop),Inv Y pins σ H s->t σ H Q->
  wpAny (model Y.prog Y.w) Y.A (forIn ifs true λc r=>if r=true then do let ok<-isTrue c Y.env (eval c Y.env);pure (ForInStep.yield ok)else pure (ForInStep.yield r)) (TP Y pins σ Q) Y.xe s
def ec0:TT:=λ_ H Q=>Q true H
theorem dH:PIf Y [] ec0:=λ_ _ _ H _ I h=>wpAny_tests_nil ⟨H,I,h⟩
theorem cp1(h:PT Y c t):PIf Y [c] t:=λpins s σ H Q I q=>wpAny_tests_one (h s σ H Q I q)
theorem cv8(I:Nat->Shared->Prop)
 (turn:∀n s,I n s->wpAny (model prog w) A (pyNext it) (λr s₁=>match r with
  |none=>R (.ok .next) s₁
  |some v=>wpAny (model prog w) A (letOwnedTupleGo target it v) (λ_ s₁'=>wpAny (model prog w) A (assign target env v) (λ_ s₂=>
   wpAny (model prog w) A (forIn ifs true λc r=>if r=true then do let ok<-isTrue c env (eval c env);pure (ForInStep.yield ok)else pure (ForInStep.yield r)) (λok s₃=>
    if ok=true then wpAny (model prog w) A (eval elt env) (λx s₄=>
     wpAny (model prog w) A (call (.builtin "list.append") [acc,x]) (λ_ s₅=>∃m,m<n/\I m s₅) (λ_ _=>False) s₄) (λ_ _=>False) s₃
    else∃m,m<n/\I m s₃) (λ_ _=>False) s₂) (λ_ _=>False) s₁') (λ_ _=>False) s₁) (λ_ _=>False) s)
 (n:Nat)(h:I n s):
 codeAny (model prog w) A (.compLoop (.ListComp elt [⟨target,iter,ifs,0⟩] scope pos) 0 it acc env) R s:=by
 refine codeAny_loop rfl I (λn s hI=>?_) n h
 show wpAny _ A ((compTurn (.ListComp elt [⟨target,iter,ifs,0⟩] scope pos) 0 it acc env).onRaise (λx=>do noteFrame x env;theTreesLotGoes x)) _ _ s
 refine wpAny_noted ?_
 rw[compTurn_list]
 refine wpAny_bind (wpAny_standAt (wpAny_bind (wpAny_mono (turn n s hI) (λr s₁ h₁=>?_) λ_ _ h'=>h'.elim)))
 cases r with
 |none=>exact wpAny_pure h₁
 |some v=>
  refine wpAny_bind (wpAny_mono h₁ (λ_ s₁' h₁'=>?_) λ_ _ h'=>h'.elim)
  refine wpAny_bind (wpAny_mono h₁' (λ_ s₂ h₂=>wpAny_bind (wpAny_mono h₂ (λok s₃ h₃=>?_) λ_ _ h'=>h'.elim)) λ_ _ h'=>h'.elim)
  cases ok with
  |false=>exact wpAny_pure ⟨rfl,h₃⟩
  |true=>
   exact wpAny_bind (wpAny_bind (wpAny_mono h₃ (λx s₄ h₄=>wpAny_bind (wpAny_mono h₄ (λ_ s₅ h₅=>wpAny_pure (wpAny_pure ⟨rfl,h₅⟩)) λ_ _ h'=>h'.elim)) λ_ _ h'=>h'.elim))
theorem Inv.track(I:Inv X pins σ H s)(hn:H D=none)(hl:X.s₀.heap.objs.size<=D)(hL:D≠X.env.locals)
 (hc:∀x c,X.env.cells.lookup x=some c->c≠D)(hp:∀p∈X.pn++pins,p.1≠D)(e:s.heap.get? D=some {cls:=.type "list",data:=.seq its.toArray n})(rv:Vals ys its)(hz:ys.length<=sizeLine):
 Inv X pins σ (upd H D (.lst ys)) s:=by
 have old:∀b o,X.s₀.heap.get? b=some o->b≠D:=λb o q z=>by
  subst z
  exact absurd (Nat.lt_of_lt_of_le (Heap.lt_size q) hl) (Nat.lt_irrefl _)
 have ne:∀b o,H b=some o->b≠D:=λb o q=>iM q hn
 refine⟨I.ok,I.os,I.bare,⟨I.base.keep,I.base.slot,λb o q n' hx=>?_,I.base.there,λb xs q=>?_,λb o u q=>?_,λb ps q=>?_⟩,I.loc,I.cell,?_,λx c q=>?_,λp q=>?_,λb u q=>?_,I.len⟩
 . rw[cR (old b o q)]
   exact I.base.free b o q n' hx
 . have z:=I.base.tups b xs q
   rw[cR (ne _ _ z)]
   exact z
 . have z:=I.base.frzs b o u q
   rw[cR (ne _ _ z)]
   exact z
 . obtain⟨more,z⟩:=I.base.tbls b ps q
   exact⟨more,by rw[cR (ne _ _ z)];exact z⟩
 . rw[cR (Ne.symm hL)]
   exact I.free
 . rw[cR (hc x c q)]
   exact I.freeC x c q
 . obtain⟨h1,h2,h3⟩:=I.pin p q
   exact⟨h1,by rw[cR (hp p q)];exact h2,h3⟩
 . by_cases hb:b=D
   . subst hb
     rw[fG]at q
     cases q
     exact⟨hz,its,n,rv,e⟩
   . rw[cR hb]at q
     exact(I.hok b u q).stay (λc v _ z=>z) (λc z=>by rw[cR (ne _ _ z)];exact z) λc xs z=>by rw[cR (ne _ _ z)];exact z
def Ext(ks:List Nat)(σ σ2:St):Prop:=σ2.length=σ.length/\∀(i:Nat)(v:V),(clr ks σ)[i]?=some (some v)->σ2[i]?=some (some v)
def CGo(ks:List Nat)(g:TG)(tc:TT)(te:TE)(σ:St)(F:Addr->Hp->Prop)(J:It)(H1:Hp):Prop:=
 ∃W:Nat->Nat->List V->Hp->Prop,(∃m,W 0 m [] H1)/\∀i m ys H,W i m ys H->
  (J.stop i H/\∀D,H D=none->F D (upd H D (.lst ys)))\/
  (J.go i H/\ys.length<sizeLine/\∃N:List V->Hp->Prop,(∀ys' H',N ys' H'->∃m',m'<m/\W (i+1) m' ys' H')/\∀x H',J.yld i H x H'->g x (clr ks σ) H' λσ2 H2=>Ext ks σ σ2/\tc σ2 H2 λb H3=>
   if b=true then te σ2 H3 λv H4=>N (ys++[v]) H4 else N ys H3)
def cw2(ks:List Nat)(wi:TI)(g:TG)(tc:TT)(te:TE):TE:=λσ H Q=>wi σ H (CGo ks g tc te σ λD H'=>Q (.ref D) H')
def ax5(k:Nat)(ks:List Nat)(wi:TI)(g:TG)(tc:TT)(te:TE):TS:=λD σ H=>wi σ H (CGo ks g tc te σ λa H'=>D.nx (σ.set k (some (.ref a))) H')
section
variable {X : Cx}
theorem ci1 {tg iter elt : Expr} {ifs : List Expr} {scope : Scope} {pos : Pos} {ks : List Nat} {g : TG} {tc : TT} {te : TE} {F : Addr → Hp → Prop} {RR : Value → Addr → Result → Shared → Prop} {E : Value → Shared → Prop}
    {pins : List (Addr × Obj)} {σ : St} {s2 : Shared} {itv : Value} (S : CScope X ks scope) (hc : X.calm = true)
    (hg : ∀ cl C s₀ H₀ ex, PG (nJ X scope cl C s₀ H₀ ex) tg g) (hi : ∀ cl C s₀ H₀ ex, PIf (nJ X scope cl C s₀ H₀ ex) ifs tc) (he : ∀ cl C s₀ H₀ ex, PE (nJ X scope cl C s₀ H₀ ex) elt te)
    (h : PIE X pins σ tg (CGo ks g tc te σ F) itv s2)
    (hRR : ∀ D C s' H', Inv X pins σ H' s' → (∃ m, s'.heap.Ns C m) → sC X pins H' C → F D H' → RR (.ref D) C (.ok .next) s') :
    wpAny (model X.prog X.w) X.A (newList []) (fun acc s₃ => wpAny (model X.prog X.w) X.A (newFunctionEnv scope X.env.globals (gI X.env.cells scope.names []) [] X.env.qual none .none (some X.env)) (fun cenv s₄ =>
      codeAny (model X.prog X.w) X.A (.compStart (.ListComp elt [⟨tg, iter, ifs, 0⟩] scope pos) 0 itv acc { cenv with scope := relabel scope X.env }) (RR acc cenv.locals) s₄) E s₃) E s2 := by
  obtain ⟨it, fp, tn, J, H2, rfl, I2, T, st2, f2, W, ⟨m0, w0⟩, turn⟩ := h
  refine wpAny_newObj_type (wpAny_newFunctionEnv S.cell (by intro y hy; simp at hy) (fun h₁ hns₁ hsb₁ => ?_) S.kind)
  dsimp only at hns₁ hsb₁ ⊢
  have hD2 : s2.heap.get? s2.heap.objs.size = none := Heap.get?_none_of_le (Nat.le_refl _)
  have nD : H2 s2.heap.objs.size = none := I2.hok.fresh (Nat.le_refl _)
  have I3 : Inv X pins σ H2 { s2 with heap := s2.heap.push { cls := .type "list", dict := none, data := .seq ([] : List Value).toArray } } := I2.kept (t' := s2.toks) fun b o e => Heap.get?_push_of_some _ e
  have eD3 : (s2.heap.push { cls := .type "list", dict := none, data := .seq ([] : List Value).toArray }).get? s2.heap.objs.size = some { cls := .type "list", dict := none, data := .seq ([] : List Value).toArray } := Heap.get?_push_size _ rfl
  have hsz3 : (s2.heap.push { cls := .type "list", dict := none, data := .seq ([] : List Value).toArray }).objs.size = s2.heap.objs.size + 1 := Heap.size_push _ _
  have fD := I2.fpOk (b := s2.heap.objs.size) (Nat.le_refl _) nD
  have fplt : ∀ b ∈ fp, b < s2.heap.objs.size := fun b hb => by
    obtain ⟨o, e, _⟩ := T.obj _ _ st2 b hb
    exact Heap.lt_size e
  have hDfp : s2.heap.objs.size ∉ fp := fun z => Nat.lt_irrefl _ (fplt _ z)
  generalize hs3 : ({ s2 with heap := s2.heap.push { cls := .type "list", dict := none, data := .seq ([] : List Value).toArray } } : Shared) = s3 at I3
  generalize hDD : s2.heap.objs.size = D at *
  have s3h : s3.heap = s2.heap.push { cls := .type "list", dict := none, data := .seq ([] : List Value).toArray } := by rw [← hs3]
  rw [← s3h] at hns₁ hsb₁ eD3 hsz3
  have fC := I3.fpOk (H' := H2) (b := s3.heap.objs.size) (Nat.le_refl _) (I3.hok.fresh (Nat.le_refl _))
  have old : ∀ b o, s3.heap.get? b = some o → h₁.get? b = some o := fun b o e => hsb₁.extBut b o (Nat.ne_of_lt (Heap.lt_size e)) (Heap.get?_push_of_some _ e)
  generalize hCC : s3.heap.objs.size = C at *
  have hDltC : D < C := by rw [hsz3]; exact Nat.lt_succ_self _
  have hDC : D ≠ C := Nat.ne_of_lt hDltC
  have hclos := zZ (env := X.env) (scope := scope) fun x hx hk => I2.ok.has x.1 (S.free x hx hk)
  have csound : ∀ y c, (gI X.env.cells scope.names []).lookup y = some c → X.env.cells.lookup y = some c :=
    vS scope.names [] (fun x hx hk => I2.ok.has x.1 (S.free x hx hk)) fun y c e => by cases e
  generalize hcl : gI X.env.cells scope.names [] = cl at *
  have kin : ∀ y, (compEnvC scope cl C X.env).kindOf y = (scope.names.lookup y).map fun k => if (k == NameKind.free && X.env.scope.kind == .function && X.env.kindOf y == some .cell) = true then NameKind.cell else k := fun y => yB scope.names
  have isFree : ∀ y, ((compEnvC scope cl C X.env).kindOf y = some .cell ∨ (compEnvC scope cl C X.env).kindOf y = some .free) → (y, NameKind.free) ∈ scope.names := fun y hy => by
    rw [kin y] at hy
    cases q : scope.names.lookup y with
    | none =>
      rw [q] at hy
      rcases hy with z | z <;> cases z
    | some k =>
      rw [q] at hy
      have hm := an4 q
      cases k with
      | free => exact hm
      | cell => exact absurd rfl (S.cell _ hm)
      | _ =>
        rcases hy with z | z
        · exact absurd (Option.some.inj z) (by simp)
        · exact absurd (Option.some.inj z) (by simp)
  have neFs : ∀ b, sC X pins H2 b → b ∉ xW X.stack := fun b f z => by
    rcases List.mem_cons.mp (I2.stkSub b z) with e | e
    · exact f.2.1 e
    · exact f.2.2.1 e
  have exs : ∀ b ∈ D :: fp, sC X pins H2 b := fun b hb => by
    rcases List.mem_cons.mp hb with e | e
    · rw [e]; exact fD
    · exact f2 b e
  have exlt : ∀ b ∈ D :: fp, b < C := fun b hb => by
    rcases List.mem_cons.mp hb with e | e
    · rw [e]; exact hDltC
    · exact Nat.lt_trans (fplt b e) hDltC
  have okY : (nJ X scope cl C s3 H2 (D :: fp)).Ok :=
    { mod := I2.ok.mod, kind := S.kind, glob := I2.ok.glob, blt := I2.ok.blt, above := Nat.le_of_eq hCC
      inj := fun x y c h1 h2 => I2.ok.inj x y c (csound _ _ h1) (csound _ _ h2)
      has := fun y hy => by
        have z := uH (cells := X.env.cells) scope.names [] y (isFree y hy)
        rw [hcl] at z
        exact z
      cab := fun _ _ z => by cases z
      hd := I2.ok.hd, frames := I2.ok.frames, stk := .inl rfl
      exf := fun b hb => ⟨Nat.ne_of_lt (exlt b hb), fun x c e z => (exs b hb).2.2.2.2.1 x c (csound _ _ e) z⟩
      bs := I3.bs
      bsz := Nat.le_trans I2.ok.bsz I3.sz
      noex := fun b o e hb => by
        rcases (exs b hb).2.2.2.1 with z | z
        · exact I2.ok.noex b o e z
        · exact absurd (Nat.lt_of_lt_of_le (Heap.lt_size e) (Nat.le_trans I2.ok.bsz z)) (Nat.lt_irrefl _)
      exfs := fun b hb => neFs b (exs b hb)
      funs := I3.stack
      frf := I3.stkFree }
  have outP : ∀ p ∈ X.pn ++ pins, p.1 ≠ C ∧ p.1 ∉ xW X.stack ∧ p.1 ≠ D := fun p hp => by
    obtain ⟨e, n, ne, nf, d⟩ := I2.pin p hp
    have lt : p.1 < D := by rw [← hDD]; exact Heap.lt_size e
    refine ⟨Nat.ne_of_lt (Nat.lt_trans lt hDltC), fun z => ?_, Nat.ne_of_lt lt⟩
    rcases List.mem_cons.mp (I2.stkSub p.1 z) with q | q
    · exact ne q
    · exact nf q
  have I4 : Inv (nJ X scope cl C s3 H2 (D :: fp)) (X.pn ++ pins) (clr ks σ) H2 { s3 with heap := h₁, toks := s3.toks + ([] : List (Str × Value)).length } := by
    refine ⟨okY, rfl, I3.bare, Un.kept old, ⟨_, hns₁, fun i x v e1 e2 e3 => ?_⟩, fun x c e => ?_, ?_, fun x c e => ?_, fun p hp => ?_, I3.hok.kept old, ?_⟩
    · obtain ⟨e2, nk⟩ := az9 ks σ e2
      have hv : (compEnvC scope cl C X.env).kindOf x = some .cell ∨ (compEnvC scope cl C X.env).kindOf x = some .free := by
        rcases e3 with z | z | z
        · exfalso
          have z' : (compEnvC scope cl C X.env).kindOf x = some .local := z
          rw [kin x] at z'
          have hm : (x, i) ∈ X.N.zipIdx := by
            rw [List.mem_zipIdx_iff_getElem?]
            exact e1
          refine nk (S.slots (x, i) hm ?_)
          show scope.names.lookup x = some .local
          cases q : scope.names.lookup x with
          | none => rw [q] at z'; cases z'
          | some k =>
            rw [q] at z'
            have z2 := Option.some.inj z'
            cases k with
            | «local» => rfl
            | free =>
              exfalso
              dsimp only at z2
              split at z2 <;> cases z2
            | _ => exact absurd z2 (by simp)
        · exact .inl z
        · exact .inr z
      have hf := isFree x hv
      have hX := S.free (x, .free) hf rfl
      obtain ⟨m, hn, hl⟩ := I3.loc
      obtain ⟨u, r, lk⟩ := hl i x v e1 e2 (by rcases hX with z | z; exact .inr (.inl z); exact .inr (.inr z))
      refine ⟨u, r, .inr ⟨hv, ?_⟩⟩
      have z := uH (cells := X.env.cells) scope.names [] x hf
      rw [hcl] at z
      obtain ⟨c, hcx⟩ := z
      rcases lk with ⟨kl, _⟩ | ⟨_, c', e', z'⟩
      · have hX' : X.env.kindOf x = some .cell ∨ X.env.kindOf x = some .free := hX
        rw [kl] at hX'
        rcases hX' with z | z <;> cases z
      · have q := csound x c hcx
        rw [e'] at q
        cases q
        obtain ⟨o, ho, hd⟩ := z'
        exact ⟨c, hcx, o, old _ _ ho, hd⟩
    · obtain ⟨v, o, ho, hd⟩ := I3.cell x c (csound x c e)
      exact ⟨v, o, old _ _ ho, hd⟩
    · exact I3.hok.fresh (Nat.le_of_eq hCC)
    · exact I3.freeC x c (csound x c e)
    · have hp' : p ∈ X.pn ++ pins := hp
      obtain ⟨e, n, ne, nf, d⟩ := I3.pin p hp'
      exact ⟨old _ _ e, n, (outP p hp').1, (outP p hp').2.1, d⟩
    · rw [qU]
      exact I3.len
  have fpY : ∀ {pl : List (Addr × Obj)} {H' : Hp}, (∀ p ∈ pl, p.1 ∉ fp) → (∀ b ∈ fp, H' b = none) → ∀ b ∈ fp, sC (nJ X scope cl C s3 H2 (D :: fp)) ((X.pn ++ pins) ++ pl) H' b := fun {pl H'} hpl hn b hb => by
    have f := f2 b hb
    refine ⟨hn b hb, Nat.ne_of_lt (exlt b (List.mem_cons_of_mem _ hb)), neFs b f, .inl (List.mem_cons_of_mem _ hb), fun x c e z => f.2.2.2.2.1 x c (csound x c e) z, fun p hp => ?_⟩
    have hp' : p ∈ (X.pn ++ pins) ++ pl := hp
    rcases List.mem_append.mp hp' with q | q
    · exact f.2.2.2.2.2 p q
    · exact fun z => hpl p q (by rw [z]; exact hb)
  have start : ∀ s₅ : Shared, s₅ = { s3 with heap := h₁, toks := s3.toks + ([] : List (Str × Value)).length } →
      codeAny (model X.prog X.w) X.A (.compLoop (.ListComp elt [⟨tg, iter, ifs, 0⟩] scope pos) 0 (.ref it) (.ref D) (compEnvC scope cl C X.env)) (RR (.ref D) C) s₅ := by
    rintro s₅ rfl
    refine cv8 (fun n s' => ∃ i H' ys its nn, Inv (nJ X scope cl C s3 H2 (D :: fp)) (X.pn ++ pins) (clr ks σ) H' s' ∧ tn i s'.heap ∧ (∀ b ∈ fp, H' b = none) ∧ H' D = none ∧ s'.heap.get? D = some { cls := .type "list", data := .seq its nn } ∧ Vals ys its.toList ∧ ys.length ≤ sizeLine ∧ W i n ys H') ?_ m0
      ⟨0, H2, [], #[], 0, I4, T.keep _ _ _ st2 (fun b hb o e => old _ _ (by rw [s3h]; exact Heap.get?_push_of_some _ e)), fun b hb => (f2 b hb).1, nD, old _ _ eD3, .nil, Nat.zero_le _, w0⟩
    rintro n s6 ⟨i, H6, ys, its, nn, I6, st6, fr6, nD6, eD6, rv6, hz6, w6⟩
    have I6' : Inv (nJ X scope cl C s3 H2 (D :: fp)) ((X.pn ++ pins) ++ [(D, { cls := .type "list", data := .seq its nn })]) (clr ks σ) H6 s6 := I6.pins_of fun p hp => (List.mem_append.mp hp).elim (fun z => I6.pin p (List.mem_append_right _ z)) fun z => by
      obtain rfl := List.mem_singleton.mp z
      exact ⟨eD6, nD6, hDC, neFs D fD, fun v q => by cases q⟩
    have plD : ∀ p ∈ [((D, { cls := .type "list", data := .seq its nn }) : Addr × Obj)], p.1 ∉ fp := fun p hp => by
      obtain rfl := List.mem_singleton.mp hp
      exact hDfp
    rcases turn i n ys H6 w6 with ⟨stop, bQ⟩ | ⟨go, hz, N, hN, step⟩
    · refine cH (T.done (nJ X scope cl C s3 H2 (D :: fp)) rfl rfl rfl hc i _ s6 (clr ks σ) H6 _ I6' (fpY plD fr6) st6 stop) fun r s7 ⟨hr, I7⟩ => ?_
      subst hr
      have IX : Inv X pins σ H6 s7 := I3.call' (ch := D :: fp) I7.os I7.base I7.hok I7.bare fun b hb => ⟨(exs b hb).2.2.2.1, (exs b hb).2.1, (exs b hb).2.2.2.2.1, (exs b hb).2.2.2.2.2⟩
      have eD7 := (I7.pin (D, { cls := .type "list", data := .seq its nn }) (List.mem_append_right _ (List.mem_append_right _ (List.mem_singleton.mpr rfl)))).1
      have rv7 : Vals ys its.toList := rv6
      have IT : Inv X pins σ (upd H6 D (.lst ys)) s7 := IX.track (its := its.toList) (n := nn) nD6 (by
        have := I2.sz
        omega) fD.2.1 fD.2.2.2.2.1 fD.2.2.2.2.2 (by simpa using eD7) rv7 hz6
      obtain ⟨m7, hn7, _⟩ := I7.loc
      refine hRR D C s7 _ IT ⟨m7, hn7⟩ ⟨?_, fC.2⟩ (bQ D nD6)
      rw [cR (Ne.symm hDC)]
      exact I7.free
    · refine cH (T.item (nJ X scope cl C s3 H2 (D :: fp)) rfl rfl rfl hc i _ s6 (clr ks σ) H6 _ I6' (fpY plD fr6) st6 go) fun r s7 ⟨u, hr, h7⟩ => ?_
      subst hr
      refine cH h7 fun _ s8 ⟨x, H8, I8, r8, y8, st8, fr8⟩ => ?_
      have I8' := I8.pinned (fpY plD fr8) (T.obj _ _ st8)
      refine cH (hg cl C s3 H2 (D :: fp) s8 (clr ks σ) H8 x u _ I8' r8 (step x H8 y8)) fun _ s9 ⟨σ9, H9, I9, hE, q9⟩ => ?_
      refine cH (hi cl C s3 H2 (D :: fp) s9 σ9 H9 _ I9 q9) fun ok s10 ⟨H10, I10, q10⟩ => ?_
      have memD : (D, ({ cls := .type "list", data := .seq its nn } : Obj)) ∈ ([] : List (Addr × Obj)) ++ (((X.pn ++ pins) ++ [(D, { cls := .type "list", data := .seq its nn })]) ++ yG fp s8.heap) := List.mem_append_right _ (List.mem_append_left _ (List.mem_append_right _ (List.mem_singleton.mpr rfl)))
      have keepT : ∀ {σ' : St} {H' : Hp} {s' : Shared}, Inv (nJ X scope cl C s3 H2 (D :: fp)) (((X.pn ++ pins) ++ [(D, { cls := .type "list", data := .seq its nn })]) ++ yG fp s8.heap) σ' H' s' → tn (i + 1) s'.heap ∧ (∀ b ∈ fp, H' b = none) := fun {σ' H' s'} I' =>
        ⟨T.keep _ _ _ st8 fun b hb o e => (I'.pin (b, o) (List.mem_append_right _ (List.mem_append_right _ (uN hb e)))).1, fun b hb => by
          obtain ⟨o, e, d⟩ := T.obj _ _ st8 b hb
          exact (I'.pin (b, o) (List.mem_append_right _ (List.mem_append_right _ (uN hb e)))).2.1⟩
      cases ok with
      | false =>
        obtain ⟨m', hm, w10⟩ := hN ys H10 q10
        obtain ⟨k1, k2⟩ := keepT I10
        obtain ⟨p1, p2, _⟩ := I10.pin _ memD
        exact ⟨m', hm, i + 1, H10, ys, its, nn, I10.unpinned.unpinned.weak (by rw [qU]; exact hE.1.symm) hE.2, k1, k2, p2, p1, rv6, hz6, w10⟩
      | true =>
        refine cH (he cl C s3 H2 (D :: fp) s10 σ9 H10 _ I10 q10) fun vv s11 ⟨v, H11, I11, r11, n11⟩ => ?_
        obtain ⟨m', hm, w11⟩ := hN _ _ n11
        obtain ⟨k1, k2⟩ := keepT I11
        obtain ⟨p1, p2, _⟩ := I11.pin _ memD
        have hlen : ys.length = its.size := by have := rv6.length; simpa using this
        refine call_meets PySem.F.slot_list_append ⟨_, p1, rfl⟩ PySem.F.entry_list_append (PySem.F.args_list_append_2 _ _) (PySem.list_append D its nn vv (by omega)) ⟨p1, ?_⟩
        have q := PySem.IsL.update p1 fun xs => xs.push vv
        refine ⟨m', hm, i + 1, H11, ys ++ [v], its.push vv, _, (I11.unpinned.unpinned.weak (by rw [qU]; exact hE.1.symm) hE.2).turned (fun b o hb e => (Heap.get?_update_other _ _ (Ne.symm hb)).trans e) p2 hDC (.inl List.mem_cons_self) (fun x c e z => fD.2.2.2.2.1 x c (csound x c e) z) (fun p hp => (outP p hp).2.2), ?_, k2, p2, q, ?_, ?_, w11⟩
        · refine T.keep _ _ _ k1 fun b hb o e => (Heap.get?_update_other _ _ ?_).trans e
          intro z
          exact hDfp (by rw [z]; exact hb)
        · have : (its.push vv).toList = its.toList ++ [vv] := by simp
          rw [this]
          exact rv6.append (.cons r11 .nil)
        · rw [List.length_append, List.length_singleton]
          omega
  have hCC' : (s2.heap.push { cls := .type "list", dict := none, data := .seq ([] : List Value).toArray }).objs.size = C := by rw [← s3h]; exact hCC
  rw [hCC']
  exact codeAny_compStart_list (start _ (by rw [← hs3])) (T.self _ 0 _ _ _ (T.keep _ _ _ st2 (fun b hb o e => old _ _ (by rw [s3h]; exact Heap.get?_push_of_some _ e))) (start _ (by rw [← hs3])))
theorem dc7(S:CScope X ks scope)(hc:X.calm=true)(hit:PI X tg iter wi)
 (hg:∀cl C s₀ H₀ ex,PG (nJ X scope cl C s₀ H₀ ex) tg g)(hi:∀cl C s₀ H₀ ex,PIf (nJ X scope cl C s₀ H₀ ex) ifs tc)(he:∀cl C s₀ H₀ ex,PE (nJ X scope cl C s₀ H₀ ex) elt te)
 (hs:∀x,foldedSetIterable iter X.env x=pure x:=by intro _;rfl):PE X (.ListComp elt [⟨tg,iter,ifs,0⟩] scope pos) (cw2 ks wi g tc te):=by
 intro pins s σ H Q I h
 rw[eval_ListComp]
 refine wpAny_comprehension_free (use:=none) rfl hs (zZ λx hx hk=>I.ok.has x.1 (S.free x hx hk)) S.kind S.names (cH (hit s σ H _ I h) λv s1 h1=>cH h1 λitv s2 h2=>?_)
 refine ci1 (RR:=λacc C=>compPost (model X.prog X.w) X.A X.xe none (EP X pins σ Q) acc C) S hc hg hi he h2 ?_
 rintro D C s' H' I' ⟨m,hn⟩ f q
 exact⟨m,hn,λh'' sb=>⟨.ref D,H',I'.turned (t':=s'.toks) (λb o hb e=>(sb.2 b hb).trans e) f.1 f.2.1 f.2.2.2.1 f.2.2.2.2.1 f.2.2.2.2.2,rfl,q⟩⟩
theorem cn3(hN:X.N.Nodup)(hi':X.N[i]?=some y)(hy:Loc X.env.scope y)
 (S:CScope X ks scope)(hc:X.calm=true)(hit:PI X tg iter wi)
 (hg:∀cl C s₀ H₀ ex,PG (nJ X scope cl C s₀ H₀ ex) tg g)(hi:∀cl C s₀ H₀ ex,PIf (nJ X scope cl C s₀ H₀ ex) ifs tc)(he:∀cl C s₀ H₀ ex,PE (nJ X scope cl C s₀ H₀ ex) elt te)
 (hsw:swapsWith (.ListComp elt [⟨tg,iter,ifs,0⟩] scope pos) (some (.Name y py)) spos.line X.env=pure true:=by rfl)
 (hs:∀x,foldedSetIterable iter X.env x=pure x:=by intro _;rfl)(hf:X.fn y=true\/X.env.scope.names.lookup y=some .local:=by first|exact .inl rfl|exact .inr rfl|assumption):
 PS X (.Assign [.Name y py] (.ListComp elt [⟨tg,iter,ifs,0⟩] scope pos) spos) (ax5 i ks wi g tc te):=by
 intro pins s σ H D I h
 rw[exec_Assign_Name_used _ _ _ _ hsw]
 refine wpAny_bind (wpAny_standAt (wpAny_bind ?_))
 show wpAny _ X.A (do let _<-comprehension (.ListComp elt [⟨tg,iter,ifs,0⟩] scope pos) scope X.env _ (newList []) false (eval iter X.env) (some (assign (.Name y py) X.env))) _ _ s
 refine wpAny_bind (wpAny_mono (wpAny_comprehension_free (use:=some (assign (.Name y py) X.env)) (Q:=λ_ s'=>SP X pins D .next s') rfl hs (zZ λx hx hk=>I.ok.has x.1 (S.free x hx hk)) S.kind S.names
  (cH (hit s σ H _ I h) λv s1 h1=>cH h1 λitv s2 h2=>?_)) (λ_ s' hq=>wpAny_pure (wpAny_pure hq)) λ_ _ e=>e)
 refine ci1 (RR:=λacc C=>compPost (model X.prog X.w) X.A X.xe (some (assign (.Name y py) X.env)) (λ_ s'=>SP X pins D .next s') acc C) S hc hg hi he h2 ?_
 rintro L C s' H' I' ⟨m,hn⟩ f q
 show wpAny _ _ (assign (.Name y py) X.env (.ref L)) _ _ s'
 refine wpAny_assign_Name (bh2 (v:=.ref L) I' hN hi' hy rfl (λs'' I'' hh=>?_) hf)
 obtain⟨a,sb,ha⟩:=hh
 have hCa:C≠a:=by
  rcases ha with e|e
  . rw[e];exact f.2.1
  . exact λz=>f.2.2.2.2.1 y a e z.symm
 exact⟨m,hn.sameBut sb hCa,λh'' sb'=>⟨_,H',I''.turned (t':=s''.toks) (λb o hb e=>(sb'.2 b hb).trans e) f.1 f.2.1 f.2.2.2.1 f.2.2.2.2.1 f.2.2.2.2.2,q⟩⟩
end
end L2
namespace L2
open PySem PySem.Spec PyProof.Rows
section
variable {X : Cx}
theorem co9(hc:X.calm=true):CallR X (.builtin "max") (λxs H Q=>∃(p:Addr)(ns:List Int),xs=[.ref p]/\SqL X.K H p (ns.map V.int)/\ns≠[]/\∀M,M∈ns->(∀a∈ns,a<=M)->Q (.int M) H):=by
 intro pins s σ H xs us Q I r h
 obtain⟨p,ns,rfl,hp,hne,q⟩:=h
 obtain⟨u,rfl,ru⟩:=r.one
 obtain rfl:u=Value.ref p:=ru
 obtain⟨its,rv,pl,_⟩:=I.list hp
 have hi:IntsAre its ns:=uP rv
 have hl:=pl.isList
 obtain⟨xs,e⟩:=hi.allInts.items
 have hns:ns=xs.toList.map (·.1):=by
  rw[<-hi.numsOf,<-nums_intItems,<-e]
 have hsz:0<xs.size:=by
  have h3:=List.length_pos_iff.mpr hne
  rw[hns,List.length_map,Array.length_toList]at h3
  exact h3
 rw[e]at hl
 refine max_intList (I.ok.hd hc) hl hsz λv h' tk hv hk=>?_
 obtain⟨t,rfl⟩:=intItems_at hv
 obtain⟨h1,h2⟩:=argBest_gt (numAt xs) (xs.size-1)
 refine⟨.int _,H,I.kept hk,⟨t,rfl⟩,q _ ?_ λa ha=>?_⟩
 . rw[hns,numAt_eq];exact getD_mem (by rw[List.length_map,Array.length_toList];omega)
 . rw[hns]at ha
   obtain⟨j,hj,rfl⟩:=mem_getD ha
   rw[List.length_map,Array.length_toList]at hj
   rw[<-numAt_eq];exact h2 j (by omega)
theorem cl7(hc:X.calm=true):CallR X (.builtin "min") (λxs H Q=>∃(p:Addr)(ns:List Int),xs=[.ref p]/\SqL X.K H p (ns.map V.int)/\ns≠[]/\∀M,M∈ns->(∀a∈ns,M<=a)->Q (.int M) H):=by
 intro pins s σ H xs us Q I r h
 obtain⟨p,ns,rfl,hp,hne,q⟩:=h
 obtain⟨u,rfl,ru⟩:=r.one
 obtain rfl:u=Value.ref p:=ru
 obtain⟨its,rv,pl,_⟩:=I.list hp
 have hi:IntsAre its ns:=uP rv
 have hl:=pl.isList
 obtain⟨xs,e⟩:=hi.allInts.items
 have hns:ns=xs.toList.map (·.1):=by
  rw[<-hi.numsOf,<-nums_intItems,<-e]
 have hsz:0<xs.size:=by
  have h3:=List.length_pos_iff.mpr hne
  rw[hns,List.length_map,Array.length_toList]at h3
  exact h3
 rw[e]at hl
 refine min_intList (I.ok.hd hc) hl hsz λv h' tk hv hk=>?_
 obtain⟨t,rfl⟩:=intItems_at hv
 obtain⟨h1,h2⟩:=argBest_lt (numAt xs) (xs.size-1)
 refine⟨.int _,H,I.kept hk,⟨t,rfl⟩,q _ ?_ λa ha=>?_⟩
 . rw[hns,numAt_eq];exact getD_mem (by rw[List.length_map,Array.length_toList];omega)
 . rw[hns]at ha
   obtain⟨j,hj,rfl⟩:=mem_getD ha
   rw[List.length_map,Array.length_toList]at hj
   rw[<-numAt_eq];exact h2 j (by omega)
theorem bd8:CallR X (.builtin "sorted") (λxs H Q=>∃(p:Addr)(ns:List Int),xs=[.ref p]/\SqL X.K H p (ns.map V.int)/\ns.length<64/\∀(l:Addr)(ms:List Int),H l=none->ms.Perm ns->ms.Pairwise (· <= ·)->Q (.ref l) (upd H l (.lst (ms.map V.int)))):=by
 intro pins s σ H xs us Q I r h
 obtain⟨p,ns,rfl,hp,h64,q⟩:=h
 obtain⟨u,rfl,ru⟩:=r.one
 obtain rfl:u=Value.ref p:=ru
 obtain⟨its,rv,pl,hz⟩:=I.list hp
 have hi:IntsAre its ns:=uP rv
 have hlen:=rv.length
 rw[List.length_map]at hlen
 refine sorted_ints pl.isList hi (by omega) λout ns' a1 a2 a3=>?_
 obtain⟨e,he⟩:=sortedAll_at s.heap its out
 have hl':ns'.length=ns.length:=a2.length_eq
 refine⟨.ref (s.heap.objs.size+1),_,I.laid (t':=s.toks) (λ_ _=>sortedAll_old) (Nat.le_succ _) ?_,rfl,q _ ns' (I.hok.fresh (Nat.le_succ _)) a2 a3⟩
 refine⟨?_,out.toList,e,ak2 a1,?_⟩
 . rw[List.length_map]at hz⊢
   omega
 . rw[he]
   try rfl
end
section
variable {X : Cx}
end
end L2
namespace L2
open PySem PySem.Spec PyProof.Rows
def Its(z:Str):It:=⟨λi _=>i<z.cps.size,λi H x H'=>H'=H/\∃c,z.cps[i]?=some c/\x=.str ⟨#[c]⟩,λi _=>z.cps.size<=i⟩
theorem cp6(hQ:Q () s):wpAny M A (letOwnedTupleGo tg (.ref it) (.str x t)) Q E s:=by
 unfold letOwnedTupleGo
 cases tg<;>exact wpAny_pure hQ
theorem cf5{P:Program}{w:World}{K:PySem.W.Frag}{tg:Expr}(it:Addr)(z:Str)(t:Tok):at2 P w K tg (Its z) [it] it (λi h=>h.IsStrIter it "str_ascii_iterator" z t i) where
 mem:=by simp
 obj:=λi h st b hb=>by
  have e:b=it:=by simpa using hb
  subst e
  obtain⟨o,e,c,d⟩:=st
  exact⟨o,e,λv q=>by rw[d]at q;cases q⟩
 keep:=λi h h' st k=>let⟨o,e,r⟩:=st;⟨o,k it (by simp) o e,r⟩
 item:=by
  intro X hP hw hK hc i pins s σ H E I hf st hg
  subst hP hw hK
  obtain⟨f0,f1,f2,f3,f4,f5⟩:=hf it (by simp)
  have hg':i<z.cps.size:=hg
  refine wpAny_pyNext_ascii_item st (c:=z.cps[i]) (by simp[hg']) λh' hit' hs'=>?_
  have I1:Inv X pins σ H {s with heap:=h',toks:=s.toks+1}:=I.turned (λb o hb e=>hs'.extBut b o hb e) f0 f1 f3 f4 f5
  exact⟨_,rfl,cp6 ⟨.str ⟨#[z.cps[i]]⟩,H,I1,⟨_,rfl⟩,⟨rfl,_,by simp[hg'],rfl⟩,hit',λb hb=>(hf b hb).1⟩⟩
 done:=by
  intro X hP hw hK hc i pins s σ H E I hf st hg
  subst hP hw hK
  obtain⟨f0,f1,f2,f3,f4,f5⟩:=hf it (by simp)
  have hg':z.cps.size<=i:=hg
  exact wpAny_pyNext_ascii_end (I.ok.hd hc) st (by simp[hg']) λh' he'=>⟨rfl,I.turned (t':=s.toks) (λb o hb e=>he' b o hb e) f0 f1 f3 f4 f5⟩
 self:=λ_ _ _ _ _ st h=>wpAny_pyIter_striter_ascii st h
theorem co7{P:Program}{w:World}{K:PySem.W.Frag}{tg:Expr}(it:Addr)(z:Str)(t:Tok):at2 P w K tg (Its z) [it] it (λi h=>h.IsStrIter it "str_iterator" z t i) where
 mem:=by simp
 obj:=λi h st b hb=>by
  have e:b=it:=by simpa using hb
  subst e
  obtain⟨o,e,c,d⟩:=st
  exact⟨o,e,λv q=>by rw[d]at q;cases q⟩
 keep:=λi h h' st k=>let⟨o,e,r⟩:=st;⟨o,k it (by simp) o e,r⟩
 item:=by
  intro X hP hw hK hc i pins s σ H E I hf st hg
  subst hP hw hK
  obtain⟨f0,f1,f2,f3,f4,f5⟩:=hf it (by simp)
  have hg':i<z.cps.size:=hg
  refine wpAny_pyNext_wide_item st (c:=z.cps[i]) (by simp[hg']) λh' hit' hs'=>?_
  have I1:Inv X pins σ H {s with heap:=h',toks:=s.toks+1}:=I.turned (λb o hb e=>hs'.extBut b o hb e) f0 f1 f3 f4 f5
  exact⟨_,rfl,cp6 ⟨.str ⟨#[z.cps[i]]⟩,H,I1,⟨_,rfl⟩,⟨rfl,_,by simp[hg'],rfl⟩,hit',λb hb=>(hf b hb).1⟩⟩
 done:=by
  intro X hP hw hK hc i pins s σ H E I hf st hg
  subst hP hw hK
  obtain⟨f0,f1,f2,f3,f4,f5⟩:=hf it (by simp)
  have hg':z.cps.size<=i:=hg
  exact wpAny_pyNext_wide_end (I.ok.hd hc) st (by simp[hg']) λh' he'=>⟨rfl,I.turned (t':=s.toks) (λb o hb e=>he' b o hb e) f0 f1 f3 f4 f5⟩
 self:=λ_ _ _ _ _ st h=>wpAny_pyIter_striter_wide st h
section
variable {X : Cx}
def ea4:V->Option Int->Option Int->Hp->VK->Prop:=λx lo hi H Q=>∃z,x=.str z/\z.length<=sizeLine/\Q (.str (Txt.slice z lo hi)) H
theorem eq3:SlR X ea4:=by
 intro pins s σ H x v vl vu lo hi sl Q I rx hs pl pu h
 obtain⟨z,rfl,hz,q⟩:=h
 obtain⟨t,rfl⟩:=rx
 refine⟨"str",_,F.slot_str_getitem.lookup,typeIs_str s z t,?_⟩
 obtain⟨o,e,c,d⟩:=hs
 have go:∀(l u:Option (Int×Tok)),vl=partValue l->vu=partValue u->lo=l.map (·.1)->hi=u.map (·.1)->wpAny (model X.prog X.w) X.A (getItem (.str z t) (.ref sl)) (EP X pins σ Q) X.xe s:=by
  rintro l u rfl rfl rfl rfl
  refine wpAny_getItem_str_slice (l:=l) (u:=u) (st:=none) ⟨o,e,c,d⟩ rfl ?_
  unfold sliceMade
  unfold Txt.slice at q
  have e1:((((none:Option (Int×Tok)).map (·.1)).getD 1==1&&(slicePicked z l u none).length==z.length)=true)=(((1:Int)==1&&(Builtin.Str.strSliceIndices (l.map (·.1)) (u.map (·.1)) 1 z.length).length==z.length)=true):=rfl
  split
  . rename_i hh
    rw[if_pos (e1▸hh)]at q
    exact⟨.str z,H,I,⟨t,rfl⟩,q⟩
  . rename_i hh
    rw[if_neg (e1▸hh)]at q
    refine⟨Nat.le_trans (Nat.le_trans (List.length_filterMap_le _ _) (sliceIndices_le _ _ _)) hz,.str _,H,I.tok _,⟨_,rfl⟩,q⟩
 cases pl with
 |none=>
  cases pu with
  |none=>exact go none none rfl rfl rfl rfl
  |int j u=>exact go none (some (j,u)) rfl rfl rfl rfl
 |int i t'=>
  cases pu with
  |none=>exact go (some (i,t')) none rfl rfl rfl rfl
  |int j u=>exact go (some (i,t')) (some (j,u)) rfl rfl rfl rfl
theorem bw2:∀{ys:List Str}{us:List Value},Vals (ys.map V.str) us->StrsAre us ys
 |[],_,.nil=>.nil
 |y::ys,_,.cons r t=>by
  obtain⟨k,rfl⟩:=r
  exact .cons _ _ (bw2 t)
def cq5(K:PySem.W.Frag):V->List V->Hp->VK->Prop:=λx vs H Q=>∃(z:Str)(p:Addr)(ys:List Str),x=.str z/\vs=[.ref p]/\SqL K H p (ys.map V.str)/\(ys.map (·.length)).sum+ys.length*z.length<=16777216/\Q (.str (Txt.join z ys)) H
theorem dm7:MtR X "str.join" (cq5 X.K):=by
 intro pins s σ H x xs v us Q I rx rv h
 obtain⟨z,p,ys,rfl,rfl,hp,hz,q⟩:=h
 obtain⟨t,rfl⟩:=rx
 obtain⟨u,rfl,ru⟩:=rv.one
 obtain rfl:u=Value.ref p:=ru
 obtain⟨its,r,pl,_⟩:=I.list hp
 exact join_list pl.isList (by simpa using bw2 r) hz λt' k=>⟨.str _,H,I.tok _,⟨_,rfl⟩,q⟩
end
end L2
namespace L2
open PySem PySem.Spec PyProof.Rows
section
variable {X : Cx}
def ek5:R2:=λx y H Q=>∃i j,x=.str i/\y=.str j/\i.length+j.length<=sizeLine/\Q (.str (i++j)) H
def ew1(K:PySem.W.Frag):List V->Hp->VK->Prop:=λxs H Q=>∃x n,xs=[x]/\ez1 K x H n/\Q (.int n) H
def ek0:List V->Hp->VK->Prop:=λxs H Q=>∃i,xs=[.int i]/\Q (.int (if i<0 then -i else i)) H
def ck0:List V->Hp->VK->Prop:=λxs H Q=>∃i j,xs=[.int i,.int j]/\xK i j/\∀p,H p=none->Q (.ref p) (upd H p (.tup [.int (i/j),.int (i%j)]))
def em7(K:PySem.W.Frag):List V->Hp->VK->Prop:=λxs H Q=>∃x T tx b,xs=[x,.ty T]/\TyN K H x tx/\gQ tx T b/\Q (.bl b) H
def eo4(K:PySem.W.Frag):List V->Hp->VK->Prop:=λxs H Q=>∃(p:Addr)(bs:List Bool),xs=[.ref p]/\SqL K H p (bs.map V.bl)/\Q (.bl (bs.all id)) H
def et0(K:PySem.W.Frag):List V->Hp->VK->Prop:=λxs H Q=>∃(p:Addr)(bs:List Bool),xs=[.ref p]/\SqL K H p (bs.map V.bl)/\Q (.bl (bs.any id)) H
def es6:List V->Hp->VK->Prop:=λxs H Q=>∃i j,xs=[.int i,.int j]/\Q (.int (if j>i then j else i)) H
def eq5:List V->Hp->VK->Prop:=λxs H Q=>∃i j,xs=[.int i,.int j]/\Q (.int (if j<i then j else i)) H
def ev5(K:PySem.W.Frag):List V->Hp->VK->Prop:=λxs H Q=>∃(p:Addr)(ns:List Int),xs=[.ref p]/\SqL K H p (ns.map V.int)/\ns≠[]/\∀M,M∈ns->(∀a∈ns,a<=M)->Q (.int M) H
def em5(K:PySem.W.Frag):List V->Hp->VK->Prop:=λxs H Q=>∃(p:Addr)(ns:List Int),xs=[.ref p]/\SqL K H p (ns.map V.int)/\ns≠[]/\∀M,M∈ns->(∀a∈ns,M<=a)->Q (.int M) H
def do0(K:PySem.W.Frag):List V->Hp->VK->Prop:=λxs H Q=>es6 xs H Q\/ev5 K xs H Q
def dw0(K:PySem.W.Frag):List V->Hp->VK->Prop:=λxs H Q=>eq5 xs H Q\/em5 K xs H Q
theorem cc9(hc:X.calm=true:=by rfl):CallR X (.builtin "max") (do0 X.K):=(ct6 hc).or (co9 hc)
theorem dd0(hc:X.calm=true:=by rfl):CallR X (.builtin "min") (dw0 X.K):=(cs7 hc).or (cl7 hc)
theorem uZ(hm:X.mg x=none)(hv:bootBuiltins x=some (.type ty))(hg:Gl X x:=by rfl)(hn:x≠"__name__":=by decide)(hd:(x==("__debug__":Str))=false:=by decide):PE X (.Name x pos) (tC (.ty ty)):=
 du7 (v:=.ty ty) hg hm hv rfl hn hd
def yK(mg:Str->Option Value)(x:Str)(v:V):Prop:=∃u,mg x=some u/\RelV v u
theorem jN(h:yK X.mg x v)(hg:Gl X x:=by rfl)(hd:(x==("__debug__":Str))=false:=by decide):PE X (.Name x pos) (tC v):=by
 obtain⟨u,hm,r⟩:=h
 exact do8 hg hm r hd
end
theorem cZ:bootBuiltins "len"=some (.builtin "len"):=PySem.boot_len
theorem bi7:bootBuiltins "abs"=some (.builtin "abs"):=by decide+kernel
theorem cs9:bootBuiltins "divmod"=some (.builtin "divmod"):=by decide+kernel
theorem gF:bootBuiltins "isinstance"=some (.builtin "isinstance"):=by decide+kernel
theorem rM:bootBuiltins "all"=some (.builtin "all"):=by decide+kernel
theorem ef3:bootBuiltins "any"=some (.builtin "any"):=by decide+kernel
theorem ab1:bootBuiltins "max"=some (.builtin "max"):=by decide+kernel
theorem vN:bootBuiltins "min"=some (.builtin "min"):=by decide+kernel
theorem em0:bootBuiltins "sum"=some (.builtin "sum"):=by decide+kernel
theorem cd7:bootBuiltins "sorted"=some (.builtin "sorted"):=by decide+kernel
theorem cu8:bootBuiltins "int"=some (.type "int"):=by decide+kernel
theorem cm1:bootBuiltins "bool"=some (.type "bool"):=by decide+kernel
theorem el1:bootBuiltins "str"=some (.type "str"):=by decide+kernel
theorem iT:bootBuiltins "list"=some (.type "list"):=by decide+kernel
theorem bp7:bootBuiltins "tuple"=some (.type "tuple"):=by decide+kernel
section
variable {t u : TS} {D : ac5} {σ : St} {H : Hp} {te ta tb tc : TE} {g : TG} {i : Nat} {v : V} {Q : VK} {c : TT} {K : PySem.W.Frag} {r r' : R2}
end
end L2
namespace L2
open PySem PySem.Spec PyProof.Rows
structure dW (K:PySem.W.Frag) (mg:Str->Option Value) (x:Str) (st:Stmt):Prop where
 ex:∃f fd,Fun K x x st f fd/\mg x=some (.ref f)
theorem ev0{K:PySem.W.Frag}{h:Heap}{mg:Str->Option Value}(X:K.In h)(G:h.Ns mainGlobals mg){x:Str}{st:Stmt}{f:Addr}{oc:Value}{od an:Option Addr}{osl:Array (Option Value)}{kV doc pm cdv ct:Value}
 (a:PySem.W.nsIn K mainGlobals x=some (some (.ref f)))(l:K.lookup f=some ⟨oc,od,.func (PySem.W.fnOf x x (jM st) (dO st) (aO st) .none kV doc pm an cdv ct),osl⟩)
 (c:PySem.W.codeIn K cdv x=true)(k:PySem.W.keepIn K (.ref f)=true):dW K mg x st:=⟨f,_,aj6 l c k,PySem.W.mg_of X G a⟩
theorem ek1{K:PySem.W.Frag}{h:Heap}{mg:Str->Option Value}(X:K.In h)(G:h.Ns mainGlobals mg){x:Str}{v:V}{u:Value}(a:PySem.W.nsIn K mainGlobals x=some (some u))(r:RelV v u):yK mg x v:=⟨u,PySem.W.mg_of X G a,r⟩
section
variable {P : Program} {w : World} {K : PySem.W.Frag} {mg : Str → Option Value} {base : Heap}
end
theorem cs5(h:Builtin.Int.intBits a+Builtin.Int.intBits b<=134217728):IntMulOk a b:=by
 have e:(2:Nat)^27=134217728:=by decide
 have h:Builtin.Int.intTooBig (Builtin.Int.intBits a+Builtin.Int.intBits b)=false:=by
  unfold Builtin.Int.intTooBig bitsLine
  exact decide_eq_false (by omega)
 unfold IntMulOk
 rw[h]
 simp
theorem dt8(h1:-(2^64)<b)(h2:b<2^64):IntMulOk a b:=IntMulOk.of_right (intBits_le_64 h1 h2)
theorem do6(h1:-(2^64)<a)(h2:a<2^64):IntMulOk a b:=IntMulOk.of_left (intBits_le_64 h1 h2)
end L2
namespace L2
open PySem PySem.Spec PyProof.Rows
def SI(k:Bool)(h:Heap)(it l:Addr)(i:Nat):Prop:=∃o,h.get? it=some o/\o.cls=.type (cond k "tuple_iterator" "list_iterator")/\o.data=.fields #[.ref l,.int i 0]
def SQ(k:Bool)(h:Heap)(l:Addr)(us:Array Value):Prop:=∃o,h.get? l=some o/\o.cls=.type (cond k "tuple" "list")/\∃n,o.data=.seq us n
theorem SI.at(x:SI k h it l i)(e:∀o,h.get? it=some o->h'.get? it=some o):SI k h' it l i:=by
 obtain⟨o,ho,r⟩:=x
 exact⟨o,e o ho,r⟩
theorem SQ.at(x:SQ k h l us)(e:∀o,h.get? l=some o->h'.get? l=some o):SQ k h' l us:=by
 obtain⟨o,ho,r⟩:=x
 exact⟨o,e o ho,r⟩
section
variable {prog : Program} {w : World} {A : Around} {E : Value → Shared → Prop} {s : Shared}
theorem af1(hit:SI k s.heap it l i)(hl:SQ k s.heap l us)(hx:us[i]?=some x)
 (hQ:∀h',SI k h' it l (i+1)->Heap.SameBut it s.heap h'->Q x {s with heap:=h'}):wpAny (model prog w) A (Builtin.SmallTypes.nextOf (.ref it)) Q E s:=by
 cases k with
 |false=>exact wpAny_nextOf_list_item hit hl hx hQ
 |true=>
  obtain⟨o,ho,hc,hd⟩:=hit
  obtain⟨ol,hol,_,nl,hdl⟩:=hl
  have hT:s.TypeIs (.ref it) "tuple_iterator":=⟨o,ho,hc⟩
  unfold Builtin.SmallTypes.nextOf
  refine wpAny_bind (wpAny_callSpecial?_slot (name:=Str.ofString "__next__") hT F.slot_tuple_iterator_next (wpAny_call_entry F.slot_tuple_iterator_next hT F.entry_tuple_iterator_next ?_ (F.args_tuple_iterator_next_1 _)))
  (show wpAny _ _ (field (.ref it) 0>>=_) _ _ s);refine wpAny_bind (wpAny_field ho hd (x:=.ref l) rfl ?_)
  (show wpAny _ _ (if(Value.ref l==Value.none)=true then _ else _) _ _ s);rw[if_neg (show¬((Value.ref l==Value.none)=true) from Bool.false_ne_true)]
  (show wpAny _ _ (field (.ref it) 1>>=_) _ _ s);refine wpAny_bind (wpAny_field ho hd (x:=.int i 0) rfl ?_)
  (show wpAny _ _ (seqItems? (.ref l)>>=_) _ _ s);refine wpAny_bind (wpAny_seqItems hol hdl ?_)
  simp only[Int.toNat_natCast,hx];refine wpAny_bind (wpAny_setField ho hd (by simp) (wpAny_pure ⟨x,rfl,wpAny_pure (hQ _ ?_ (Heap.SameBut.update ..))⟩))
  refine⟨_,Heap.get?_update_self _ ho (Obj.isFreed_of_fields (Obj.data_mapFields hd _)),(Obj.cls_mapFields ..).trans hc,?_⟩
  rw[Obj.data_mapFields hd];simp[rawInt]
theorem be5(hh:A.handled=none)(hit:SI k s.heap it l i)(hl:SQ k s.heap l us)(hx:us[i]?=none)
 (hE:∀h' e,Heap.ExtBut it s.heap h'->(∃o,h'.get? e=some o/\o.cls=.type "StopIteration")->E (.ref e) {s with heap:=h'}):wpAny (model prog w) A (Builtin.SmallTypes.nextOf (.ref it)) Q E s:=by
 cases k with
 |false=>exact wpAny_nextOf_list_end hh hit hl hx hE
 |true=>
  obtain⟨o,ho,hc,hd⟩:=hit
  obtain⟨ol,hol,_,nl,hdl⟩:=hl
  have hT:s.TypeIs (.ref it) "tuple_iterator":=⟨o,ho,hc⟩
  unfold Builtin.SmallTypes.nextOf
  refine wpAny_bind (wpAny_callSpecial?_slot (name:=Str.ofString "__next__") hT F.slot_tuple_iterator_next (wpAny_call_entry F.slot_tuple_iterator_next hT F.entry_tuple_iterator_next ?_ (F.args_tuple_iterator_next_1 _)))
  (show wpAny _ _ (field (.ref it) 0>>=_) _ _ s);refine wpAny_bind (wpAny_field ho hd (x:=.ref l) rfl ?_)
  (show wpAny _ _ (if(Value.ref l==Value.none)=true then _ else _) _ _ s);rw[if_neg (show¬((Value.ref l==Value.none)=true) from Bool.false_ne_true)]
  (show wpAny _ _ (field (.ref it) 1>>=_) _ _ s);refine wpAny_bind (wpAny_field ho hd (x:=.int i 0) rfl ?_)
  (show wpAny _ _ (seqItems? (.ref l)>>=_) _ _ s);refine wpAny_bind (wpAny_seqItems hol hdl ?_)
  simp only[Int.toNat_natCast,hx];refine wpAny_bind (wpAny_rule (wpAny_bind (wpAny_setField ho hd (by simp) ?_)))
  (show wpAny _ _ (newExc (.type "StopIteration") []>>=_) _ _ _);refine wpAny_bind ?_;simp only[newExc,newTuple]
  refine wpAny_bind (wpAny_newObj_type ?_ (by size_fits));refine wpAny_bind (m:=firstArgMember _ _) (wpAny_of_eq (a:=Value.none) (by first|rfl|(simp only[firstArgMember];rfl)) ?_)
  refine wpAny_newObj_type ?_ (by size_fits);simp only[raiseNew];refine wpAny_bind (wpAny_handled ?_)
  first|rw[show A.in1.handled=none from hh]|rw[hh]
  refine wpAny_bind (wpAny_pure (wpAny_throw ?_));exact hE _ _ (((Heap.SameBut.update ..).extBut.push _).push _) ⟨_,Heap.get?_push_size _ rfl,rfl⟩
theorem bv7(hl:SQ k s.heap l us)
 (hQ:Q (.ref s.heap.objs.size) {s with heap:=s.heap.push {cls:=.type (cond k "tuple_iterator" "list_iterator"),data:=.fields #[.ref l,.int 0 0]}}):wpAny (model prog w) A (pyIter (.ref l)) Q E s:=by
 cases k with
 |false=>exact wpAny_pyIter_list hl hQ
 |true=>exact wpAny_pyIter_tuple hl hQ
theorem db1{k1 k2:Bool}{z TI TO i1 i2 l1 l2:Addr}{i:Nat}{us vs:Array Value}{x y a b:Value}{Q:Option Value->Shared->Prop}(D:ZipApart z TI TO i1 i2 l1 l2)
 (hz:IsZip s.heap z TI TO .none)(hTI:IsPair s.heap TI (.ref i1) (.ref i2))(hTO:IsPair s.heap TO a b)(n1:SI k1 s.heap i1 l1 i)(n2:SI k2 s.heap i2 l2 i)(q1:SQ k1 s.heap l1 us)(q2:SQ k2 s.heap l2 vs)(hx:us[i]?=some x)(hy:vs[i]?=some y)
 (hQ:∀h',IsZip h' z TI TO (rawInt s.heap.objs.size)->IsPair h' TO x y->SI k1 h' i1 l1 (i+1)->SI k2 h' i2 l2 (i+1)->IsPair h' s.heap.objs.size x y->
  (∀c o,c≠z->c≠TO->c≠i1->c≠i2->s.heap.get? c=some o->h'.get? c=some o)->Q (some (.ref s.heap.objs.size)) {s with heap:=h'}):
 wpAny (model prog w) A (pyNext (.ref z)) Q E s:=by
 have hT:s.TypeIs (.ref z) "zip":=⟨_,hz,rfl⟩
 unfold pyNext
 refine wpAny_bind (wpAny_attempt (wpAny_callSpecial?_slot (name:=Str.ofString "__next__") hT F.slot_zip_next (wpAny_call_entry F.slot_zip_next hT F.entry_zip_next ?_ (F.args_zip_next_1 _))))
 (show wpAny _ _ (field (.ref z) 2>>=_) _ _ _);refine wpAny_bind (wpAny_field hz rfl (x:=.bool false) rfl ?_)
 (show wpAny _ _ (field (.ref z) 3>>=_) _ _ _);refine wpAny_bind (wpAny_field hz rfl (x:=.ref TI) rfl ?_)
 refine wpAny_bind (wpAny_seqItems hTI rfl ?_);(show wpAny _ _ (Builtin.SmallTypes.ownedTupleIsFree (.ref z)>>=_) _ _ _)
 refine wpAny_bind ?_;unfold Builtin.SmallTypes.ownedTupleIsFree
 refine wpAny_bind (wpAny_field hz rfl (x:=.none) rfl (wpAny_pure ?_));simp only[if_true]
 refine wpAny_bind (wpAny_rule ?_);refine wpAny_bind (wpAny_field hz rfl (x:=.ref TO) rfl ?_)
 refine wpAny_bind (wpAny_setField_rec hz (by simp) λh₁ hz₁ g1=>?_)
 replace hz₁:IsZip h₁ z TI TO .ellipsis:=hz₁
 refine wpAny_bind ?_;simp only[List.zipIdx_cons,List.zipIdx_nil,List.forIn_cons,List.forIn_nil]
 refine wpAny_bind (wpAny_bind (wpAny_onRaise ?_));(show wpAny _ _ (Builtin.SmallTypes.nextOf (.ref i1)>>=_) _ _ _)
 refine wpAny_bind (af1 (n1.at λo e=>g1.extBut _ _ D.i1z e) (q1.at λo e=>g1.extBut _ _ D.l1z e) hx λh₂ n1' g2=>wpAny_pure ?_)
 have t2:IsPair h₂ TO a b:=g2.extBut _ _ D.TOi1 (g1.extBut _ _ D.TOz hTO)
 refine wpAny_bind (wpAny_seqItems t2 rfl ?_);refine wpAny_bind (wpAny_updateSeq_pair t2 λh₃ t3 g3=>?_)
 replace t3:IsPair h₃ TO x b:=t3
 refine wpAny_bind (wpAny_letGo (wpAny_pure ?_));refine wpAny_bind (wpAny_bind (wpAny_onRaise ?_));(show wpAny _ _ (Builtin.SmallTypes.nextOf (.ref i2)>>=_) _ _ _)
 refine wpAny_bind (af1 (n2.at λo e=>g3.extBut _ _ D.TOi2.symm (g2.extBut _ _ D.i12.symm (g1.extBut _ _ D.i2z e))) (q2.at λo e=>g3.extBut _ _ D.l2TO (g2.extBut _ _ D.l2i1 (g1.extBut _ _ D.l2z e))) hy λh₄ n2' g4=>wpAny_pure ?_)
 have t4:IsPair h₄ TO x b:=g4.extBut _ _ D.TOi2 t3
 refine wpAny_bind (wpAny_seqItems t4 rfl ?_);refine wpAny_bind (wpAny_updateSeq_pair t4 λh₅ t5 g5=>?_)
 replace t5:IsPair h₅ TO x y:=t5
 refine wpAny_bind (wpAny_letGo (wpAny_pure (wpAny_pure ?_)));refine wpAny_bind (wpAny_seqItems t5 rfl ?_);refine wpAny_bind (wpAny_newTuple ?_)
 have hsz:h₅.objs.size=s.heap.objs.size:=by rw[g5.1,g4.1,g3.1,g2.1,g1.1]
 have z5:IsZip h₅ z TI TO .ellipsis:=g5.extBut _ _ D.TOz.symm (g4.extBut _ _ D.i2z.symm (g3.extBut _ _ D.TOz.symm (g2.extBut _ _ D.i1z.symm hz₁)))
 have m1:SI k1 h₅ i1 l1 (i+1):=n1'.at λo e=>g5.extBut _ _ D.TOi1.symm (g4.extBut _ _ D.i12 (g3.extBut _ _ D.TOi1.symm e))
 have m2:SI k2 h₅ i2 l2 (i+1):=n2'.at λo e=>g5.extBut _ _ D.TOi2.symm e
 have zlt:z<h₅.objs.size:=Heap.lt_size z5
 (show wpAny _ _ (Builtin.SmallTypes.ownedTupleHandOut (.ref z) (.ref h₅.objs.size)>>=_) _ _ _);refine wpAny_bind ?_;unfold Builtin.SmallTypes.ownedTupleHandOut
 have z6:IsZip (h₅.push {cls:=.type "tuple",data:=.seq #[x,y]}) z TI TO .ellipsis:=Heap.get?_push_of_some _ z5
 refine wpAny_bind (wpAny_setField_rec z6 (by simp) λh₇ z7 g7=>?_)
 replace z7:IsZip h₇ z TI TO (rawInt h₅.objs.size):=z7
 refine wpAny_setField_rec z7 (by simp) λh₈ z8 g8=>?_
 replace z8:IsZip h₈ z TI TO (rawInt h₅.objs.size):=z8
 have up:∀c o,c≠z->h₅.get? c=some o->h₈.get? c=some o:=λc o c1 e=>g8.extBut _ _ c1 (g7.extBut _ _ c1 (Heap.get?_push_of_some _ e))
 have t8:IsPair h₈ h₅.objs.size x y:=g8.extBut _ _ (Nat.ne_of_gt zlt) (g7.extBut _ _ (Nat.ne_of_gt zlt) (Heap.get?_push_size _ rfl))
 rw[hsz]at z8 t8
 refine wpAny_pure ⟨_,rfl,?_⟩
 (show wpAny _ _ _ _ _ _);refine wpAny_pure ?_
 show Q (some (.ref h₅.objs.size)) _
 rw[hsz]
 refine hQ h₈ z8 (up _ _ D.TOz t5) (m1.at λo e=>up _ o D.i1z e) (m2.at λo e=>up _ o D.i2z e) t8 λc o c1 c2 c3 c4 e=>up c o c1 ?_
 exact g5.extBut _ _ c2 (g4.extBut _ _ c4 (g3.extBut _ _ c2 (g2.extBut _ _ c3 (g1.extBut _ _ c1 e))))
theorem dg3{k1 k2:Bool}{z TI TO i1 i2 l1 l2:Addr}{i:Nat}{us vs:Array Value}{a b:Value}{Q:Option Value->Shared->Prop}(hh:A.handled=none)(D:ZipApart z TI TO i1 i2 l1 l2)
 (hz:IsZip s.heap z TI TO .none)(hTI:IsPair s.heap TI (.ref i1) (.ref i2))(hTO:IsPair s.heap TO a b)(n1:SI k1 s.heap i1 l1 i)(n2:SI k2 s.heap i2 l2 i)(q1:SQ k1 s.heap l1 us)(q2:SQ k2 s.heap l2 vs)(hend:us[i]?=none\/vs[i]?=none)
 (hQ:∀h',(∀c o,c≠z->c≠TO->c≠i1->c≠i2->s.heap.get? c=some o->h'.get? c=some o)->Q none {s with heap:=h'}):
 wpAny (model prog w) A (pyNext (.ref z)) Q E s:=by
 have hT:s.TypeIs (.ref z) "zip":=⟨_,hz,rfl⟩
 unfold pyNext
 have bQ:∀h' e,(∀c o,c≠z->c≠TO->c≠i1->c≠i2->s.heap.get? c=some o->h'.get? c=some o)->(∃o,h'.get? e=some o/\o.cls=.type "StopIteration")->
  wpAny (model prog w) A (do if(<-isInstance (.ref e) (.type "StopIteration"))=true then pure none else throw (.ref e)) Q E {s with heap:=h'}:=λh' e hk ⟨o,ho,hc⟩=>
  wpAny_bind (wpAny_isInstance (T:="StopIteration") (b:=true) ⟨o,ho,hc⟩ isSubtype_stop (wpAny_pure (hQ _ hk)))
 refine wpAny_bind (wpAny_attempt (wpAny_callSpecial?_slot (name:=Str.ofString "__next__") hT F.slot_zip_next (wpAny_call_entry F.slot_zip_next hT F.entry_zip_next ?_ (F.args_zip_next_1 _))))
 (show wpAny _ _ (field (.ref z) 2>>=_) _ _ _);refine wpAny_bind (wpAny_field hz rfl (x:=.bool false) rfl ?_)
 (show wpAny _ _ (field (.ref z) 3>>=_) _ _ _);refine wpAny_bind (wpAny_field hz rfl (x:=.ref TI) rfl ?_)
 refine wpAny_bind (wpAny_seqItems hTI rfl ?_);(show wpAny _ _ (Builtin.SmallTypes.ownedTupleIsFree (.ref z)>>=_) _ _ _)
 refine wpAny_bind ?_;unfold Builtin.SmallTypes.ownedTupleIsFree
 refine wpAny_bind (wpAny_field hz rfl (x:=.none) rfl (wpAny_pure ?_));simp only[if_true]
 refine wpAny_bind (wpAny_rule ?_);refine wpAny_bind (wpAny_field hz rfl (x:=.ref TO) rfl ?_)
 refine wpAny_bind (wpAny_setField_rec hz (by simp) λh₁ hz₁ g1=>?_)
 replace hz₁:IsZip h₁ z TI TO .ellipsis:=hz₁
 refine wpAny_bind ?_;simp only[List.zipIdx_cons,List.zipIdx_nil,List.forIn_cons,List.forIn_nil]
 refine wpAny_bind (wpAny_bind (wpAny_onRaise ?_));(show wpAny _ _ (Builtin.SmallTypes.nextOf (.ref i1)>>=_) _ _ _)
 have p1:SI k1 h₁ i1 l1 i:=n1.at λo e=>g1.extBut _ _ D.i1z e
 have p2:SQ k1 h₁ l1 us:=q1.at λo e=>g1.extBut _ _ D.l1z e
 cases hx:us[i]? with
 |none=>
  refine wpAny_bind (be5 hh p1 p2 hx λh₂ e g2 he=>?_)
  obtain⟨oe,hoe,hce⟩:=he
  have z2:IsZip h₂ z TI TO .ellipsis:=g2 _ _ D.i1z.symm hz₁
  have hez:e≠z:=λq=>by subst q;rw[z2]at hoe;cases hoe;simp at hce
  refine wpAny_setField_rec z2 (by simp) λh₃ _ g3=>?_
  exact bQ h₃ e (λc o c1 _ c3 _ q=>g3.extBut _ _ c1 (g2 _ _ c3 (g1.extBut _ _ c1 q))) ⟨oe,g3.extBut _ _ hez hoe,hce⟩
 |some x=>
  have hy:vs[i]?=none:=by
   rcases hend with h|h
   . rw[hx]at h;cases h
   . exact h
  refine wpAny_bind (af1 p1 p2 hx λh₂ n1' g2=>wpAny_pure ?_)
  have t2:IsPair h₂ TO a b:=g2.extBut _ _ D.TOi1 (g1.extBut _ _ D.TOz hTO)
  refine wpAny_bind (wpAny_seqItems t2 rfl ?_);refine wpAny_bind (wpAny_updateSeq_pair t2 λh₃ t3 g3=>?_)
  refine wpAny_bind (wpAny_letGo (wpAny_pure ?_));refine wpAny_bind (wpAny_bind (wpAny_onRaise ?_));(show wpAny _ _ (Builtin.SmallTypes.nextOf (.ref i2)>>=_) _ _ _)
  refine wpAny_bind (be5 hh (n2.at λo e=>g3.extBut _ _ D.TOi2.symm (g2.extBut _ _ D.i12.symm (g1.extBut _ _ D.i2z e))) (q2.at λo e=>g3.extBut _ _ D.l2TO (g2.extBut _ _ D.l2i1 (g1.extBut _ _ D.l2z e))) hy λh₄ e g4 he=>?_)
  obtain⟨oe,hoe,hce⟩:=he
  have z4:IsZip h₄ z TI TO .ellipsis:=g4 _ _ D.i2z.symm (g3.extBut _ _ D.TOz.symm (g2.extBut _ _ D.i1z.symm hz₁))
  have hez:e≠z:=λq=>by subst q;rw[z4]at hoe;cases hoe;simp at hce
  refine wpAny_setField_rec z4 (by simp) λh₅ _ g5=>?_
  exact bQ h₅ e (λc o c1 c2 c3 c4 q=>g5.extBut _ _ c1 (g4 _ _ c4 (g3.extBut _ _ c2 (g2.extBut _ _ c3 (g1.extBut _ _ c1 q))))) ⟨oe,g5.extBut _ _ hez hoe,hce⟩
end
abbrev itO(k:Bool)(l:Addr):Obj:={cls:=.type (cond k "tuple_iterator" "list_iterator"),data:=.fields #[.ref l,.int 0 0]}
abbrev zA(k1:Bool)(h:Heap)(l1:Addr):Heap:=h.push (itO k1 l1)
abbrev zB(k1 k2:Bool)(h:Heap)(l1 l2:Addr):Heap:=(zA k1 h l1).push (itO k2 l2)
abbrev zC(k1 k2:Bool)(h:Heap)(l1 l2:Addr):Heap:=(zB k1 k2 h l1 l2).push {cls:=.type "tuple",data:=.seq #[.ref h.objs.size,.ref (zA k1 h l1).objs.size]}
abbrev zD(k1 k2:Bool)(h:Heap)(l1 l2:Addr):Heap:=(zC k1 k2 h l1 l2).push {cls:=.type "tuple",data:=.seq #[.none,.none]}
abbrev zE(k1 k2:Bool)(h:Heap)(l1 l2:Addr):Heap:=(zD k1 k2 h l1 l2).push {cls:=.type "zip",data:=.fields #[.none,.bool false,.bool false,.ref (zB k1 k2 h l1 l2).objs.size,.ref (zC k1 k2 h l1 l2).objs.size]}
theorem dl9(k1 k2:Bool)(l1 l2:Addr)(us vs:Array Value):
 Meets (Builtin.«zip.__new__» ⟨[.type "zip",.ref l1,.ref l2],[]⟩) (λ_ R s=>SQ k1 s.heap l1 us/\SQ k2 s.heap l2 vs/\R (.ok (.ret (.ref (zD k1 k2 s.heap l1 l2).objs.size))) {s with heap:=zE k1 k2 s.heap l1 l2}):=
 .of_wp λprog w A R s h=>by
  obtain⟨hp,g,d,tk,os⟩:=s
  obtain⟨hl1,hl2,h⟩:=h
  have hsub:=sub_zip
  have a1:SQ k1 (Shared.heap ⟨hp,g,d,tk,os⟩) l1 us:=hl1
  have a2:SQ k2 (Shared.heap ⟨hp.push (itO k1 l1),g,d,tk,os⟩) l2 vs:=SQ.at hl2 λo e=>Heap.get?_push_of_some _ e
  wp_walk using bv7 a1,bv7 a2
  exact⟨_,rfl,h⟩
section
variable {prog : Program} {w : World} {A : Around} {E : Value → Shared → Prop} {s : Shared}
theorem du4(hl1:SQ k1 s.heap l1 us)(hl2:SQ k2 s.heap l2 vs)
 (h:∀h',IsZip h' (s.heap.objs.size+4) (s.heap.objs.size+2) (s.heap.objs.size+3) .none->IsPair h' (s.heap.objs.size+2) (.ref s.heap.objs.size) (.ref (s.heap.objs.size+1))->IsPair h' (s.heap.objs.size+3) .none .none->
  SI k1 h' s.heap.objs.size l1 0->SI k2 h' (s.heap.objs.size+1) l2 0->(∀c o,s.heap.get? c=some o->h'.get? c=some o)->Q (.ref (s.heap.objs.size+4)) {s with heap:=h'}):
 wpAny (model prog w) A (call (.type "zip") [.ref l1,.ref l2]) Q E s:=by
 refine callType_new F.called_zip (by decide) (F.typeCall_zip_2 _ _) (F.newCall_zip_2 _ _) (λobj=>F.args_object_init_3 obj _ _) F.entry_zip_new (dl9 k1 k2 l1 l2 us vs) ⟨hl1,hl2,?_⟩
 have z1:(zA k1 s.heap l1).objs.size=s.heap.objs.size+1:=Heap.size_push ..
 have z2:(zB k1 k2 s.heap l1 l2).objs.size=s.heap.objs.size+2:=(Heap.size_push ..).trans (by rw[z1])
 have z3:(zC k1 k2 s.heap l1 l2).objs.size=s.heap.objs.size+3:=(Heap.size_push ..).trans (by rw[z2])
 have z4:(zD k1 k2 s.heap l1 l2).objs.size=s.heap.objs.size+4:=(Heap.size_push ..).trans (by rw[z3])
 have u1:∀c o,(zA k1 s.heap l1).get? c=some o->(zE k1 k2 s.heap l1 l2).get? c=some o:=λc o e=>Heap.get?_push_of_some _ (Heap.get?_push_of_some _ (Heap.get?_push_of_some _ (Heap.get?_push_of_some _ e)))
 have u2:∀c o,(zB k1 k2 s.heap l1 l2).get? c=some o->(zE k1 k2 s.heap l1 l2).get? c=some o:=λc o e=>Heap.get?_push_of_some _ (Heap.get?_push_of_some _ (Heap.get?_push_of_some _ e))
 have g5:(zE k1 k2 s.heap l1 l2).get? (zD k1 k2 s.heap l1 l2).objs.size=some _:=Heap.get?_push_size _ rfl
 have g4:(zE k1 k2 s.heap l1 l2).get? (zC k1 k2 s.heap l1 l2).objs.size=some _:=Heap.get?_push_of_some _ (Heap.get?_push_size _ rfl)
 have g3:(zE k1 k2 s.heap l1 l2).get? (zB k1 k2 s.heap l1 l2).objs.size=some _:=Heap.get?_push_of_some _ (Heap.get?_push_of_some _ (Heap.get?_push_size _ rfl))
 have g2:(zE k1 k2 s.heap l1 l2).get? (zA k1 s.heap l1).objs.size=some _:=u2 _ _ (Heap.get?_push_size _ rfl)
 have g1:(zE k1 k2 s.heap l1 l2).get? s.heap.objs.size=some _:=u1 _ _ (Heap.get?_push_size _ rfl)
 show _/\_
 rw[z2,z3,z4]at g5
 rw[z1,z2]at g3
 rw[z3]at g4
 rw[z1]at g2
 rw[z4]
 exact⟨⟨_,g5,rfl⟩,h _ g5 g3 g4 ⟨_,g1,rfl,rfl⟩ ⟨_,g2,rfl,rfl⟩ λc o x=>u1 c o (Heap.get?_push_of_some _ x)⟩
end
end L2
namespace L2
open PySem PySem.Spec PyProof.Rows
def SqK(k:Bool)(K:PySem.W.Frag)(H:Hp)(l:Addr)(xs:List V):Prop:=cond k (SqT K H l xs) (SqL K H l xs)
section
variable {X : Cx} {pins : List (Addr × Obj)} {σ : St} {H : Hp} {s : Shared} {l : Addr} {xs ys : List V}
theorem Inv.row(I:Inv X pins σ H s)(h:SqK k X.K H l xs):∃its:List Value,Vals xs its/\SQ k s.heap l its.toArray/\xs.length<=sizeLine:=by
 cases k with
 |false=>obtain⟨its,r,p,z⟩:=I.list h;exact⟨its,r,p.isList,z⟩
 |true=>obtain⟨its,r,p,z⟩:=I.tuple h;exact⟨its,r,p,z⟩
theorem Inv.row_inj(I:Inv X pins σ H s)(h:SqK k X.K H l xs)(h':SqK k X.K H l ys):xs=ys:=by
 cases k with
 |false=>exact I.list_inj h h'
 |true=>exact I.tuple_inj h h'
theorem Inv.turnedL{t':Nat}{fp:List Addr}{h':Heap}(I:Inv X pins σ H s)(k:∀b o,b∉fp->s.heap.get? b=some o->h'.get? b=some o)(hf:∀b∈fp,sC X pins H b):Inv X pins σ H {s with heap:=h',toks:=t'}:=by
 have nit:∀b u,H b=some u->b∉fp:=λb u e z=>by rw[(hf b z).1]at e;cases e
 refine I.step (g':=s.gens) (d':=s.drawn) (ch:=fp) (λb hb=>?_) (λb o _ _ hc e _=>k b o hc e) (λb o _ _ hc e _=>⟨o.slots,k b o hc e⟩) (λ_ _ _ _ n=>n)
  (λb o hc e=>⟨o,k b o hc e⟩) (λ_ _ e=>e) (λ_ _ _ e=>e) (λb ps e=>⟨#[],by rw[e];simp⟩) (λm hm=>?_) (λb u e=>?_) I.bare
 . obtain⟨_,f1,_,f3,f4,f5⟩:=hf b hb
   exact⟨f3,f1,f4,f5⟩
 . obtain⟨o,es,ep,ho,r⟩:=hm
   exact⟨o,es,ep,k _ o (λz=>(hf _ z).2.1 rfl) ho,r⟩
 . refine(I.hok b u e).stay (λc v hc q=>k c v ?_ q) (λ_ q=>q) λ_ _ q=>q
   rcases hc with z|z
   . rw[z];exact nit b u e
   . exact nit c _ z
theorem Inv.paired{h':Heap}{t':Nat}{fp:List Addr}{x y:V}{u v:Value}(I:Inv X pins σ H s)(rx:RelV x u)(ry:RelV y v)(hf:∀b∈fp,sC X pins H b)(hl:∀b∈fp,b<s.heap.objs.size)
 (hp:h'.get? s.heap.objs.size=some {cls:=.type "tuple",data:=.seq #[u,v]})(k:∀b o,b∉fp->s.heap.get? b=some o->h'.get? b=some o):
 Inv X pins σ (upd H s.heap.objs.size (.tup [x,y])) {s with heap:=h',toks:=t'}/\∀b∈fp,upd H s.heap.objs.size (.tup [x,y]) b=none:=by
 have I0:Inv X pins σ (upd H s.heap.objs.size (.tup [x,y])) {s with heap:=s.heap.push {cls:=.type "tuple",data:=.seq #[u,v]},toks:=t'}:=
  I.laid (λ_ _ q=>Heap.get?_push_of_some _ q) (Nat.le_refl _) ⟨(show(2:Nat)<=sizeLine by decide),[u,v],.cons rx (.cons ry .nil),⟨_,Heap.get?_push_size _ rfl,rfl,_,rfl⟩⟩
 have hn:∀b∈fp,upd H s.heap.objs.size (.tup [x,y]) b=none:=λb hb=>by rw[cR (Nat.ne_of_lt (hl b hb))];exact(hf b hb).1
 refine⟨I0.turnedL (fp:=fp) (h':=h') (t':=t') (λb o hb e=>?_) λb hb=>⟨hn b hb,(hf b hb).2⟩,hn⟩
 rcases Heap.get?_push_cases e with⟨rfl,rfl⟩|e
 . exact hp
 . exact k b o hb e
end
def Itz(K:PySem.W.Frag)(k1 k2:Bool)(l1 l2:Addr):It:=
 ⟨λi H=>∃xs ys x y,SqK k1 K H l1 xs/\SqK k2 K H l2 ys/\xs[i]?=some x/\ys[i]?=some y,
  λi H v H'=>∃p,H p=none/\v=.ref p/\∀xs ys,SqK k1 K H l1 xs->SqK k2 K H l2 ys->∃x y,xs[i]?=some x/\ys[i]?=some y/\H'=upd H p (.tup [x,y]),
  λi H=>∃xs ys,SqK k1 K H l1 xs/\SqK k2 K H l2 ys/\(xs.length<=i\/ys.length<=i)⟩
def Ite(K:PySem.W.Frag)(l:Addr):It:=
 ⟨λi H=>∃xs x,SqL K H l xs/\xs[i]?=some x,λi H v H'=>∃p,H p=none/\v=.ref p/\∀xs,SqL K H l xs->∃x,xs[i]?=some x/\H'=upd H p (.tup [.int i,x]),λi H=>∃xs,SqL K H l xs/\xs.length<=i⟩
theorem dv1{P:Program}{w:World}{K:PySem.W.Frag}{es:List Expr}{n:Nat}{pos:Pos}{k1 k2:Bool}{z TI TO i1 i2 l1 l2:Addr}(D:ZipApart z TI TO i1 i2 l1 l2):
 at2 P w K (.Tuple es n pos) (Itz K k1 k2 l1 l2) [z,TI,TO,i1,i2] z (λi h=>IsZip h z TI TO .none/\IsPair h TI (.ref i1) (.ref i2)/\(∃a b,IsPair h TO a b)/\SI k1 h i1 l1 i/\SI k2 h i2 l2 i) where
 mem:=by simp
 obj:=λi h st b hb=>by
  obtain⟨hz,hTI,⟨a,c,hTO⟩,n1,n2⟩:=st
  simp only[List.mem_cons,List.not_mem_nil,or_false]at hb
  rcases hb with rfl|rfl|rfl|rfl|rfl
  . exact⟨_,hz,λv e=>nomatch e⟩
  . exact⟨_,hTI,λv e=>nomatch e⟩
  . exact⟨_,hTO,λv e=>nomatch e⟩
  . obtain⟨o,e,_,d⟩:=n1;exact⟨o,e,λv q=>by rw[d]at q;cases q⟩
  . obtain⟨o,e,_,d⟩:=n2;exact⟨o,e,λv q=>by rw[d]at q;cases q⟩
 keep:=λi h h' st k=>by
  obtain⟨hz,hTI,⟨a,c,hTO⟩,n1,n2⟩:=st
  exact⟨k z (by simp) _ hz,k TI (by simp) _ hTI,⟨a,c,k TO (by simp) _ hTO⟩,n1.at λo e=>k i1 (by simp) o e,n2.at λo e=>k i2 (by simp) o e⟩
 item:=by
  intro X hP hw hK hc i pins s σ H E I hf st hg
  subst hP hw hK
  obtain⟨hz,hTI,⟨a,b,hTO⟩,n1,n2⟩:=st
  obtain⟨xs,ys,x,y,hq1,hq2,hx,hy⟩:=hg
  obtain⟨its,r1,p1,_⟩:=I.row hq1
  obtain⟨jts,r2,p2,_⟩:=I.row hq2
  obtain⟨u,hu,ru⟩:=r1.get hx
  obtain⟨v,hv,rv⟩:=r2.get hy
  refine db1 D hz hTI hTO n1 n2 p1 p2 (x:=u) (y:=v) (by simpa using hu) (by simpa using hv) λh' a1 a2 a3 a4 a5 kk=>⟨_,rfl,wpAny_letOwnedTupleGo_zip a1 λh2 b1 gg=>?_⟩
  have lts:∀b∈[z,TI,TO,i1,i2],b<s.heap.objs.size:=λb hb=>by
   simp only[List.mem_cons,List.not_mem_nil,or_false]at hb
   rcases hb with rfl|rfl|rfl|rfl|rfl
   . exact Heap.lt_size hz
   . exact Heap.lt_size hTI
   . exact Heap.lt_size hTO
   . obtain⟨o,e,_⟩:=n1;exact Heap.lt_size e
   . obtain⟨o,e,_⟩:=n2;exact Heap.lt_size e
  have zne:s.heap.objs.size≠z:=Nat.ne_of_gt (lts z (by simp))
  obtain⟨I1,hn⟩:=I.paired (t':=s.toks) ru rv hf lts (gg.extBut _ _ zne a5) (λc o hc e=>gg.extBut _ _ (λq=>hc (by simp[q])) (kk c o (λq=>hc (by simp[q])) (λq=>hc (by simp[q])) (λq=>hc (by simp[q])) (λq=>hc (by simp[q])) e))
  refine⟨.ref s.heap.objs.size,_,I1,rfl,⟨_,I.fresh,rfl,λxs' ys' q1 q2=>⟨x,y,by rw[I.row_inj q1 hq1];exact hx,by rw[I.row_inj q2 hq2];exact hy,rfl⟩⟩,⟨b1,?_,⟨u,v,?_⟩,?_,?_⟩,hn⟩
  . exact gg.extBut _ _ D.TIz (kk _ _ D.TIz D.TITO D.TIi1 D.TIi2 hTI)
  . exact gg.extBut _ _ D.TOz a2
  . exact a3.at λo e=>gg.extBut _ _ D.i1z e
  . exact a4.at λo e=>gg.extBut _ _ D.i2z e
 done:=by
  intro X hP hw hK hc i pins s σ H E I hf st hg
  subst hP hw hK
  obtain⟨hz,hTI,⟨a,b,hTO⟩,n1,n2⟩:=st
  obtain⟨xs,ys,hq1,hq2,hx⟩:=hg
  obtain⟨its,r1,p1,_⟩:=I.row hq1
  obtain⟨jts,r2,p2,_⟩:=I.row hq2
  have e1:=r1.length
  have e2:=r2.length
  exact dg3 (I.ok.hd hc) D hz hTI hTO n1 n2 p1 p2 (hx.imp (λq=>by simp;omega) (λq=>by simp;omega)) λh' kk=>⟨rfl,I.turnedL (t':=s.toks) (λc o hc e=>kk c o (λq=>hc (by simp[q])) (λq=>hc (by simp[q])) (λq=>hc (by simp[q])) (λq=>hc (by simp[q])) e) hf⟩
 self:=λ_ _ _ _ _ st h=>wpAny_pyIter_zip st.1 h
theorem da0{P:Program}{w:World}{K:PySem.W.Frag}{es:List Expr}{n:Nat}{pos:Pos}{e it l:Addr}(ne:e≠it):
 at2 P w K (.Tuple es n pos) (Ite K l) [e,it] e (λi h=>(∃old,IsEnum h e it (i:Nat) old)/\h.IsListIter it l i) where
 mem:=by simp
 obj:=λi h st b hb=>by
  obtain⟨⟨old,he⟩,n1⟩:=st
  simp only[List.mem_cons,List.not_mem_nil,or_false]at hb
  rcases hb with rfl|rfl
  . exact⟨_,he,λv q=>nomatch q⟩
  . obtain⟨o,e,_,d⟩:=n1;exact⟨o,e,λv q=>by rw[d]at q;cases q⟩
 keep:=λi h h' st k=>by
  obtain⟨⟨old,he⟩,n1⟩:=st
  exact⟨⟨old,k e (by simp) _ he⟩,n1.at λo q=>k it (by simp) o q⟩
 item:=by
  intro X hP hw hK hc i pins s σ H E I hf st hg
  subst hP hw hK
  obtain⟨⟨old,he⟩,n1⟩:=st
  obtain⟨xs,x,hq,hx⟩:=hg
  obtain⟨its,r1,p1,_⟩:=I.list hq
  obtain⟨u,hu,ru⟩:=r1.get hx
  refine wpAny_pyNext_enum_item he n1 p1.isList (x:=u) (by simpa using hu) ne λh' a1 a2 a3 a4 kk=>⟨_,rfl,wpAny_letOwnedTupleGo_enum a1 λh2 b1 gg=>?_⟩
  have lts:∀b∈[e,it],b<s.heap.objs.size:=λb hb=>by
   simp only[List.mem_cons,List.not_mem_nil,or_false]at hb
   rcases hb with rfl|rfl
   . exact Heap.lt_size he
   . obtain⟨o,e,_⟩:=n1;exact Heap.lt_size e
  have zne:s.heap.objs.size≠e:=Nat.ne_of_gt (lts e (by simp))
  obtain⟨I1,hn⟩:=I.paired (t':=s.toks+1) (x:=.int (i:Nat)) (u:=.int (i:Nat) s.toks) ⟨_,rfl⟩ ru hf lts (gg.extBut _ _ zne a3) (λc o hc q=>gg.extBut _ _ (λz=>hc (by simp[z])) (kk c o (λz=>hc (by simp[z])) (λz=>hc (by simp[z])) q))
  exact⟨.ref s.heap.objs.size,_,I1,rfl,⟨_,I.fresh,rfl,λxs' q1=>⟨x,by rw[I.list_inj q1 hq];exact hx,rfl⟩⟩,⟨⟨u,b1⟩,a2.at λo q=>gg.extBut _ _ (Ne.symm ne) q⟩,hn⟩
 done:=by
  intro X hP hw hK hc i pins s σ H E I hf st hg
  subst hP hw hK
  obtain⟨⟨old,he⟩,n1⟩:=st
  obtain⟨xs,hq,hx⟩:=hg
  obtain⟨its,r1,p1,_⟩:=I.list hq
  have e1:=r1.length
  obtain⟨f0,f1,f2,f3,f4,f5⟩:=hf it (by simp)
  exact wpAny_pyNext_enum_end (I.ok.hd hc) he n1 p1.isList (by simp;omega) λh' eb=>⟨rfl,I.turned (t':=s.toks) (λb o hb q=>eb b o hb q) f0 f1 f3 f4 f5⟩
 self:=λ_ _ _ _ _ st h=>by
  obtain⟨⟨old,he⟩,_⟩:=st
  exact wpAny_pyIter_enum he h
theorem dh1:bootBuiltins "zip"=some (.type "zip"):=by decide+kernel
theorem cf8:bootBuiltins "enumerate"=some (.type "enumerate"):=by decide+kernel
section
variable {X : Cx}
def dq2(K:PySem.W.Frag)(ta:TA):TI:=λσ H R=>ta σ H λvs H1=>∃k1 k2 l1 l2,vs=[.ref l1,.ref l2]/\(∃xs,SqK k1 K H1 l1 xs)/\(∃ys,SqK k2 K H1 l2 ys)/\R (Itz K k1 k2 l1 l2) H1
def ch4(K:PySem.W.Frag)(ta:TA):TI:=λσ H R=>ta σ H λvs H1=>∃l,vs=[.ref l]/\(∃xs,SqL K H1 l xs)/\R (Ite K l) H1
theorem eh1{es:List Expr}{n:Nat}{tpos:Pos}{a b:Expr}{ta:TA}{p pos:Pos}(hg:Gl X "zip")(hm:X.mg "zip"=none)(ha:PA X [a,b] ta)(hs:starEach [a,b] X.env=[(false,eval a X.env),(false,eval b X.env)]:=by rfl)(hs2:starEach [b] X.env=[(false,eval b X.env)]:=by rfl):
 PI X (.Tuple es n tpos) (.Call (.Name "zip" p) [a,b] [] pos) (dq2 X.K ta):=by
 intro pins s σ H R I h
 refine Call_ (nI I hg hm dh1 (PyProof.Rows.callWith_type1 (cH (ha pins s σ H _ I h) λus s1 ⟨vs,H1,I1,r1,q1⟩=>?_) (by rw[hs,hs2]) (by rw[hs2];rfl)))
 obtain⟨k1,k2,l1,l2,e,⟨xs,hq1⟩,⟨ys,hq2⟩,q⟩:=q1
 subst e
 cases r1 with
 |cons r rr=>
  cases rr with
  |cons r' rr=>
   cases rr
   cases r
   cases r'
   obtain⟨its,r1,p1,_⟩:=I1.row hq1
   obtain⟨jts,r2,p2,_⟩:=I1.row hq2
   refine du4 p1 p2 λh' a1 a2 a3 a4 a5 kk=>wpAny_pyIter_zip a1 ?_
   have c1:l1<s1.heap.objs.size:=by obtain⟨_,z,_⟩:=p1;exact Heap.lt_size z
   have c2:l2<s1.heap.objs.size:=by obtain⟨_,z,_⟩:=p2;exact Heap.lt_size z
   refine⟨_,_,_,_,H1,rfl,I1.kept (t':=s1.toks) kk,dv1 (zipApart_new c1 c2),⟨a1,a2,⟨_,_,a3⟩,a4,a5⟩,λc hc=>?_,q⟩
   have le:s1.heap.objs.size<=c:=by
    simp only[List.mem_cons,List.not_mem_nil,or_false]at hc
    rcases hc with rfl|rfl|rfl|rfl|rfl<;>omega
   exact I1.fpOk le (I1.hok.fresh le)
theorem dc9{es:List Expr}{n:Nat}{tpos:Pos}{a:Expr}{ta:TA}{p pos:Pos}(hg:Gl X "enumerate")(hm:X.mg "enumerate"=none)(ha:PA X [a] ta)(hs:starEach [a] X.env=[(false,eval a X.env)]:=by rfl):
 PI X (.Tuple es n tpos) (.Call (.Name "enumerate" p) [a] [] pos) (ch4 X.K ta):=by
 intro pins s σ H R I h
 refine Call_ (nI I hg hm cf8 (PyProof.Rows.callWith_type1 (cH (ha pins s σ H _ I h) λus s1 ⟨vs,H1,I1,r1,q1⟩=>?_) hs rfl))
 obtain⟨l,e,⟨xs,hq1⟩,q⟩:=q1
 subst e
 cases r1 with
 |cons r rr=>
  cases rr
  cases r
  obtain⟨its,r1,p1,_⟩:=I1.list hq1
  refine call_enumerate_list p1.isList λh' a1 a2 a3 kk=>wpAny_pyIter_enum a1 ?_
  refine⟨_,_,_,_,H1,rfl,I1.kept (t':=s1.toks) kk,da0 (e:=s1.heap.objs.size+1) (it:=s1.heap.objs.size) (Nat.succ_ne_self _),⟨⟨_,a1⟩,a2⟩,λc hc=>?_,q⟩
  have le:s1.heap.objs.size<=c:=by
   simp only[List.mem_cons,List.not_mem_nil,or_false]at hc
   rcases hc with rfl|rfl<;>omega
  exact I1.fpOk le (I1.hok.fresh le)
end
end L2
namespace L2
open PySem PySem.Spec PyProof.Rows
def sT(σ:List Str)(x:Str):List Str:=if σ.any (· ==x)=true then σ else σ++[x]
def lP(val:Nat->Str)(i:Nat):List Str:=((List.range i).map val).foldl sT []
theorem ab2(val:Nat->Str)(i:Nat):lP val (i+1)=sT (lP val i) (val i):=by
 unfold lP
 rw[List.range_succ,List.map_append,List.foldl_append]
 rfl
theorem bf7(val:Nat->Str):∀i,(lP val i).length<=i
 |0=>Nat.le_refl _
 |i+1=>by
  rw[ab2]
  unfold sT
  have ih:=bf7 val i
  split
  . omega
  . simp;omega
theorem cn8(σ:List Str)(v k:Str):(sT σ v).any (· ==k)=(σ.any (· ==k)||decide (k=v)):=by
 unfold sT
 by_cases h:σ.any (· ==v)=true
 . rw[if_pos h]
   by_cases e:k=v
   . subst e
     rw[h]
     simp
   . simp[e]
 . rw[if_neg h,List.any_append]
   by_cases e:k=v
   . subst e
     simp
   . have hb:(v==k)=false:=by simpa using(λh':v=k=>e h'.symm)
     simp[hb,e]
theorem cl9(σ:List Str)(v:Str):(sT σ v).length=if σ.any (· ==v)then σ.length else σ.length+1:=by
 unfold sT
 split<;>simp
section
variable {prog : Program} {w : World} {A : Around} {R : Result → Shared → Prop} {I : Addr} {fp wr : List Addr} {G : Array GenState → Array GenState → Prop} {n : Nat} {P : Nat → Value → Prop} {St : Nat → Shared → Prop}
theorem dr3(W:WalksS prog w A.in1 I fp wr G n P St)(S:Addr)(hS:S∉fp)(val:Nat->Str)(hval:∀i v,P i v->∃t,v=.str (val i) t)(hb:n+1<scanBound):
 ∀(k i:Nat)(s:Shared),n-i=k->i<=n->St i s->s.heap.SetOf (strKind prog w) S (λx=>(lP val i).any (· ==x)) (lP val i).length->
  (∀s',Moved (S::wr) G s s'->s'.heap.SetOf (strKind prog w) S (λx=>(lP val n).any (· ==x)) (lP val n).length->R (.ok (.ret .none)) s')->
  codeAny (model prog w) A (.builtin "set.update.loop" ⟨[.ref S,.ref I],[]⟩) R s:=by
 have hw:S∉wr:=λh=>hS (W.sub _ h)
 have sub:∀b∈wr,b∈S::wr:=λb hb=>List.mem_cons_of_mem _ hb
 intro k
 induction k with
 |zero=>
  intro i s hk hi st hs hR
  obtain rfl:i=n:=by omega
  refine codeAny_builtin PyProof.Rows.F.entry_set_update_loop ?_;rw[Around.under_plainId PyProof.Rows.F.plain_set_update_loop _]
  (show wpAny _ A.in1 (pyNext (.ref I)>>=_) _ _ s);refine wpAny_bind (W.done s _ _ st λs' hm=>?_)
  (show wpAny _ A.in1 (ret Value.none) _ _ s');refine wpAny_pure (hR s' (hm.mono sub) ?_)
  obtain⟨o,es,ep,t,ho,r⟩:=hs
  exact⟨o,es,ep,t,hm.heap S _ hw ho,r⟩
 |succ k ih=>
  intro i s hk hi st hs hR
  have lt:i<n:=by omega
  refine codeAny_builtin PyProof.Rows.F.entry_set_update_loop ?_;rw[Around.under_plainId PyProof.Rows.F.plain_set_update_loop _]
  (show wpAny _ A.in1 (pyNext (.ref I)>>=_) _ _ s);refine wpAny_bind (W.item i s _ _ lt st λv s' hP st' hm=>?_)
  obtain⟨t,rfl⟩:=hval i v hP
  have hs':s'.heap.SetOf (strKind prog w) S (λx=>(lP val i).any (· ==x)) (lP val i).length:=by
   obtain⟨o,es,ep,tb,ho,r⟩:=hs
   exact⟨o,es,ep,tb,hm.heap S _ hw ho,r⟩
  (show wpAny _ A.in1 (holding [Value.str (val i) t] (setAdd S (.str (val i) t))>>=_) _ _ s');refine wpAny_bind (wpAny_holding ?_);unfold setAdd
  refine wpAny_holding ?_;refine wpAny_bind ((strKind prog w).pyHash (k:=val i) (strKind_is _ _ _ _) ?_)
  have room:(lP val i).length+1<scanBound:=by have:=bf7 val i;omega
  refine wpAny_setAddHashed_of (knd:=strKind prog w) (s:={s' with toks:=s'.toks+1}) (strKind_is _ _ _ _) rfl hs' room λh' hsb hS2=>?_
  have hi':h'.SetOf (strKind prog w) S (λx=>(lP val (i+1)).any (· ==x)) (lP val (i+1)).length:=SetOf_congr hS2 (λx=>by rw[ab2,cn8]) (by rw[ab2,cl9])
  refine wpAny_pure ⟨plainId_quiet PyProof.Rows.F.plain_set_update_loop _,ih (i+1) _ (by omega) lt (W.frame _ s' _ _ st' (Nat.le_succ _) λb hb o e=>?_) hi' λs'' hm'' hS''=>?_⟩
  . exact(hsb.2 b (λh:b=S=>hS (by rw[<-h];exact hb))).trans e
  . refine hR s'' (Moved.trans W.gtrans ((hm.mono sub).then_heap (Nat.le_succ _) λb o hb e=>?_) hm'') hS''
    exact(hsb.2 b (λh:b=S=>hb (by rw[h];exact List.mem_cons_self))).trans e
end
section
variable {prog : Program} {w : World} {A : Around} {E : Value → Shared → Prop} {s : Shared}
abbrev lL(led:Bool):Obj:={cls:=.type "set",dict:=none,data:=.set #[] 0 (.fresh 0 0 led)}
set_option maxHeartbeats 3200000 in
theorem bj3(hh:A.handled=none)(hl:s.heap.IsList l us)(hv:∀(i:Nat) v,us[i]?=some v->∃t,v=.str (val i) t)(hb:us.size+1<scanBound)
 (h:∀(h':Heap)(tk:Nat),h'.SetOf (strKind prog w) s.heap.objs.size (λx=>(lP val us.size).any (· ==x)) (lP val us.size).length->(∀b o,b<s.heap.objs.size->s.heap.get? b=some o->h'.get? b=some o)->Q (.ref s.heap.objs.size) {s with heap:=h',toks:=tk}):
 wpAny (model prog w) A (call (.type "set") [.ref l]) Q E s:=by
 obtain⟨c,tl,hmro⟩:=PySem.F.called_set.mro
 have hmade:=PySem.F.called_set.made
 have hsub:=PySem.F.called_set.sub
 refine wpAny_call (codeAny_of_tree ?_);(show wpAny _ _ (callAny (.type "set") _) _ _ _)
 refine wpAny_pure ⟨Code.quiet_builtin _ (by decide+kernel),codeAny_builtin PySem.F.entry_type_call ?_⟩;rw[Around.under_plain (weight_type_call_type "set" [.ref l] []) rfl]
 have h1:=PySem.F.called_set.notType
 have h2:=PySem.F.called_set.canCreate
 have hct:=PySem.F.typeCall_set_1 (.ref l)
 (repeat(any_goals(first|assumption|wp_step)))
 refine codeAny_mono (code_set_new_1 (.ref l) (E:=E) (Q₁:=λobj s₁=>∃led:Bool,obj=.ref s.heap.objs.size/\s₁={s with heap:=s.heap.push (lL led)}) λled=>⟨led,rfl,rfl⟩) λr s₁ hr=>?_
 cases r with
 |error e=>exact hr
 |ok fl=>
  cases fl with
  |ret obj=>
   obtain⟨led,rfl,rfl⟩:=hr
   have hS:(s.heap.push (lL led)).get? s.heap.objs.size=some (lL led):=Heap.get?_push_size _ rfl
   have hT:Shared.TypeIs {s with heap:=s.heap.push (lL led)} (.ref s.heap.objs.size) "set":=⟨_,hS,rfl⟩
   have hli:=PySem.F.called_set.init.lookup
   have hbi:=PySem.F.called_set.init.bind (.ref s.heap.objs.size)
   (repeat(any_goals(first|assumption|wp_step)))
   refine codeAny_mono (codeAny_call_builtin (R:=wants (λr s₂=>r=.none/\∃h' tk,s₂={s with heap:=h',toks:=tk}/\h'.SetOf (strKind prog w) s.heap.objs.size (λx=>(lP val us.size).any (· ==x)) (lP val us.size).length/\
    (∀b o,b<s.heap.objs.size->s.heap.get? b=some o->h'.get? b=some o)) E) PySem.F.called_set.init.plain PySem.F.entry_set_init (check_set_init_1 hT ?_)) λr₂ s₂ hr₂=>?_
   . obtain⟨ol,hol,hcl,nl,hdl⟩:=hl
     obtain⟨ocls,odict,odata,oslots⟩:=ol
     simp only at hcl hdl;subst hcl;subst hdl
     have hol':(s.heap.push (lL led)).get? l=some {cls:=.type "list",dict:=odict,data:=.seq us nl,slots:=oslots}:=Heap.get?_push_of_some _ hol
     have hsls:=PySem.F.sub_list_set
     have hslf:=PySem.F.sub_list_frozenset
     have hne:(Value.type "list"==Value.type "dict")=false:=by decide
     have hl1:(s.heap.push (lL led)).IsList l us:=⟨_,hol',rfl,nl,rfl⟩
     unfold Builtin.«set.__init__» noKeywords Builtin.Frozenset.updateFrom;generalize hPI:pyIter=PI;wp_walk;subst hPI
     refine wpAny_pyIter_list hl1 ?_;refine wpAny_bind (wpAny_runValue ?_)
     have hlS:l<s.heap.objs.size:=Heap.lt_size hol
     have hh3:A.in1.in1.in1.handled=none:=by simp[hh]
     have hneI:l≠(s.heap.push (lL led)).objs.size:=by rw[Heap.size_push];exact Nat.ne_of_lt (Nat.lt_succ_of_lt hlS)
     have hSf:s.heap.objs.size∉[(s.heap.push (lL led)).objs.size,l]:=by
      rw[Heap.size_push];simp only[List.mem_cons,List.not_mem_nil,or_false,not_or];exact⟨Nat.ne_of_lt (Nat.lt_succ_self _),Nat.ne_of_gt hlS⟩
     refine dr3 ((Walks.list hh3 _ l hneI us).toS) s.heap.objs.size hSf val hv hb (us.size-0) 0 _ (by omega) (Nat.zero_le _) ⟨⟨_,Heap.get?_push_size _ rfl,rfl,rfl⟩,(hl1.push _)⟩ ?hS0 ?hR
     case hS0=>exact SetOf_congr ((setObjOf_fresh (knd:=strKind prog w) led).setOf (Heap.get?_push_of_some _ hS) (by unfold scanBound;omega)) (λ_=>rfl) rfl
     case hR=>
      intro s' hm hS'
      obtain⟨h',g',d',tk',os'⟩:=s'
      obtain rfl:g'=s.gens:=hm.gens
      obtain rfl:d'=s.drawn:=hm.drawn
      obtain rfl:os'=s.os:=hm.os
      (show wpAny _ _ _ _ _ _);refine wpAny_pure ?_;(show wpAny _ _ (ret Value.none) _ _ _)
      refine wpAny_pure ⟨rfl,h',tk',rfl,hS',λb o hb e=>?_⟩
      have hb2:b≠(s.heap.push (lL led)).objs.size:=by rw[Heap.size_push];exact Nat.ne_of_lt (Nat.lt_succ_of_lt hb)
      exact hm.heap b o (by simp only[List.mem_cons,List.not_mem_nil,or_false,not_or];exact⟨Nat.ne_of_lt hb,hb2⟩) (Heap.get?_push_of_some _ (Heap.get?_push_of_some _ e))
   . cases r₂ with
     |error e=>exact hr₂
     |ok fl₂=>
      cases fl₂ with
      |ret r=>
       obtain⟨rfl,h',tk,rfl,hS',hk'⟩:=hr₂
       (repeat(any_goals(first|assumption|wp_step)))
       exact h _ _ hS' hk'
      |_=>exact hr₂
  |_=>exact hr
end
end L2
namespace TL
open PySem PySem.Spec PyProof.Rows L2
inductive T where
 |non|bl (b:Bool)|int (i:Int)|str (x:Str)|ty (n:String)
 |lst (o:Bool) (xs:List T)
 |tup (xs:List T)
 |ins (o:Bool) (c:Str) (ns:List Str) (xs:List T)
mutual
def frz:T->T
 |.lst _ xs=>.lst false (frzs xs)
 |.tup xs=>.tup (frzs xs)
 |.ins _ c ns xs=>.ins false c ns (frzs xs)
 |.non=>.non
 |.bl b=>.bl b
 |.int i=>.int i
 |.str x=>.str x
 |.ty n=>.ty n
def frzs:List T->List T
 |[]=>[]
 |t::ts=>frz t::frzs ts
end
mutual
def bS:T->Bool
 |.lst o xs=>!o&&bA xs
 |.tup xs=>bA xs
 |.ins o _ _ xs=>!o&&bA xs
 |.non=>true
 |.bl _=>true
 |.int _=>true
 |.str _=>true
 |.ty _=>true
def bA:List T->Bool
 |[]=>true
 |t::ts=>bS t&&bA ts
end
mutual
def cG:T->Bool
 |.lst o xs=>o&&cT xs
 |.tup xs=>cT xs
 |.ins o _ _ xs=>o&&cT xs
 |.non=>true
 |.bl _=>true
 |.int _=>true
 |.str _=>true
 |.ty _=>true
def cT:List T->Bool
 |[]=>true
 |t::ts=>cG t&&cT ts
end
theorem kF:∀ts,bA ts=ts.all bS
 |[]=>rfl
 |t::ts=>by simp[bA,kF ts]
theorem wI:∀ts,cT ts=ts.all cG
 |[]=>rfl
 |t::ts=>by simp[cT,wI ts]
mutual
theorem ba2:∀t,bS t=true->frz t=t
 |.lst o xs,h=>by
  simp only[bS,Bool.and_eq_true,Bool.not_eq_true']at h
  rw[frz,gB xs h.2,h.1]
 |.tup xs,h=>by
  simp only[bS]at h
  rw[frz,gB xs h]
 |.ins o _ _ xs,h=>by
  simp only[bS,Bool.and_eq_true,Bool.not_eq_true']at h
  rw[frz,gB xs h.2,h.1]
 |.non,_=>rfl
 |.bl _,_=>rfl
 |.int _,_=>rfl
 |.str _,_=>rfl
 |.ty _,_=>rfl
theorem gB:∀ts,bA ts=true->frzs ts=ts
 |[],_=>rfl
 |t::ts,h=>by
  simp only[bA,Bool.and_eq_true]at h
  rw[frzs,ba2 t h.1,gB ts h.2]
end
structure Exc where
 c:Str
 ns:List Str
 xs:List T
inductive Res (α:Type) where
 |ok (a:α)|ex (x:Exc)|no
def Res.bind{α β:Type}:Res α->(α->Res β)->Res β
 |.ok a,f=>f a
 |.ex x,_=>.ex x
 |.no,_=>.no
abbrev Fr:=List (Option T)
inductive bP where
 |nx (ρ:Fr)|rt (t:T)|rm (ρ:Fr) (t:T)|bk (ρ:Fr)|ct (ρ:Fr)|ex (x:Exc)|no
def rC:HO->Bool
 |.tup _=>true
 |.frz _ _=>true
 |_=>false
def FzL(K:PySem.W.Frag)(H:Hp)(Z:Addr->Prop)(a:Addr)(xs:List V):Prop:=
 (H a=some (.lst xs)/\Z a)\/(∃o,H a=some (.frz o (.lst xs)))\/
  ∃(o:Obj)(its:Array Value)(n:Nat),K.lookup a=some o/\o.cls=.type "list"/\o.dict=none/\o.slots=#[]/\o.data=.seq its n/\its.size<=sizeLine/\Vals xs its.toList
theorem FzL.sqS{K:PySem.W.Frag}{H:Hp}{Z:Addr->Prop}{a:Addr}{xs:List V}(h:FzL K H Z a xs):SqS K H a xs:=by
 rcases h with⟨h,_⟩|⟨o,h⟩|h
 . exact .inl (.inl h)
 . exact .inl (.inr ⟨o,h⟩)
 . exact .inr h
theorem FzL.sq{K:PySem.W.Frag}{H:Hp}{Z:Addr->Prop}{a:Addr}{xs:List V}(h:FzL K H Z a xs):SqL K H a xs:=h.sqS.sq
section
variable (K : PySem.W.Frag) (cn : Str → Option Addr)
mutual
def Rep(H:Hp)(Z:Addr->Prop):T->V->List Addr->Prop
 |.non,v,A=>v=.non/\A=[]
 |.bl b,v,A=>v=.bl b/\A=[]
 |.int i,v,A=>v=.int i/\A=[]
 |.str x,v,A=>v=.str x/\A=[]
 |.ty n,v,A=>v=.ty n/\A=[]
 |.lst true ts,v,A=>∃a vs B,v=.ref a/\A=a::B/\H a=some (.lst vs)/\Reps H Z ts vs B
 |.lst false ts,v,A=>∃a vs,v=.ref a/\A=[]/\FzL K H Z a vs/\Reps H Z ts vs []
 |.tup ts,v,A=>∃a vs,v=.ref a/\SqT K H a vs/\Reps H Z ts vs A
 |.ins true c ns ts,v,A=>∃a C dx vs B,v=.ref a/\A=a::B/\cn c=some C/\H a=some (.ins C dx (ns.zip vs))/\ns.length=vs.length/\Reps H Z ts vs B
 |.ins false c ns ts,v,A=>∃a C dx vs,v=.ref a/\A=[]/\cn c=some C/\H a=some (.ins C dx (ns.zip vs))/\Z a/\ns.length=vs.length/\Reps H Z ts vs []
def Reps(H:Hp)(Z:Addr->Prop):List T->List V->List Addr->Prop
 |[],vs,A=>vs=[]/\A=[]
 |t::ts,vs,A=>∃v r B C,vs=v::r/\A=B++C/\Rep H Z t v B/\Reps H Z ts r C
end
end
section
variable {K : PySem.W.Frag} {cn : Str → Option Addr} {H H' : Hp} {Z Z' : Addr → Prop}
theorem FzL.keep(h:FzL K H Z a xs)(hk:∀a o,H a=some o->(Z a\/rC o=true)->H' a=some o)(hz:∀a,Z a->Z' a):FzL K H' Z' a xs:=by
 rcases h with⟨h,z⟩|⟨o,h⟩|h
 . exact .inl ⟨hk _ _ h (.inl z),hz _ z⟩
 . exact .inr (.inl ⟨o,hk _ _ h (.inr rfl)⟩)
 . exact .inr (.inr h)
theorem SqT.keep(h:SqT K H a xs)(hk:∀a o,H a=some o->rC o=true->H' a=some o):SqT K H' a xs:=by
 rcases h with(h|⟨o,h⟩)|h
 . exact .inl (.inl (hk _ _ h rfl))
 . exact .inl (.inr ⟨o,hk _ _ h rfl⟩)
 . exact .inr h
mutual
theorem Rep.keep:∀(t:T){v:V}{A:List Addr},Rep K cn H Z t v A->(∀a o,H a=some o->(a∈A\/Z a\/rC o=true)->H' a=some o)->(∀a,Z a->Z' a)->Rep K cn H' Z' t v A
 |.non,_,_,h,_,_=>by simpa only[Rep]using h
 |.bl _,_,_,h,_,_=>by simpa only[Rep]using h
 |.int _,_,_,h,_,_=>by simpa only[Rep]using h
 |.str _,_,_,h,_,_=>by simpa only[Rep]using h
 |.ty _,_,_,h,_,_=>by simpa only[Rep]using h
 |.lst true ts,v,A,h,hk,hz=>by
  simp only[Rep]at h⊢
  obtain⟨a,vs,B,rfl,rfl,e,r⟩:=h
  exact⟨a,vs,B,rfl,rfl,hk a _ e (.inl List.mem_cons_self),Reps.keep ts r (λb o q c=>hk b o q (c.imp_left (List.mem_cons_of_mem _))) hz⟩
 |.lst false ts,v,A,h,hk,hz=>by
  simp only[Rep]at h⊢
  obtain⟨a,vs,rfl,rfl,e,r⟩:=h
  exact⟨a,vs,rfl,rfl,e.keep (λb o q c=>hk b o q (.inr c)) hz,Reps.keep ts r hk hz⟩
 |.tup ts,v,A,h,hk,hz=>by
  simp only[Rep]at h⊢
  obtain⟨a,vs,rfl,e,r⟩:=h
  exact⟨a,vs,rfl,SqT.keep e (λb o q c=>hk b o q (.inr (.inr c))),Reps.keep ts r hk hz⟩
 |.ins true c ns ts,v,A,h,hk,hz=>by
  simp only[Rep]at h⊢
  obtain⟨a,C,dx,vs,B,rfl,rfl,hc,e,l,r⟩:=h
  exact⟨a,C,dx,vs,B,rfl,rfl,hc,hk a _ e (.inl List.mem_cons_self),l,Reps.keep ts r (λb o q c=>hk b o q (c.imp_left (List.mem_cons_of_mem _))) hz⟩
 |.ins false c ns ts,v,A,h,hk,hz=>by
  simp only[Rep]at h⊢
  obtain⟨a,C,dx,vs,rfl,rfl,hc,e,z,l,r⟩:=h
  exact⟨a,C,dx,vs,rfl,rfl,hc,hk a _ e (.inr (.inl z)),hz a z,l,Reps.keep ts r hk hz⟩
theorem Reps.keep:∀(ts:List T){vs:List V}{A:List Addr},Reps K cn H Z ts vs A->(∀a o,H a=some o->(a∈A\/Z a\/rC o=true)->H' a=some o)->(∀a,Z a->Z' a)->Reps K cn H' Z' ts vs A
 |[],_,_,h,_,_=>by simpa only[Reps]using h
 |t::ts,vs,A,h,hk,hz=>by
  simp only[Reps]at h⊢
  obtain⟨v,r,B,C,rfl,rfl,h1,h2⟩:=h
  exact⟨v,r,B,C,rfl,rfl,Rep.keep t h1 (λb o q c=>hk b o q (c.imp_left (List.mem_append_left _))) hz,Reps.keep ts h2 (λb o q c=>hk b o q (c.imp_left (List.mem_append_right _))) hz⟩
end
theorem Rep.same(h:Rep K cn H Z t v A)(s:Same H H')(hz:∀a,Z a->Z' a):Rep K cn H' Z' t v A:=Rep.keep t h (λa o q _=>s a o q) hz
theorem Reps.same(h:Reps K cn H Z t v A)(s:Same H H')(hz:∀a,Z a->Z' a):Reps K cn H' Z' t v A:=Reps.keep t h (λa o q _=>s a o q) hz
theorem cz8(h:H a=some o)(h':H b=some o')(i:rC o=true)(i':rC o'=false):a≠b:=by
 rintro rfl
 rw[h]at h'
 cases h'
 rw[i]at i'
 cases i'
theorem Rep.upd(h:Rep K cn H Z t v A)(ha:H a=some o)(hi:rC o=false)(hA:a∉A)(hZ:¬Z a):Rep K cn (L2.upd H a o') Z t v A:=
 Rep.keep t h (λb u q c=>by
  rw[cR]
  . exact q
  . rcases c with c|c|c
    . rintro rfl;exact hA c
    . rintro rfl;exact hZ c
    . exact cz8 q ha c hi) (λ_ z=>z)
theorem Reps.upd(h:Reps K cn H Z t v A)(ha:H a=some o)(hi:rC o=false)(hA:a∉A)(hZ:¬Z a):Reps K cn (L2.upd H a o') Z t v A:=
 Reps.keep t h (λb u q c=>by
  rw[cR]
  . exact q
  . rcases c with c|c|c
    . rintro rfl;exact hA c
    . rintro rfl;exact hZ c
    . exact cz8 q ha c hi) (λ_ z=>z)
mutual
theorem Rep.frz:∀(t:T){v:V}{A:List Addr},Rep K cn H Z t v A->(∀a,Z a->Z' a)->(∀a∈A,Z' a)->Rep K cn H Z' (frz t) v []
 |.non,_,_,h,_,_=>by simp only[Rep,TL.frz]at h⊢;exact⟨h.1,trivial⟩
 |.bl _,_,_,h,_,_=>by simp only[Rep,TL.frz]at h⊢;exact⟨h.1,trivial⟩
 |.int _,_,_,h,_,_=>by simp only[Rep,TL.frz]at h⊢;exact⟨h.1,trivial⟩
 |.str _,_,_,h,_,_=>by simp only[Rep,TL.frz]at h⊢;exact⟨h.1,trivial⟩
 |.ty _,_,_,h,_,_=>by simp only[Rep,TL.frz]at h⊢;exact⟨h.1,trivial⟩
 |.lst true ts,v,A,h,hz,hA=>by
  simp only[Rep,TL.frz]at h⊢
  obtain⟨a,vs,B,rfl,rfl,e,r⟩:=h
  exact⟨a,vs,rfl,trivial,.inl ⟨e,hA a List.mem_cons_self⟩,Reps.frz ts r hz λb hb=>hA b (List.mem_cons_of_mem _ hb)⟩
 |.lst false ts,v,A,h,hz,hA=>by
  simp only[Rep,TL.frz]at h⊢
  obtain⟨a,vs,rfl,rfl,e,r⟩:=h
  exact⟨a,vs,rfl,trivial,e.keep (λ_ _ q _=>q) hz,Reps.frz ts r hz hA⟩
 |.tup ts,v,A,h,hz,hA=>by
  simp only[Rep,TL.frz]at h⊢
  obtain⟨a,vs,rfl,e,r⟩:=h
  exact⟨a,vs,rfl,e,Reps.frz ts r hz hA⟩
 |.ins true c ns ts,v,A,h,hz,hA=>by
  simp only[Rep,TL.frz]at h⊢
  obtain⟨a,C,dx,vs,B,rfl,rfl,hc,e,l,r⟩:=h
  exact⟨a,C,dx,vs,rfl,trivial,hc,e,hA a List.mem_cons_self,l,Reps.frz ts r hz λb hb=>hA b (List.mem_cons_of_mem _ hb)⟩
 |.ins false c ns ts,v,A,h,hz,hA=>by
  simp only[Rep,TL.frz]at h⊢
  obtain⟨a,C,dx,vs,rfl,rfl,hc,e,z,l,r⟩:=h
  exact⟨a,C,dx,vs,rfl,trivial,hc,e,hz a z,l,Reps.frz ts r hz hA⟩
theorem Reps.frz:∀(ts:List T){vs:List V}{A:List Addr},Reps K cn H Z ts vs A->(∀a,Z a->Z' a)->(∀a∈A,Z' a)->Reps K cn H Z' (frzs ts) vs []
 |[],_,_,h,_,_=>by simp only[Reps,TL.frzs]at h⊢;exact⟨h.1,trivial⟩
 |t::ts,vs,A,h,hz,hA=>by
  simp only[Reps,TL.frzs]at h⊢
  obtain⟨v,r,B,C,rfl,rfl,h1,h2⟩:=h
  exact⟨v,r,[],[],rfl,rfl,Rep.frz t h1 hz λb hb=>hA b (List.mem_append_left _ hb),Reps.frz ts h2 hz λb hb=>hA b (List.mem_append_right _ hb)⟩
end
mutual
theorem Rep.any:∀(t:T){v:V}{A:List Addr},cG t=true->Rep K cn H Z t v A->Rep K cn H Z' t v A
 |.non,_,_,_,h=>by simpa only[Rep]using h
 |.bl _,_,_,_,h=>by simpa only[Rep]using h
 |.int _,_,_,_,h=>by simpa only[Rep]using h
 |.str _,_,_,_,h=>by simpa only[Rep]using h
 |.ty _,_,_,_,h=>by simpa only[Rep]using h
 |.lst true ts,v,A,c,h=>by
  simp only[Rep,cG,Bool.true_and]at h c⊢
  obtain⟨a,vs,B,rfl,rfl,e,r⟩:=h
  exact⟨a,vs,B,rfl,rfl,e,Reps.any ts c r⟩
 |.lst false ts,v,A,c,h=>by simp[cG]at c
 |.tup ts,v,A,c,h=>by
  simp only[Rep,cG]at h c⊢
  obtain⟨a,vs,rfl,e,r⟩:=h
  exact⟨a,vs,rfl,e,Reps.any ts c r⟩
 |.ins true cc ns ts,v,A,c,h=>by
  simp only[Rep,cG,Bool.true_and]at h c⊢
  obtain⟨a,C,dx,vs,B,rfl,rfl,hc,e,l,r⟩:=h
  exact⟨a,C,dx,vs,B,rfl,rfl,hc,e,l,Reps.any ts c r⟩
 |.ins false cc ns ts,v,A,c,h=>by simp[cG]at c
theorem Reps.any:∀(ts:List T){vs:List V}{A:List Addr},cT ts=true->Reps K cn H Z ts vs A->Reps K cn H Z' ts vs A
 |[],_,_,_,h=>by simpa only[Reps]using h
 |t::ts,vs,A,c,h=>by
  simp only[Reps,cT,Bool.and_eq_true]at h c⊢
  obtain⟨v,r,B,C,rfl,rfl,h1,h2⟩:=h
  exact⟨v,r,B,C,rfl,rfl,Rep.any t c.1 h1,Reps.any ts c.2 h2⟩
end
mutual
theorem Rep.bare:∀(t:T){v:V}{A:List Addr},bS t=true->Rep K cn H Z t v A->A=[]
 |.non,_,_,_,h=>by simp only[Rep]at h;exact h.2
 |.bl _,_,_,_,h=>by simp only[Rep]at h;exact h.2
 |.int _,_,_,_,h=>by simp only[Rep]at h;exact h.2
 |.str _,_,_,_,h=>by simp only[Rep]at h;exact h.2
 |.ty _,_,_,_,h=>by simp only[Rep]at h;exact h.2
 |.lst true ts,v,A,c,h=>by simp[bS]at c
 |.lst false ts,v,A,c,h=>by
  simp only[Rep]at h
  obtain⟨a,vs,rfl,rfl,e,r⟩:=h
  rfl
 |.tup ts,v,A,c,h=>by
  simp only[Rep,bS]at h c
  obtain⟨a,vs,rfl,e,r⟩:=h
  exact Reps.bare ts c r
 |.ins true cc ns ts,v,A,c,h=>by simp[bS]at c
 |.ins false cc ns ts,v,A,c,h=>by
  simp only[Rep]at h
  obtain⟨a,C,dx,vs,rfl,rfl,_⟩:=h
  rfl
theorem Reps.bare:∀(ts:List T){vs:List V}{A:List Addr},bA ts=true->Reps K cn H Z ts vs A->A=[]
 |[],_,_,_,h=>by simp only[Reps]at h;exact h.2
 |t::ts,vs,A,c,h=>by
  simp only[Reps,bA,Bool.and_eq_true]at h c
  obtain⟨v,r,B,C,rfl,rfl,h1,h2⟩:=h
  rw[Rep.bare t c.1 h1,Reps.bare ts c.2 h2]
  rfl
end
mutual
theorem Rep.dom:∀(t:T){v:V}{A:List Addr},Rep K cn H Z t v A->∀a∈A,∃o,H a=some o/\rC o=false
 |.non,_,_,h=>by simp only[Rep]at h;rw[h.2];intro a ha;cases ha
 |.bl _,_,_,h=>by simp only[Rep]at h;rw[h.2];intro a ha;cases ha
 |.int _,_,_,h=>by simp only[Rep]at h;rw[h.2];intro a ha;cases ha
 |.str _,_,_,h=>by simp only[Rep]at h;rw[h.2];intro a ha;cases ha
 |.ty _,_,_,h=>by simp only[Rep]at h;rw[h.2];intro a ha;cases ha
 |.lst true ts,v,A,h=>by
  simp only[Rep]at h
  obtain⟨a,vs,B,rfl,rfl,e,r⟩:=h
  intro b hb
  rcases List.mem_cons.mp hb with rfl|hb
  . exact⟨_,e,rfl⟩
  . exact Reps.dom ts r b hb
 |.lst false ts,v,A,h=>by
  simp only[Rep]at h
  obtain⟨a,vs,rfl,rfl,e,r⟩:=h
  intro a ha;cases ha
 |.tup ts,v,A,h=>by
  simp only[Rep]at h
  obtain⟨a,vs,rfl,e,r⟩:=h
  exact Reps.dom ts r
 |.ins true cc ns ts,v,A,h=>by
  simp only[Rep]at h
  obtain⟨a,C,dx,vs,B,rfl,rfl,hc,e,l,r⟩:=h
  intro b hb
  rcases List.mem_cons.mp hb with rfl|hb
  . exact⟨_,e,rfl⟩
  . exact Reps.dom ts r b hb
 |.ins false cc ns ts,v,A,h=>by
  simp only[Rep]at h
  obtain⟨a,C,dx,vs,rfl,rfl,_⟩:=h
  intro a ha;cases ha
theorem Reps.dom:∀(ts:List T){vs:List V}{A:List Addr},Reps K cn H Z ts vs A->∀a∈A,∃o,H a=some o/\rC o=false
 |[],_,_,h=>by simp only[Reps]at h;rw[h.2];intro a ha;cases ha
 |t::ts,vs,A,h=>by
  simp only[Reps]at h
  obtain⟨v,r,B,C,rfl,rfl,h1,h2⟩:=h
  intro a ha
  rcases List.mem_append.mp ha with ha|ha
  . exact Rep.dom t h1 a ha
  . exact Reps.dom ts h2 a ha
end
theorem Reps.length:∀(ts:List T){vs:List V}{A:List Addr},Reps K cn H Z ts vs A->vs.length=ts.length
 |[],_,_,h=>by simp only[Reps]at h;rw[h.1];rfl
 |t::ts,vs,A,h=>by
  simp only[Reps]at h
  obtain⟨v,r,B,C,rfl,rfl,h1,h2⟩:=h
  simp[Reps.length ts h2]
theorem Reps.get:∀(ts:List T){vs:List V}{A:List Addr}{i:Nat}{t:T},Reps K cn H Z ts vs A->ts[i]?=some t->∃v B,vs[i]?=some v/\Rep K cn H Z t v B/\(∀b∈B,b∈A)/\B.Sublist A
 |[],_,_,_,_,h,e=>by simp at e
 |t::ts,vs,A,0,t',h,e=>by
  simp only[Reps]at h
  obtain⟨v,r,B,C,rfl,rfl,h1,h2⟩:=h
  simp at e
  subst e
  exact⟨v,B,rfl,h1,λb hb=>List.mem_append_left _ hb,List.sublist_append_left _ _⟩
 |t::ts,vs,A,i+1,t',h,e=>by
  simp only[Reps]at h
  obtain⟨v,r,B,C,rfl,rfl,h1,h2⟩:=h
  obtain⟨v',B',e1,e2,e3,e4⟩:=Reps.get ts (i:=i) h2 (by simpa using e)
  exact⟨v',B',by simpa using e1,e2,λb hb=>List.mem_append_right _ (e3 b hb),e4.trans (List.sublist_append_right _ _)⟩
theorem Reps.append:∀(ts:List T){us:List T}{vs ws:List V}{A B:List Addr},Reps K cn H Z ts vs A->Reps K cn H Z us ws B->Reps K cn H Z (ts++us) (vs++ws) (A++B)
 |[],us,vs,ws,A,B,h,h'=>by
  simp only[Reps]at h
  obtain⟨rfl,rfl⟩:=h
  exact h'
 |t::ts,us,vs,ws,A,B,h,h'=>by
  simp only[Reps,List.cons_append]at h⊢
  obtain⟨v,r,C,D,rfl,rfl,h1,h2⟩:=h
  exact⟨v,r++ws,C,D++B,rfl,by simp,h1,Reps.append ts h2 h'⟩
theorem Reps.one(h:Rep K cn H Z t v B):Reps K cn H Z [t] [v] B:=by
 simp only[Reps]
 exact⟨v,[],B,[],rfl,by simp,h,rfl,rfl⟩
theorem Reps.nil:Reps K cn H Z [] [] []:=by simp[Reps]
theorem Reps.take:∀(n:Nat)(ts:List T){vs:List V},Reps K cn H Z ts vs []->Reps K cn H Z (ts.take n) (vs.take n) []
 |0,ts,vs,h=>by simp[Reps]
 |n+1,[],vs,h=>by
  simp only[Reps]at h
  obtain⟨rfl,_⟩:=h
  simp[Reps]
 |n+1,t::ts,vs,h=>by
  simp only[Reps]at h
  obtain⟨v,r,B,C,rfl,e,h1,h2⟩:=h
  have eb:B=[]/\C=[]:=by simpa using e.symm
  obtain⟨rfl,rfl⟩:=eb
  simp only[List.take_succ_cons,Reps]
  exact⟨v,r.take n,[],[],rfl,rfl,h1,Reps.take n ts h2⟩
theorem Reps.drop:∀(n:Nat)(ts:List T){vs:List V},Reps K cn H Z ts vs []->Reps K cn H Z (ts.drop n) (vs.drop n) []
 |0,ts,vs,h=>h
 |n+1,[],vs,h=>by
  simp only[Reps]at h
  obtain⟨rfl,_⟩:=h
  simp[Reps]
 |n+1,t::ts,vs,h=>by
  simp only[Reps]at h
  obtain⟨v,r,B,C,rfl,e,h1,h2⟩:=h
  have eb:B=[]/\C=[]:=by simpa using e.symm
  obtain⟨rfl,rfl⟩:=eb
  simpa using Reps.drop n ts h2
end
end TL
namespace TL
open PySem PySem.Spec PyProof.Rows L2
abbrev St:=L2.St
theorem bu4(h:H p=none)(o:HO):Same H (L2.upd H p o):=λb u q=>by rw[cR (iM q h)];exact q
theorem eH{α:Type}{P:α->Prop}:∀b∈([]:List α),P b:=λ_ h=>nomatch h
def Slot(K:PySem.W.Frag)(cn:Str->Option Addr)(H:Hp)(Z:Addr->Prop)(o:Option T)(w:Option V)(A:List Addr):Prop:=
 match o with
 |none=>A=[]
 |some t=>∃v,w=some v/\Rep K cn H Z t v A
def Slots(K:PySem.W.Frag)(cn:Str->Option Addr)(H:Hp)(Z:Addr->Prop):Fr->St->List (List Addr)->Prop
 |[],σ,As=>σ=[]/\As=[]
 |o::ρ,σ,As=>∃w σ' A As',σ=w::σ'/\As=A::As'/\Slot K cn H Z o w A/\Slots K cn H Z ρ σ' As'
abbrev iO:=List (Nat×V)
structure Frm (Jn:iO) (K:PySem.W.Frag) (cn:Str->Option Addr) (H:Hp) (Z:Addr->Prop) (ρ:Fr) (σ:St) (As:List (List Addr)):Prop where
 sl:Slots K cn H Z ρ σ As
 nd:As.flatten.Nodup
 nz:∀a∈As.flatten,¬Z a
 zi:∀a,Z a->H a≠none
 pn:∀p∈Jn,σ[p.1]?=some (some p.2)
structure Ev (As:List (List Addr)) (H:Hp) (Z:Addr->Prop) (As':List (List Addr)) (H':Hp) (Z':Addr->Prop):Prop where
 keep:∀a o,H a=some o->a∉As.flatten->H' a=some o
 own:∀a∈As'.flatten,a∈As.flatten\/H a=none
 zz:∀a,Z a->Z' a
 zn:∀a,Z' a->Z a\/a∈As.flatten\/H a=none
 dom:∀a,H' a=none->H a=none
theorem Ev.refl:Ev As H Z As H Z:=
 ⟨λ_ _ h _=>h,λ_ h=>.inl h,λ_ h=>h,λ_ h=>.inl h,λ_ h=>h⟩
theorem Ev.trans(a:Ev As H Z As1 H1 Z1)(b:Ev As1 H1 Z1 As2 H2 Z2):Ev As H Z As2 H2 Z2 where
 keep:=λx o h n=>b.keep x o (a.keep x o h n) λq=>by
  rcases a.own x q with q|q
  . exact n q
  . rw[h]at q;cases q
 own:=λx h=>by
  rcases b.own x h with q|q
  . exact a.own x q
  . exact .inr (a.dom x q)
 zz:=λx h=>b.zz x (a.zz x h)
 zn:=λx h=>by
  rcases b.zn x h with q|q|q
  . exact a.zn x q
  . exact .inr (a.own x q)
  . exact .inr (.inr (a.dom x q))
 dom:=λx h=>a.dom x (b.dom x h)
structure Post (K:PySem.W.Frag) (cn:Str->Option Addr) (As:List (List Addr)) (H:Hp) (Z:Addr->Prop) (mv:List Nat) (H':Hp) (Z':Addr->Prop) (t:T) (v:V) (B:List Addr):Prop where
 same:Same H H'
 zz:∀a,Z a->Z' a
 zn:∀a,Z' a->Z a\/H a=none
 zi:∀a,Z' a->H' a≠none
 rep:Rep K cn H' Z' t v B
 nd:B.Nodup
 bz:∀b∈B,¬Z' b
 bn:∀b∈B,H b=none\/∃i∈mv,b∈As.getD i []
structure PostB (K:PySem.W.Frag) (cn:Str->Option Addr) (H:Hp) (Z:Addr->Prop) (H':Hp) (Z':Addr->Prop) (t:T) (v:V) (B:List Addr):Prop where
 same:Same H H'
 zz:∀a,Z a->Z' a
 zn:∀a,Z' a->Z a\/H a=none
 zi:∀a,Z' a->H' a≠none
 rep:Rep K cn H' Z' t v B
structure ey4 (K:PySem.W.Frag) (cn:Str->Option Addr) (As:List (List Addr)) (H:Hp) (Z:Addr->Prop) (x:Exc) (C:Addr) (a:Option Addr) (H':Hp) (Z':Addr->Prop):Prop where
 ev:Ev As H Z [] H' Z'
 cls:cn x.c=some C
 zi:∀a,Z' a->H' a≠none
 flds:∃dx vs,a=some dx/\H' dx=some (.xd (x.ns.zip vs))/\x.ns.length=vs.length/\Reps K cn H' Z' x.xs vs []
section
variable (Jn : iO) (K : PySem.W.Frag) (cn : Str → Option Addr) (E : XK)
def WpX(As:List (List Addr))(H:Hp)(Z:Addr->Prop)(x:Exc):Prop:=∀C a H' Z',ey4 K cn As H Z x C a H' Z'->E (.ref C) a H'
def WpE(As:List (List Addr))(H:Hp)(Z:Addr->Prop)(mv:List Nat)(Q:VK):Res T->Prop
 |.ok t=>∀v H' Z' B,Post K cn As H Z mv H' Z' t v B->Q v H'
 |.ex x=>WpX K cn E As H Z x
 |.no=>False
def WpB(As:List (List Addr))(H:Hp)(Z:Addr->Prop)(Q:VK):Res T->Prop
 |.ok t=>∀v H' Z' B,PostB K cn H Z H' Z' t v B->Q v H'
 |.ex x=>WpX K cn E As H Z x
 |.no=>False
structure PostT (H:Hp) (Z:Addr->Prop) (H':Hp) (Z':Addr->Prop):Prop where
 same:Same H H'
 zz:∀a,Z a->Z' a
 zn:∀a,Z' a->Z a\/H a=none
 zi:∀a,Z' a->H' a≠none
def WpT(As:List (List Addr))(H:Hp)(Z:Addr->Prop)(Q:Bool->Hp->Prop):Res Bool->Prop
 |.ok b=>∀H' Z',PostT H Z H' Z'->Q b H'
 |.ex x=>WpX K cn E As H Z x
 |.no=>False
structure ei5 (As:List (List Addr)) (H:Hp) (Z:Addr->Prop) (t:T) (v:V) (H':Hp) (Z':Addr->Prop) (B:List Addr):Prop where
 ev:Ev As H Z [B] H' Z'
 rep:Rep K cn H' Z' t v B
 nd:B.Nodup
 bz:∀b∈B,¬Z' b
 zi:∀a,Z' a->H' a≠none
def Wp(As:List (List Addr))(H:Hp)(Z:Addr->Prop)(D:ac5):bP->Prop
 |.nx ρ=>∀σ' As' H' Z',Frm Jn K cn H' Z' ρ σ' As'->Ev As H Z As' H' Z'->D.nx σ' H'
 |.bk ρ=>∀σ' As' H' Z',Frm Jn K cn H' Z' ρ σ' As'->Ev As H Z As' H' Z'->D.bk σ' H'
 |.ct ρ=>∀σ' As' H' Z',Frm Jn K cn H' Z' ρ σ' As'->Ev As H Z As' H' Z'->D.ct σ' H'
 |.rt t=>∀v H' Z' B,ei5 K cn As H Z t v H' Z' B->D.rt v H'
 |.rm ρ t=>∀v σ' As' H' Z',Frm Jn K cn H' Z' ρ σ' As'->Ev As H Z As' H' Z'->Rep K cn H' Z' t v []->D.rt v H'
 |.ex x=>WpX K cn E As H Z x
 |.no=>False
def RE(mv:List Nat)(te:TE)(d:Fr->Res T):Prop:=∀As H Z ρ σ,Frm Jn K cn H Z ρ σ As->∀Q,WpE K cn E As H Z mv Q (d ρ)->te σ H Q
def RB(te:TE)(d:Fr->Res T):Prop:=∀As H Z ρ σ,Frm Jn K cn H Z ρ σ As->∀Q,WpB K cn E As H Z Q (d ρ)->te σ H Q
def RT(tt:TT)(d:Fr->Res Bool):Prop:=∀As H Z ρ σ,Frm Jn K cn H Z ρ σ As->∀Q,WpT K cn E As H Z Q (d ρ)->tt σ H Q
def RS(ts:TS)(d:Fr->bP):Prop:=∀As H Z ρ σ,Frm Jn K cn H Z ρ σ As->∀D,Wp Jn K cn E As H Z D (d ρ)->ts D σ H
end
section
variable {Jn : iO} {K : PySem.W.Frag} {cn : Str → Option Addr} {E : XK} {As As1 : List (List Addr)} {H H1 : Hp} {Z Z1 : Addr → Prop} {ρ : Fr} {σ : St}
theorem WpX.ev(h:WpX K cn E As H Z x)(e:Ev As H Z As1 H1 Z1):WpX K cn E As1 H1 Z1 x:=λC a H' Z' p=>h C a H' Z' ⟨e.trans p.ev,p.cls,p.zi,p.flds⟩
theorem Wp.ev(h:Wp Jn K cn E As H Z D o)(e:Ev As H Z As1 H1 Z1):Wp Jn K cn E As1 H1 Z1 D o:=by
 cases o with
 |nx ρ=>exact λσ' As' H' Z' f q=>h σ' As' H' Z' f (e.trans q)
 |bk ρ=>exact λσ' As' H' Z' f q=>h σ' As' H' Z' f (e.trans q)
 |ct ρ=>exact λσ' As' H' Z' f q=>h σ' As' H' Z' f (e.trans q)
 |rt t=>exact λv H' Z' B p=>h v H' Z' B ⟨e.trans p.ev,p.rep,p.nd,p.bz,p.zi⟩
 |rm ρ t=>exact λv σ' As' H' Z' f q r=>h v σ' As' H' Z' f (e.trans q) r
 |ex x=>exact WpX.ev h e
 |no=>exact h
structure Mo (H:Hp) (Z:Addr->Prop) (H':Hp) (Z':Addr->Prop):Prop where
 same:Same H H'
 zz:∀a,Z a->Z' a
 zn:∀a,Z' a->Z a\/H a=none
 zi:∀a,Z' a->H' a≠none
theorem Mo.ev(m:Mo H Z H' Z'):Ev As H Z As H' Z':=
 ⟨λa o h _=>m.same a o h,λ_ h=>.inl h,m.zz,λa h=>(m.zn a h).imp_right .inr,λa h=>m.same.free h⟩
theorem Mo.trans(a:Mo H Z H1 Z1)(b:Mo H1 Z1 H2 Z2):Mo H Z H2 Z2:=
 ⟨a.same.trans b.same,λx h=>b.zz x (a.zz x h),λx h=>by
  rcases b.zn x h with q|q
  . exact a.zn x q
  . exact .inr (a.same.free q),b.zi⟩
theorem Frm.mo0(F:Frm Jn K cn H Z ρ σ As):Mo H Z H Z:=⟨Same.refl _,λ_ h=>h,λ_ h=>.inl h,F.zi⟩
theorem Post.mo(p:Post K cn As H Z mv H' Z' t v B):Mo H Z H' Z':=⟨p.same,p.zz,p.zn,p.zi⟩
theorem PostB.mo(p:PostB K cn H Z H' Z' t v B):Mo H Z H' Z':=⟨p.same,p.zz,p.zn,p.zi⟩
theorem PostT.mo(p:PostT H Z H' Z'):Mo H Z H' Z':=⟨p.same,p.zz,p.zn,p.zi⟩
theorem Mo.postT(p:Mo H Z H' Z'):PostT H Z H' Z':=⟨p.same,p.zz,p.zn,p.zi⟩
theorem Slot.mo(h:Slot K cn H Z o w A)(s:Same H H')(hz:∀a,Z a->Z' a):Slot K cn H' Z' o w A:=by
 cases o with
 |none=>exact h
 |some t=>obtain⟨v,e,r⟩:=h;exact⟨v,e,r.same s hz⟩
theorem Slots.mo(s:Same H H')(hz:∀a,Z a->Z' a):∀{ρ:Fr}{σ:St}{As:List (List Addr)},Slots K cn H Z ρ σ As->Slots K cn H' Z' ρ σ As
 |[],_,_,h=>h
 |o::ρ,_,_,h=>by
  obtain⟨w,σ',A,As',rfl,rfl,h1,h2⟩:=h
  exact⟨w,σ',A,As',rfl,rfl,h1.mo s hz,Slots.mo s hz h2⟩
theorem Slots.dom:∀{ρ:Fr}{σ:St}{As:List (List Addr)},Slots K cn H Z ρ σ As->∀a∈As.flatten,∃o,H a=some o/\rC o=false
 |[],_,_,h,a,ha=>by obtain⟨rfl,rfl⟩:=h;simp at ha
 |o::ρ,_,_,h,a,ha=>by
  obtain⟨w,σ',A,As',rfl,rfl,h1,h2⟩:=h
  rw[List.flatten_cons,List.mem_append]at ha
  rcases ha with ha|ha
  . cases o with
    |none=>have:A=[]:=h1;subst this;cases ha
    |some t=>obtain⟨v,e,r⟩:=h1;exact r.dom t a ha
  . exact Slots.dom h2 a ha
theorem Frm.mo(F:Frm Jn K cn H Z ρ σ As)(m:Mo H Z H' Z'):Frm Jn K cn H' Z' ρ σ As:=by
 refine⟨F.sl.mo m.same m.zz,F.nd,λa ha z=>?_,m.zi,F.pn⟩
 rcases m.zn a z with q|q
 . exact F.nz a ha q
 . obtain⟨o,e,_⟩:=F.sl.dom a ha
   rw[e]at q
   cases q
theorem WpE.mo(F:Frm Jn K cn H Z ρ σ As)(h:WpE K cn E As H Z mv Q r)(m:Mo H Z H' Z'):WpE K cn E As H' Z' mv Q r:=by
 cases r with
 |ok t=>exact λv H2 Z2 B p=>h v H2 Z2 B ⟨m.same.trans p.same,λa q=>p.zz a (m.zz a q),(m.trans p.mo).zn,p.zi,p.rep,p.nd,p.bz,λb hb=>(p.bn b hb).imp_left m.same.free⟩
 |ex x=>exact WpX.ev h m.ev
 |no=>exact h
theorem WpT.mo(h:WpT K cn E As H Z Q r)(m:Mo H Z H' Z'):WpT K cn E As H' Z' Q r:=by
 cases r with
 |ok b=>exact λH2 Z2 p=>h H2 Z2 (m.trans p.mo).postT
 |ex x=>exact WpX.ev h m.ev
 |no=>exact h
theorem Slots.get:∀{ρ:Fr}{σ:St}{As:List (List Addr)}{i:Nat}{t:T},Slots K cn H Z ρ σ As->ρ[i]?=some (some t)->∃v,σ[i]?=some (some v)/\Rep K cn H Z t v (As.getD i [])
 |[],_,_,_,_,h,e=>by simp at e
 |o::ρ,_,_,0,t,h,e=>by
  obtain⟨w,σ',A,As',rfl,rfl,h1,h2⟩:=h
  simp at e
  subst e
  obtain⟨v,rfl,r⟩:=h1
  exact⟨v,rfl,r⟩
 |o::ρ,_,_,i+1,t,h,e=>by
  obtain⟨w,σ',A,As',rfl,rfl,h1,h2⟩:=h
  obtain⟨v,e1,e2⟩:=Slots.get (i:=i) h2 (by simpa using e)
  exact⟨v,by simpa using e1,by simpa using e2⟩
theorem Slots.set(r:Rep K cn H Z t v B):∀{ρ:Fr}{σ:St}{As:List (List Addr)}(i:Nat),Slots K cn H Z ρ σ As->Slots K cn H Z (ρ.set i (some t)) (σ.set i (some v)) (As.set i B)
 |[],_,_,_,h=>by obtain⟨rfl,rfl⟩:=h;exact⟨rfl,rfl⟩
 |o::ρ,_,_,0,h=>by
  obtain⟨w,σ',A,As',rfl,rfl,h1,h2⟩:=h
  exact⟨some v,σ',B,As',rfl,rfl,⟨v,rfl,r⟩,h2⟩
 |o::ρ,_,_,i+1,h=>by
  obtain⟨w,σ',A,As',rfl,rfl,h1,h2⟩:=h
  exact⟨w,σ'.set i (some v),A,As'.set i B,rfl,rfl,h1,Slots.set r i h2⟩
theorem Slots.kill:∀{ρ:Fr}{σ:St}{As:List (List Addr)}(i:Nat),Slots K cn H Z ρ σ As->Slots K cn H Z (ρ.set i none) σ (As.set i [])
 |[],_,_,_,h=>by obtain⟨rfl,rfl⟩:=h;exact⟨rfl,rfl⟩
 |o::ρ,_,_,0,h=>by
  obtain⟨w,σ',A,As',rfl,rfl,h1,h2⟩:=h
  exact⟨w,σ',[],As',rfl,rfl,rfl,h2⟩
 |o::ρ,_,_,i+1,h=>by
  obtain⟨w,σ',A,As',rfl,rfl,h1,h2⟩:=h
  exact⟨w,σ',A,As'.set i [],rfl,rfl,h1,Slots.kill i h2⟩
theorem Slots.kill2(o:Option V):∀{ρ:Fr}{σ:St}{As:List (List Addr)}(i:Nat),Slots K cn H Z ρ σ As->Slots K cn H Z (ρ.set i none) (σ.set i o) (As.set i [])
 |[],_,_,_,h=>by obtain⟨rfl,rfl⟩:=h;exact⟨rfl,rfl⟩
 |o::ρ,_,_,0,h=>by
  obtain⟨w,σ',A,As',rfl,rfl,h1,h2⟩:=h
  exact⟨_,σ',[],As',rfl,rfl,rfl,h2⟩
 |o::ρ,_,_,i+1,h=>by
  obtain⟨w,σ',A,As',rfl,rfl,h1,h2⟩:=h
  exact⟨w,_,A,As'.set i [],rfl,rfl,h1,Slots.kill2 _ i h2⟩
theorem eD:∀{As:List (List Addr)}{i:Nat},a∈(As.set i B).flatten->a∈B\/a∈As.flatten
 |[],_,h=>by simp at h
 |A::As,0,h=>by
  rw[List.set_cons_zero,List.flatten_cons,List.mem_append]at h
  rw[List.flatten_cons,List.mem_append]
  exact h.imp_right .inr
 |A::As,i+1,h=>by
  rw[List.set_cons_succ,List.flatten_cons,List.mem_append]at h
  rw[List.flatten_cons,List.mem_append]
  rcases h with h|h
  . exact .inr (.inl h)
  . exact(eD h).imp_right .inr
theorem oP(hB:B.Nodup):∀{As:List (List Addr)}{i:Nat},As.flatten.Nodup->(∀b∈B,b∈As.flatten->b∈As.getD i [])->(As.set i B).flatten.Nodup
 |[],_,h,_=>h
 |A::As,0,h,d=>by
  rw[List.flatten_cons,List.nodup_append]at h
  rw[List.set_cons_zero,List.flatten_cons,List.nodup_append]
  refine⟨hB,h.2.1,λb hb c hc e=>?_⟩
  subst e
  have q:=d b hb (by rw[List.flatten_cons,List.mem_append];exact .inr hc)
  exact h.2.2 b (by simpa using q) b hc rfl
 |A::As,i+1,h,d=>by
  rw[List.flatten_cons,List.nodup_append]at h
  rw[List.set_cons_succ,List.flatten_cons,List.nodup_append]
  have d':∀b∈B,b∈As.flatten->b∈As.getD i []:=λb hb hc=>by
   have q:=d b hb (by rw[List.flatten_cons,List.mem_append];exact .inr hc)
   simpa using q
  refine⟨h.1,oP hB h.2.1 d',λa ha c hc e=>?_⟩
  subst e
  rcases eD hc with q|q
  . have z:=d a q (by rw[List.flatten_cons,List.mem_append];exact .inl ha)
    have z':a∈As.getD i []:=by simpa using z
    have z2:a∈As.flatten:=by
     rw[List.getD_eq_getElem?_getD]at z'
     cases e:As[i]? with
     |none=>rw[e]at z';cases z'
     |some C=>rw[e]at z';exact List.mem_flatten.mpr ⟨C,List.mem_of_getElem? e,z'⟩
    exact h.2.2 a ha a z2 rfl
  . exact h.2.2 a ha a q rfl
theorem bB(h:a∈As.getD i []):a∈As.flatten:=by
 rw[List.getD_eq_getElem?_getD]at h
 cases e:As[i]? with
 |none=>rw[e]at h;cases h
 |some C=>rw[e]at h;exact List.mem_flatten.mpr ⟨C,List.mem_of_getElem? e,h⟩
def uK(Jn:iO)(i:Nat):Bool:=Jn.all λp=>!(p.1==i)
theorem bv2(h:uK Jn i=true)(o:Option V)(q:∀p∈Jn,σ[p.1]?=some (some p.2)):∀p∈Jn,(σ.set i o)[p.1]?=some (some p.2):=λp hp=>by
 unfold uK at h
 rw[List.all_eq_true]at h
 have:=h p hp
 rw[List.getElem?_set_ne (by intro z;simp[z]at this)]
 exact q p hp
theorem Frm.set(F:Frm Jn K cn H Z ρ σ As)(r:Rep K cn H Z t v B)(nd:B.Nodup)(bz:∀b∈B,¬Z b)(i:Nat)(fr:∀b∈B,b∈As.flatten->b∈As.getD i [])(hJ:uK Jn i=true):Frm Jn K cn H Z (ρ.set i (some t)) (σ.set i (some v)) (As.set i B):=
 ⟨F.sl.set r i,oP nd F.nd fr,λa ha=>(eD ha).elim (bz a) (F.nz a),F.zi,bv2 hJ _ F.pn⟩
theorem Frm.kill(F:Frm Jn K cn H Z ρ σ As)(i:Nat):Frm Jn K cn H Z (ρ.set i none) σ (As.set i []):=
 ⟨F.sl.kill i,oP List.nodup_nil F.nd (λb hb=>by cases hb),λa ha=>(eD ha).elim (λq=>by cases q) (F.nz a),F.zi,F.pn⟩
def kills:List Nat->Fr->Fr
 |[],ρ=>ρ
 |i::is,ρ=>kills is (ρ.set i none)
def fR:List Nat->List (List Addr)->List (List Addr)
 |[],As=>As
 |i::is,As=>fR is (As.set i [])
theorem Frm.kills(mv:List Nat):∀{ρ:Fr}{As:List (List Addr)},Frm Jn K cn H Z ρ σ As->Frm Jn K cn H Z (TL.kills mv ρ) σ (fR mv As):=by
 induction mv with
 |nil=>exact λF=>F
 |cons i is ih=>exact λF=>ih (F.kill i)
theorem fK:∀{As:List (List Addr)},a∈(fR mv As).flatten->a∈As.flatten:=by
 induction mv with
 |nil=>exact λh=>h
 |cons i is ih=>exact λh=>(eD (ih h)).elim (λq=>by cases q) id
theorem tJ:∀{As:List (List Addr)},As.flatten.Nodup->i∈mv->a∈As.getD i []->a∉(fR mv As).flatten:=by
 induction mv with
 |nil=>exact λ_ h=>by cases h
 |cons j js ih=>
  intro As nd hi ha hm
  by_cases e:i=j
  . subst e
    have h1:=fK (mv:=js) (As:=As.set i []) hm
    have:∀{As:List (List Addr)}{i:Nat},As.flatten.Nodup->a∈As.getD i []->a∉(As.set i []).flatten:=by
     intro As
     induction As with
     |nil=>intro i _ h;simp at h
     |cons A As ih2=>
      intro i nd h hm
      rw[List.flatten_cons,List.nodup_append]at nd
      cases i with
      |zero=>
       rw[List.set_cons_zero,List.flatten_cons,List.nil_append]at hm
       exact nd.2.2 a (by simpa using h) a hm rfl
      |succ i=>
       rw[List.set_cons_succ,List.flatten_cons,List.mem_append]at hm
       have h':a∈As.getD i []:=by simpa using h
       rcases hm with hm|hm
       . exact nd.2.2 a hm a (bB h') rfl
       . exact ih2 nd.2.1 h' hm
    exact this nd ha h1
  . have hi':i∈js:=(List.mem_cons.mp hi).resolve_left e
    refine ih (As:=As.set j []) (oP List.nodup_nil nd (λb hb=>by cases hb)) hi' ?_ hm
    rw[List.getD_eq_getElem?_getD,List.getElem?_set_ne (Ne.symm e),<-List.getD_eq_getElem?_getD]
    exact ha
def cp4(i:Nat)(ρ:Fr):Fr:=match ρ[i]? with
 |some (some t)=>ρ.set i (some (frz t))
 |_=>ρ
end
end TL
namespace TL
open PySem PySem.Spec PyProof.Rows L2
section
variable {Jn : iO} {K : PySem.W.Frag} {cn : Str → Option Addr} {E : XK}
theorem WpB.wpE(w:WpB K cn E As H Z Q r):WpE K cn E As H Z mv Q r:=by
 cases r with
 |ok t=>exact λv H' Z' B p=>w v H' Z' B ⟨p.same,p.zz,p.zn,p.zi,p.rep⟩
 |ex x=>exact w
 |no=>exact w
theorem RE.rb(h:RE Jn K cn E mv te d):RB Jn K cn E te d:=λAs H Z ρ σ F Q w=>h As H Z ρ σ F Q w.wpE
def aB(i:Nat):Fr->Res T:=λρ=>match ρ[i]? with
 |some (some t)=>.ok t
 |_=>.no
theorem eg4(i:Nat):RB Jn K cn E (af2 i) (aB i):=λAs H Z ρ σ F Q w=>by
 unfold aB at w
 cases e:ρ[i]? with
 |none=>rw[e]at w;exact False.elim w
 |some o=>
  rw[e]at w
  cases o with
  |none=>exact False.elim w
  |some t=>
   obtain⟨v,es,r⟩:=F.sl.get e
   exact⟨v,es,w v H Z _ ⟨Same.refl _,λ_ h=>h,λ_ h=>.inl h,F.zi,r⟩⟩
theorem ec6(i:Nat):RE Jn K cn E [i] (af2 i) (aB i):=λAs H Z ρ σ F Q w=>by
 unfold aB at w
 cases e:ρ[i]? with
 |none=>rw[e]at w;exact False.elim w
 |some o=>
  rw[e]at w
  cases o with
  |none=>exact False.elim w
  |some t=>
   obtain⟨v,es,r⟩:=F.sl.get e
   refine⟨v,es,w v H Z _ ⟨Same.refl _,λ_ h=>h,λ_ h=>.inl h,F.zi,r,?_,λb hb=>F.nz b (bB hb),λb hb=>.inr ⟨i,List.mem_cons_self,hb⟩⟩⟩
   have nd:=F.nd
   rw[List.getD_eq_getElem?_getD]
   cases q:As[i]? with
   |none=>exact List.nodup_nil
   |some C=>exact List.Nodup.sublist (List.sublist_flatten_of_mem (List.mem_of_getElem? q)) nd
def aQ(d:Fr->Res T):Fr->Res T:=λρ=>(d ρ).bind λt=>if bS t=true then .ok t else .no
theorem RB.chk(h:RB Jn K cn E te d):RE Jn K cn E [] te (aQ d):=λAs H Z ρ σ F Q w=>h As H Z ρ σ F Q (by
 unfold aQ at w
 cases e:d ρ with
 |ok t=>
  rw[e]at w
  intro v H' Z' B p
  by_cases c:bS t=true
  . simp only[Res.bind,if_pos c]at w
    have:=p.rep.bare t c
    subst this
    exact w v H' Z' [] ⟨p.same,p.zz,p.zn,p.zi,p.rep,List.nodup_nil,eH,eH⟩
  . simp only[Res.bind,if_neg c]at w
    exact False.elim w
 |ex x=>rw[e]at w;exact w
 |no=>rw[e]at w;exact w)
def aj5(d:Fr->Res T):Fr->Res T:=λρ=>(d ρ).bind λt=>.ok (frz t)
theorem RE.frz{te:TE}{d:Fr->Res T}(h:RE Jn K cn E [] te d):RE Jn K cn E [] te (aj5 d):=λAs H Z ρ σ F Q w=>h As H Z ρ σ F Q (by
 unfold aj5 at w
 cases e:d ρ with
 |ok t=>
  rw[e]at w
  intro v H' Z' B p
  refine w v H' (λa=>Z' a\/a∈B) [] ⟨p.same,λa h=>.inl (p.zz a h),λa h=>?_,λa h=>?_,Rep.frz t p.rep (λa h=>.inl h) (λa h=>.inr h),List.nodup_nil,eH,eH⟩
  . rcases h with h|h
    . exact p.zn a h
    . rcases p.bn a h with q|⟨i,q,_⟩
      . exact .inr q
      . cases q
  . rcases h with h|h
    . exact p.zi a h
    . obtain⟨o,q,_⟩:=p.rep.dom t a h
      rw[q]
      exact(λz=>nomatch z)
 |ex x=>rw[e]at w;exact w
 |no=>rw[e]at w;exact w)
def dC(t:T):Fr->Res T:=λ_=>.ok t
theorem bb8(h:∀H Z,Rep K cn H Z t v []):RE Jn K cn E [] (tC v) (dC t):=λAs H Z ρ σ F Q w=>
 w v H Z [] ⟨Same.refl _,λ_ h=>h,λ_ h=>.inl h,F.zi,h H Z,List.nodup_nil,eH,eH⟩
theorem eg1:RE Jn K cn E [] (tC (.int i)) (dC (.int i)):=bb8 λH Z=>by simp[Rep]
theorem en3:RE Jn K cn E [] (tC (.str i)) (dC (.str i)):=bb8 λH Z=>by simp[Rep]
theorem ex4:RE Jn K cn E [] (tC (.bl i)) (dC (.bl i)):=bb8 λH Z=>by simp[Rep]
theorem ea0:RE Jn K cn E [] (tC .non) (dC .non):=bb8 λH Z=>by simp[Rep]
theorem et5:RE Jn K cn E [] (tC (.ty n)) (dC (.ty n)):=bb8 λH Z=>by simp[Rep]
def oJ(K:PySem.W.Frag)(cn:Str->Option Addr)(r:R2)(f:T->T->Res T):Prop:=
 ∀(E:XK)(As:List (List Addr))(H:Hp)(Z:Addr->Prop)(t u:T)(x y:V)(A B:List Addr)(Q:VK),(∀a,Z a->H a≠none)->Rep K cn H Z t x A->Rep K cn H Z u y B->WpE K cn E As H Z [] Q (f t u)->r x y H Q
def aE(f:T->T->Res T)(a b:Fr->Res T):Fr->Res T:=λρ=>(a ρ).bind λx=>(b ρ).bind λy=>f x y
theorem eh5(hr:oJ K cn r f)(ha:RB Jn K cn E ta a)(hb:RB Jn K cn E tb b):RE Jn K cn E [] (tOp r ta tb) (aE f a b):=λAs H Z ρ σ F Q w=>by
 unfold aE at w
 refine ha As H Z ρ σ F _ ?_
 cases e:a ρ with
 |ok t=>
  rw[e]at w
  intro v H1 Z1 B p
  refine hb As H1 Z1 ρ σ (F.mo p.mo) _ ?_
  simp only[Res.bind]at w
  cases e2:b ρ with
  |ok u=>
   rw[e2]at w
   intro v2 H2 Z2 B2 p2
   exact hr E As H2 Z2 t u v v2 B B2 Q p2.zi (p.rep.same p2.same p2.zz) p2.rep (w.mo F (p.mo.trans p2.mo))
  |ex x=>rw[e2]at w;exact WpX.ev w p.mo.ev
  |no=>rw[e2]at w;exact w
 |ex x=>rw[e]at w;exact w
 |no=>rw[e]at w;exact w
def fI(f:T->Res T)(a:Fr->Res T):Fr->Res T:=λρ=>(a ρ).bind f
def R1R(K:PySem.W.Frag)(cn:Str->Option Addr)(r:V->Hp->VK->Prop)(f:T->Res T):Prop:=
 ∀(E:XK)(As:List (List Addr))(H:Hp)(Z:Addr->Prop)(t:T)(x:V)(A:List Addr)(Q:VK),(∀a,Z a->H a≠none)->Rep K cn H Z t x A->WpE K cn E As H Z [] Q (f t)->r x H Q
theorem ez5(hr:R1R K cn r f)(ha:RB Jn K cn E ta a):RE Jn K cn E [] (tUn r ta) (fI f a):=λAs H Z ρ σ F Q w=>by
 unfold fI at w
 refine ha As H Z ρ σ F _ ?_
 cases e:a ρ with
 |ok t=>
  rw[e]at w
  exact λv H1 Z1 B p=>hr E As H1 Z1 t v B Q p.zi p.rep (WpE.mo F w p.mo)
 |ex x=>rw[e]at w;exact w
 |no=>rw[e]at w;exact w
def nM(f g:T->T->Res T)(a b c:Fr->Res T):Fr->Res T:=λρ=>(a ρ).bind λx=>(b ρ).bind λy=>(f x y).bind λk=>match k with
 |.bl true=>(c ρ).bind λz=>g y z
 |.bl false=>.ok (.bl false)
 |_=>.no
theorem WpE.bl(w:WpE K cn E As H Z [] Q (.ok (.bl b)))(zi:∀a,Z a->H a≠none):Q (.bl b) H:=
 w (.bl b) H Z [] ⟨Same.refl _,λ_ h=>h,λ_ h=>.inl h,zi,by simp[Rep],List.nodup_nil,eH,eH⟩
theorem dq3(hr:oJ K cn r f)(hr':oJ K cn r' g)(ha:RB Jn K cn E ta a)(hb:RB Jn K cn E tb b)(hc:RB Jn K cn E tc c):RE Jn K cn E [] (bx4 r r' ta tb tc) (nM f g a b c):=λAs H Z ρ σ F Q w=>by
 unfold nM at w
 refine ha As H Z ρ σ F _ ?_
 cases e:a ρ with
 |ok t=>
  rw[e]at w
  intro v H1 Z1 B p
  refine hb As H1 Z1 ρ σ (F.mo p.mo) _ ?_
  simp only[Res.bind]at w
  cases e2:b ρ with
  |ok u=>
   rw[e2]at w
   intro v2 H2 Z2 B2 p2
   refine hr E As H2 Z2 t u v v2 B B2 _ p2.zi (p.rep.same p2.same p2.zz) p2.rep ?_
   simp only at w
   cases e3:f t u with
   |ok k=>
    rw[e3]at w
    intro v3 H3 Z3 B3 p3
    have m3:=(p.mo.trans p2.mo).trans p3.mo
    cases k with
    |bl k=>
     have q:=p3.rep
     simp only[Rep]at q
     obtain⟨rfl,rfl⟩:=q
     refine⟨k,rfl,?_⟩
     cases k with
     |true=>
      rw[if_pos rfl]
      refine hc As H3 Z3 ρ σ (F.mo m3) _ ?_
      simp only at w
      cases e4:c ρ with
      |ok z=>
       rw[e4]at w
       intro v4 H4 Z4 B4 p4
       exact hr' E As H4 Z4 u z v2 v4 B2 B4 Q p4.zi (p2.rep.same (p3.same.trans p4.same) (λa h=>p4.zz a (p3.zz a h))) p4.rep (WpE.mo F w (m3.trans p4.mo))
      |ex x=>rw[e4]at w;exact WpX.ev w m3.ev
      |no=>rw[e4]at w;exact w
     |false=>
      rw[if_neg (by decide)]
      exact WpE.bl (WpE.mo F w m3) p3.zi
    |_=>exact False.elim w
   |ex x=>rw[e3]at w;exact WpX.ev w (p.mo.trans p2.mo).ev
   |no=>rw[e3]at w;exact w
  |ex x=>rw[e2]at w;exact WpX.ev w p.mo.ev
  |no=>rw[e2]at w;exact w
 |ex x=>rw[e]at w;exact w
 |no=>rw[e]at w;exact w
def oX(a b:Fr->Res T):Fr->Res T:=λρ=>(a ρ).bind λx=>match x with
 |.bl true=>b ρ
 |.bl false=>.ok (.bl false)
 |_=>.no
def dv4(a b:Fr->Res T):Fr->Res T:=λρ=>(a ρ).bind λx=>match x with
 |.bl true=>.ok (.bl true)
 |.bl false=>b ρ
 |_=>.no
def yZ(a:Fr->Res T):Fr->Res T:=λρ=>(a ρ).bind λx=>match x with
 |.bl b=>.ok (.bl (!b))
 |_=>.no
theorem ds7(ha:RB Jn K cn E ta a)(hb:RE Jn K cn E [] tb b):RE Jn K cn E [] (dk5 ta tb) (oX a b):=λAs H Z ρ σ F Q w=>by
 unfold oX at w
 refine ha As H Z ρ σ F _ ?_
 cases e:a ρ with
 |ok t=>
  rw[e]at w
  intro v H1 Z1 B p
  cases t with
  |bl k=>
   have q:=p.rep
   simp only[Rep]at q
   obtain⟨rfl,rfl⟩:=q
   refine⟨k,rfl,?_⟩
   cases k with
   |true=>rw[if_pos rfl];exact hb As H1 Z1 ρ σ (F.mo p.mo) Q (WpE.mo F w p.mo)
   |false=>rw[if_neg (by decide)];exact WpE.bl (WpE.mo F w p.mo) p.zi
  |_=>exact False.elim w
 |ex x=>rw[e]at w;exact w
 |no=>rw[e]at w;exact w
theorem dh8(ha:RB Jn K cn E ta a):RE Jn K cn E [] (dv5 ta) (yZ a):=λAs H Z ρ σ F Q w=>by
 unfold yZ at w
 refine ha As H Z ρ σ F _ ?_
 cases e:a ρ with
 |ok t=>
  rw[e]at w
  intro v H1 Z1 B p
  cases t with
  |bl k=>
   have q:=p.rep
   simp only[Rep]at q
   obtain⟨rfl,rfl⟩:=q
   exact⟨k,rfl,WpE.bl (WpE.mo F w p.mo) p.zi⟩
  |_=>exact False.elim w
 |ex x=>rw[e]at w;exact w
 |no=>rw[e]at w;exact w
def dIf(c:Fr->Res Bool)(a b:Fr->Res T):Fr->Res T:=λρ=>(c ρ).bind λk=>if k=true then a ρ else b ρ
theorem el6(hc:RT Jn K cn E tt c)(ha:RE Jn K cn E [] ta a)(hb:RE Jn K cn E [] tb b):RE Jn K cn E [] (tIf tt ta tb) (dIf c a b):=λAs H Z ρ σ F Q w=>by
 unfold dIf at w
 refine hc As H Z ρ σ F _ ?_
 cases e:c ρ with
 |ok k=>
  rw[e]at w
  intro H1 Z1 p
  simp only[Res.bind]at w
  split
  . next h=>rw[if_pos h]at w;exact ha As H1 Z1 ρ σ (F.mo p.mo) Q (WpE.mo F w p.mo)
  . next h=>rw[if_neg h]at w;exact hb As H1 Z1 ρ σ (F.mo p.mo) Q (WpE.mo F w p.mo)
 |ex x=>rw[e]at w;exact w
 |no=>rw[e]at w;exact w
def toB:T->Res Bool
 |.bl b=>.ok b
 |_=>.no
def bD(a:Fr->Res T):Fr->Res Bool:=λρ=>(a ρ).bind toB
theorem cn1(ha:RB Jn K cn E ta a):RT Jn K cn E (bj4 ta) (bD a):=λAs H Z ρ σ F Q w=>by
 unfold bD at w
 refine ha As H Z ρ σ F _ ?_
 cases e:a ρ with
 |ok t=>
  rw[e]at w
  intro v H1 Z1 B p
  cases t with
  |bl k=>
   have q:=p.rep
   simp only[Rep]at q
   obtain⟨rfl,rfl⟩:=q
   exact⟨k,rfl,w H1 Z1 p.mo.postT⟩
  |_=>exact False.elim w
 |ex x=>rw[e]at w;exact w
 |no=>rw[e]at w;exact w
def xD:T->Res Bool
 |.non=>.ok false
 |.bl b=>.ok b
 |.int i=>.ok (i !=0)
 |.str x=>if x.length<=sizeLine then .ok ((x.length:Int) !=0)else .no
 |.lst _ xs=>.ok (!xs.isEmpty)
 |.tup xs=>.ok (!xs.isEmpty)
 |_=>.no
def eJ(a:Fr->Res T):Fr->Res Bool:=λρ=>(a ρ).bind xD
theorem Reps.isEmpty(r:Reps K cn H Z ts vs A):vs.isEmpty=ts.isEmpty:=by
 have h:=Reps.length ts r
 cases ts<;>cases vs<;>simp_all
theorem dw6(r:Rep K cn H Z t v B)(h:xD t=.ok k):bv6 K v H k:=by
 cases t with
 |non=>simp only[Rep]at r;obtain⟨rfl,_⟩:=r;cases h;rfl
 |bl b=>simp only[Rep]at r;obtain⟨rfl,_⟩:=r;cases h;rfl
 |int b=>simp only[Rep]at r;obtain⟨rfl,_⟩:=r;cases h;rfl
 |str b=>
  simp only[Rep]at r
  obtain⟨rfl,_⟩:=r
  simp only[xD]at h
  split at h
  . cases h;exact⟨by assumption,rfl⟩
  . cases h
 |lst o xs=>
  cases h
  cases o with
  |true=>
   simp only[Rep]at r
   obtain⟨a,vs,B,rfl,rfl,e,r⟩:=r
   exact .inl ⟨vs,SqL.of e,by rw[r.isEmpty]⟩
  |false=>
   simp only[Rep]at r
   obtain⟨a,vs,rfl,rfl,e,r⟩:=r
   exact .inl ⟨vs,e.sq,by rw[r.isEmpty]⟩
 |tup xs=>
  cases h
  simp only[Rep]at r
  obtain⟨a,vs,rfl,e,r⟩:=r
  exact .inr (.inl ⟨vs,e,by rw[r.isEmpty]⟩)
 |ty _=>cases h
 |ins _ _ _ _=>cases h
theorem cp7(h:xD t=.ex x):False:=by
 cases t<;>simp only[xD]at h<;>first|cases h|(split at h<;>cases h)
theorem ej0(ha:RB Jn K cn E ta a):RT Jn K cn E (λσ H Q=>ta σ H λx H'=>∃k,bv6 K x H' k/\Q k H') (eJ a):=λAs H Z ρ σ F Q w=>by
 unfold eJ at w
 refine ha As H Z ρ σ F _ ?_
 cases e:a ρ with
 |ok t=>
  rw[e]at w
  intro v H1 Z1 B p
  simp only[Res.bind]at w
  cases e2:xD t with
  |ok k=>rw[e2]at w;exact⟨k,dw6 p.rep e2,w H1 Z1 p.mo.postT⟩
  |ex x=>exact(cp7 e2).elim
  |no=>rw[e2]at w;exact w.elim
 |ex x=>rw[e]at w;exact w
 |no=>rw[e]at w;exact w
def fF(c:Fr->Res Bool):Fr->Res Bool:=λρ=>(c ρ).bind λk=>.ok (!k)
def gY(c d:Fr->Res Bool):Fr->Res Bool:=λρ=>(c ρ).bind λk=>if k=true then d ρ else .ok false
def mY(c d:Fr->Res Bool):Fr->Res Bool:=λρ=>(c ρ).bind λk=>if k=true then .ok true else d ρ
theorem eu1(hc:RT Jn K cn E tt c):RT Jn K cn E (et1 tt) (fF c):=λAs H Z ρ σ F Q w=>by
 unfold fF at w
 refine hc As H Z ρ σ F _ ?_
 cases e:c ρ with
 |ok k=>rw[e]at w;exact λH1 Z1 p=>w H1 Z1 p
 |ex x=>rw[e]at w;exact w
 |no=>rw[e]at w;exact w
theorem ep0(hc:RT Jn K cn E tt c)(hd:RT Jn K cn E uu d):RT Jn K cn E (es3 tt uu) (gY c d):=λAs H Z ρ σ F Q w=>by
 unfold gY at w
 refine hc As H Z ρ σ F _ ?_
 cases e:c ρ with
 |ok k=>
  rw[e]at w
  intro H1 Z1 p
  cases k with
  |true=>rw[if_pos rfl];exact hd As H1 Z1 ρ σ (F.mo p.mo) Q (WpT.mo w p.mo)
  |false=>rw[if_neg (by decide)];exact w H1 Z1 p
 |ex x=>rw[e]at w;exact w
 |no=>rw[e]at w;exact w
theorem er5(hc:RT Jn K cn E tt c)(hd:RT Jn K cn E uu d):RT Jn K cn E (tOr tt uu) (mY c d):=λAs H Z ρ σ F Q w=>by
 unfold mY at w
 refine hc As H Z ρ σ F _ ?_
 cases e:c ρ with
 |ok k=>
  rw[e]at w
  intro H1 Z1 p
  cases k with
  |false=>rw[if_neg (by decide)];exact hd As H1 Z1 ρ σ (F.mo p.mo) Q (WpT.mo w p.mo)
  |true=>rw[if_pos rfl];exact w H1 Z1 p
 |ex x=>rw[e]at w;exact w
 |no=>rw[e]at w;exact w
end
end TL
namespace TL
open PySem PySem.Spec PyProof.Rows L2
section
variable {Jn : iO} {K : PySem.W.Frag} {cn : Str → Option Addr} {E : XK}
structure ei6 (K:PySem.W.Frag) (cn:Str->Option Addr) (As:List (List Addr)) (H:Hp) (Z:Addr->Prop) (mv:List Nat) (H':Hp) (Z':Addr->Prop) (ts:List T) (vs:List V) (B:List Addr):Prop where
 mo:Mo H Z H' Z'
 rep:Reps K cn H' Z' ts vs B
 nd:B.Nodup
 bz:∀b∈B,¬Z' b
 bn:∀b∈B,H b=none\/∃i∈mv,b∈As.getD i []
def WpA(K:PySem.W.Frag)(cn:Str->Option Addr)(E:XK)(As:List (List Addr))(H:Hp)(Z:Addr->Prop)(mv:List Nat)(Q:List V->Hp->Prop):Res (List T)->Prop
 |.ok ts=>∀vs H' Z' B,ei6 K cn As H Z mv H' Z' ts vs B->Q vs H'
 |.ex x=>WpX K cn E As H Z x
 |.no=>False
def eg7(K:PySem.W.Frag)(cn:Str->Option Addr)(E:XK)(As:List (List Addr))(H:Hp)(Z:Addr->Prop)(Q:List V->Hp->Prop):Res (List T)->Prop
 |.ok ts=>∀vs H' Z' B,Mo H Z H' Z'->Reps K cn H' Z' ts vs B->Q vs H'
 |.ex x=>WpX K cn E As H Z x
 |.no=>False
def RA(Jn:iO)(K:PySem.W.Frag)(cn:Str->Option Addr)(E:XK)(mv:List Nat)(ta:TA)(d:Fr->Res (List T)):Prop:=∀As H Z ρ σ,Frm Jn K cn H Z ρ σ As->∀Q,WpA K cn E As H Z mv Q (d ρ)->ta σ H Q
def yI(Jn:iO)(K:PySem.W.Frag)(cn:Str->Option Addr)(E:XK)(ta:TA)(d:Fr->Res (List T)):Prop:=∀As H Z ρ σ,Frm Jn K cn H Z ρ σ As->∀Q,eg7 K cn E As H Z Q (d ρ)->ta σ H Q
def aJ:Fr->Res (List T):=λ_=>.ok []
def aD(a:Fr->Res T)(r:Fr->Res (List T)):Fr->Res (List T):=λρ=>(a ρ).bind λt=>(r ρ).bind λts=>.ok (t::ts)
theorem eq1:RA Jn K cn E [] au5 aJ:=λAs H Z ρ σ F Q w=>w [] H Z [] ⟨F.mo0,Reps.nil,List.nodup_nil,eH,eH⟩
theorem dd8:yI Jn K cn E au5 aJ:=λAs H Z ρ σ F Q w=>w [] H Z [] F.mo0 Reps.nil
theorem vW{As:List (List Addr)}{a:Addr}:∀{i j:Nat},As.flatten.Nodup->a∈As.getD i []->a∈As.getD j []->i=j:=by
 induction As with
 |nil=>intro i j _ h;simp at h
 |cons A As ih=>
  intro i j nd h1 h2
  rw[List.flatten_cons,List.nodup_append]at nd
  cases i with
  |zero=>
   cases j with
   |zero=>rfl
   |succ j=>exact absurd rfl (nd.2.2 a (by simpa using h1) a (bB (by simpa using h2)))
  |succ i=>
   cases j with
   |zero=>exact absurd rfl (nd.2.2 a (by simpa using h2) a (bB (by simpa using h1)))
   |succ j=>exact congrArg (· +1) (ih (i:=i) (j:=j) nd.2.1 (by simpa using h1) (by simpa using h2))
theorem dm9{mv mw:List Nat}{te:TE}{tr:TA}{a:Fr->Res T}{r:Fr->Res (List T)}(ha:RE Jn K cn E mv te a)(hr:RA Jn K cn E mw tr r)(hd:(mv.all λi=>!mw.contains i)=true:=by rfl):RA Jn K cn E (mv++mw) (vC te tr) (aD a r):=λAs H Z ρ σ F Q w=>by
 unfold aD at w
 refine ha As H Z ρ σ F _ ?_
 cases e:a ρ with
 |ok t=>
  rw[e]at w
  intro v H1 Z1 B p
  refine hr As H1 Z1 ρ σ (F.mo p.mo) _ ?_
  simp only[Res.bind]at w
  cases e2:r ρ with
  |ok ts=>
   rw[e2]at w
   intro vs H2 Z2 B2 p2
   refine w (v::vs) H2 Z2 (B++B2) ⟨p.mo.trans p2.mo,?_,?_,?_,?_⟩
   . simp only[Reps]
     exact⟨v,vs,B,B2,rfl,rfl,p.rep.same p2.mo.same p2.mo.zz,p2.rep⟩
   . rw[List.nodup_append]
     refine⟨p.nd,p2.nd,λb hb c hc z=>?_⟩
     subst z
     obtain⟨o,ho,_⟩:=p.rep.dom t b hb
     rcases p2.bn b hc with q|⟨j,hj,q⟩
     . rw[ho]at q;cases q
     . rcases p.bn b hb with z|⟨i,hi,z⟩
       . obtain⟨o',ho',_⟩:=F.sl.dom b (bB q)
         rw[ho']at z;cases z
       . have eij:=vW F.nd z q
         subst eij
         have hh:=List.all_eq_true.mp hd i hi
         simp at hh
         exact hh hj
   . intro b hb
     rcases List.mem_append.mp hb with hb|hb
     . intro z
       rcases p2.mo.zn b z with z|z
       . exact p.bz b hb z
       . obtain⟨o,ho,_⟩:=p.rep.dom t b hb
         rw[ho]at z;cases z
     . exact p2.bz b hb
   . intro b hb
     rcases List.mem_append.mp hb with hb|hb
     . exact(p.bn b hb).imp_right λ⟨i,hi,z⟩=>⟨i,List.mem_append_left _ hi,z⟩
     . rcases p2.bn b hb with z|⟨i,hi,z⟩
       . exact .inl (p.same.free z)
       . exact .inr ⟨i,List.mem_append_right _ hi,z⟩
  |ex x=>rw[e2]at w;exact WpX.ev w p.mo.ev
  |no=>rw[e2]at w;exact w
 |ex x=>rw[e]at w;exact w
 |no=>rw[e]at w;exact w
theorem dc4(ha:RB Jn K cn E te a)(hr:yI Jn K cn E tr r):yI Jn K cn E (vC te tr) (aD a r):=λAs H Z ρ σ F Q w=>by
 unfold aD at w
 refine ha As H Z ρ σ F _ ?_
 cases e:a ρ with
 |ok t=>
  rw[e]at w
  intro v H1 Z1 B p
  refine hr As H1 Z1 ρ σ (F.mo p.mo) _ ?_
  simp only[Res.bind]at w
  cases e2:r ρ with
  |ok ts=>
   rw[e2]at w
   intro vs H2 Z2 B2 m2 r2
   refine w (v::vs) H2 Z2 (B++B2) (p.mo.trans m2) ?_
   simp only[Reps]
   exact⟨v,vs,B,B2,rfl,rfl,p.rep.same m2.same m2.zz,r2⟩
  |ex x=>rw[e2]at w;exact WpX.ev w p.mo.ev
  |no=>rw[e2]at w;exact w
 |ex x=>rw[e]at w;exact w
 |no=>rw[e]at w;exact w
def eY(r:Fr->Res (List T)):Fr->Res T:=λρ=>(r ρ).bind λts=>if ts.length<=sizeLine then .ok (.lst true ts)else .no
def cQ(r:Fr->Res (List T)):Fr->Res T:=λρ=>(r ρ).bind λts=>if ts.length<=sizeLine then .ok (.tup ts)else .no
theorem Mo.new(o:HO)(hp:H p=none)(zi:∀a,Z a->H a≠none):Mo H Z (L2.upd H p o) Z:=
 ⟨bu4 hp o,λ_ h=>h,λ_ h=>.inl h,λa h=>by
  by_cases e:a=p
  . subst e;rw[fG];exact(λz=>nomatch z)
  . rw[cR e];exact zi a h⟩
theorem ei0(h:RA Jn K cn E mv ta r):RE Jn K cn E mv (dz9 ta) (eY r):=λAs H Z ρ σ F Q w=>by
 unfold eY at w
 refine h As H Z ρ σ F _ ?_
 cases e:r ρ with
 |ok ts=>
  rw[e]at w
  intro vs H1 Z1 B p
  simp only[Res.bind]at w
  split at w
  . next hl=>
    refine⟨by rw[Reps.length ts p.rep];exact hl,λq hq=>?_⟩
    have hZ:¬Z1 q:=λz=>p.mo.zi q z hq
    have m:=Mo.new (.lst vs) hq p.mo.zi
    refine w (.ref q) _ Z1 (q::B) ⟨(p.mo.trans m).same,(p.mo.trans m).zz,(p.mo.trans m).zn,m.zi,?_,?_,?_,?_⟩
    . simp only[Rep]
      exact⟨q,vs,B,rfl,rfl,fG,p.rep.same m.same m.zz⟩
    . refine List.nodup_cons.mpr ⟨λhb=>?_,p.nd⟩
      obtain⟨o,ho,_⟩:=Reps.dom ts p.rep q hb
      rw[ho]at hq;cases hq
    . intro b hb
      rcases List.mem_cons.mp hb with rfl|hb
      . exact hZ
      . exact p.bz b hb
    . intro b hb
      rcases List.mem_cons.mp hb with rfl|hb
      . exact .inl (p.mo.same.free hq)
      . exact p.bn b hb
  . exact w.elim
 |ex x=>rw[e]at w;exact w
 |no=>rw[e]at w;exact w
theorem ed3(h:RA Jn K cn E mv ta r):RE Jn K cn E mv (eb1 ta) (cQ r):=λAs H Z ρ σ F Q w=>by
 unfold cQ at w
 refine h As H Z ρ σ F _ ?_
 cases e:r ρ with
 |ok ts=>
  rw[e]at w
  intro vs H1 Z1 B p
  simp only[Res.bind]at w
  split at w
  . next hl=>
    refine⟨by rw[Reps.length ts p.rep];exact hl,λq hq=>?_⟩
    have m:=Mo.new (.tup vs) hq p.mo.zi
    refine w (.ref q) _ Z1 B ⟨(p.mo.trans m).same,(p.mo.trans m).zz,(p.mo.trans m).zn,m.zi,?_,p.nd,p.bz,p.bn⟩
    simp only[Rep]
    exact⟨q,vs,rfl,SqT.of fG,p.rep.same m.same m.zz⟩
  . exact w.elim
 |ex x=>rw[e]at w;exact w
 |no=>rw[e]at w;exact w
def uB(K:PySem.W.Frag)(cn:Str->Option Addr)(r:List V->Hp->VK->Prop)(f:List T->Res T):Prop:=
 ∀(E:XK)(As:List (List Addr))(H:Hp)(Z:Addr->Prop)(ts:List T)(xs:List V)(A:List Addr)(Q:VK),(∀a,Z a->H a≠none)->Reps K cn H Z ts xs A->WpE K cn E As H Z [] Q (f ts)->r xs H Q
def bZ(f:List T->Res T)(r:Fr->Res (List T)):Fr->Res T:=λρ=>(r ρ).bind f
theorem el5(hr:uB K cn r f)(ha:yI Jn K cn E ta a):RE Jn K cn E [] (tCB r ta) (bZ f a):=λAs H Z ρ σ F Q w=>by
 unfold bZ at w
 refine ha As H Z ρ σ F _ ?_
 cases e:a ρ with
 |ok ts=>rw[e]at w;exact λvs H1 Z1 B m p=>hr E As H1 Z1 ts vs B Q m.zi p (WpE.mo F w m)
 |ex x=>rw[e]at w;exact w
 |no=>rw[e]at w;exact w
def RMR(K:PySem.W.Frag)(cn:Str->Option Addr)(ty:String)(r:V->List V->Hp->VK->Prop)(f:T->List T->Res T):Prop:=
 ∀(E:XK)(As:List (List Addr))(H:Hp)(Z:Addr->Prop)(t:T)(ts:List T)(x:V)(xs:List V)(A B:List Addr)(Q:VK),(∀a,Z a->H a≠none)->Rep K cn H Z t x A->Reps K cn H Z ts xs B->WpE K cn E As H Z [] Q (f t ts)->r x xs H Q
def dBM(ok:T->Bool)(f:T->List T->Res T)(o:Fr->Res T)(r:Fr->Res (List T)):Fr->Res T:=λρ=>(o ρ).bind λt=>if ok t=true then(r ρ).bind λts=>f t ts else .no
def ay2:T->Bool
 |.str _=>true
 |_=>false
def yA:T->Bool
 |.lst _ _=>true
 |_=>false
theorem cd8(h:ay2 t=true)(r:Rep K cn H Z t v B):tyV K "str" v H:=by
 cases t with
 |str x=>simp only[Rep]at r;obtain⟨rfl,_⟩:=r;rfl
 |_=>cases h
theorem Rep.lstSq(r:Rep K cn H Z (.lst o ts) v B):∃a vs C,v=.ref a/\SqS K H a vs/\Reps K cn H Z ts vs C/\C.Sublist B:=by
 cases o with
 |true=>
  simp only[Rep]at r
  obtain⟨a,vs,C,rfl,rfl,e,r⟩:=r
  exact⟨a,vs,C,rfl,.inl (.inl e),r,List.sublist_cons_self _ _⟩
 |false=>
  simp only[Rep]at r
  obtain⟨a,vs,rfl,rfl,e,r⟩:=r
  exact⟨a,vs,[],rfl,e.sqS,r,List.Sublist.slnil⟩
theorem ca7(h:yA t=true)(r:Rep K cn H Z t v B):tyV K "list" v H:=by
 cases t with
 |lst o xs=>obtain⟨a,vs,C,rfl,s,_⟩:=r.lstSq;exact .inl ⟨rfl,vs,s.sq⟩
 |_=>cases h
theorem dl5(hty:∀{H:Hp}{Z:Addr->Prop}{t:T}{v:V}{B:List Addr},ok t=true->Rep K cn H Z t v B->tyV K ty v H)(hr:RMR K cn ty r f)
 (ho:RB Jn K cn E to o)(ha:yI Jn K cn E ta a):RE Jn K cn E [] (tBM K ty r to ta) (dBM ok f o a):=λAs H Z ρ σ F Q w=>by
 unfold dBM at w
 refine ho As H Z ρ σ F _ ?_
 cases e:o ρ with
 |ok t=>
  rw[e]at w
  intro v H1 Z1 B p
  simp only[Res.bind]at w
  split at w
  . next hok=>
    refine⟨hty hok p.rep,ha As H1 Z1 ρ σ (F.mo p.mo) _ ?_⟩
    cases e2:a ρ with
    |ok ts=>rw[e2]at w;exact λvs H2 Z2 B2 m r2=>hr E As H2 Z2 t ts v vs B B2 Q m.zi (p.rep.same m.same m.zz) r2 (WpE.mo F w (p.mo.trans m))
    |ex x=>rw[e2]at w;exact WpX.ev w p.mo.ev
    |no=>rw[e2]at w;exact w
  . exact w.elim
 |ex x=>rw[e]at w;exact w
 |no=>rw[e]at w;exact w
def bN(K:PySem.W.Frag)(cn:Str->Option Addr)(n:Nat)(F:List T->Res T):Sp:=λvs H Q E=>vs.length=n/\∃ts Z,(∀a,Z a->H a≠none)/\Reps K cn H Z ts vs []/\WpE K cn E [] H Z [] Q (F ts)
def bE(n:Nat)(F:List T->Res T)(r:Fr->Res (List T)):Fr->Res T:=λρ=>(r ρ).bind λts=>if ts.length=n then match F (frzs ts)with
 |.ok t=>if(cG t||bA ts)=true then .ok t else .no
 |_=>.no else .no
theorem ec4(ha:yI Jn K cn E ta a):RE Jn K cn E [] (cz4 (bN K cn n G) ta) (bE n G a):=λAs H Z ρ σ F Q w=>by
 unfold bE at w
 refine ha As H Z ρ σ F _ ?_
 cases e:a ρ with
 |ok ts=>
  rw[e]at w
  intro vs H1 Z1 B m r1
  simp only[Res.bind]at w
  split at w
  . next hn=>
    refine⟨by rw[Reps.length ts r1,hn],frzs ts,(λa=>Z1 a\/a∈B),λa h=>?_,Reps.frz ts r1 (λa h=>.inl h) (λa h=>.inr h),?_⟩
    . rcases h with h|h
      . exact m.zi a h
      . obtain⟨o,q,_⟩:=Reps.dom ts r1 a h
        rw[q]
        exact(λz=>nomatch z)
    cases e2:G (frzs ts)with
    |ok t=>
     rw[e2]at w
     intro v H2 Z2 C p
     simp only at w
     split at w
     . next hc=>
       rw[Bool.or_eq_true]at hc
       have bn:∀b∈C,H1 b=none:=λb hb=>(p.bn b hb).resolve_right (λ⟨i,hi,_⟩=>by cases hi)
       by_cases hcl:cG t=true
       . refine w v H2 Z1 C ⟨m.same.trans p.same,m.zz,λa h=>m.zn a h,λa h=>?_,Rep.any t hcl p.rep,p.nd,λb hb z=>?_,λb hb=>.inl (m.same.free (bn b hb))⟩
         . intro q
           exact m.zi a h (p.same.free q)
         . exact m.zi b z (bn b hb)
       . have hno:=hc.resolve_left hcl
         have hB:=Reps.bare ts hno r1
         subst hB
         refine w v H2 Z2 C ⟨m.same.trans p.same,λa h=>p.zz a (.inl (m.zz a h)),λa h=>?_,p.zi,p.rep,p.nd,p.bz,λb hb=>.inl (m.same.free (bn b hb))⟩
         rcases p.zn a h with(h|h)|h
         . exact m.zn a h
         . cases h
         . exact .inr (m.same.free h)
     . exact w.elim
    |ex x=>rw[e2]at w;exact w.elim
    |no=>rw[e2]at w;exact w.elim
  . exact w.elim
 |ex x=>rw[e]at w;exact w
 |no=>rw[e]at w;exact w
def WpO(K:PySem.W.Frag)(cn:Str->Option Addr)(E:XK)(As:List (List Addr))(H:Hp)(Z:Addr->Prop)(Q:Option Int->Hp->Prop):Res (Option Int)->Prop
 |.ok o=>∀H' Z',Mo H Z H' Z'->Q o H'
 |.ex x=>WpX K cn E As H Z x
 |.no=>False
def RO(Jn:iO)(K:PySem.W.Frag)(cn:Str->Option Addr)(E:XK)(t:TO)(d:Fr->Res (Option Int)):Prop:=∀As H Z ρ σ,Frm Jn K cn H Z ρ σ As->∀Q,WpO K cn E As H Z Q (d ρ)->t σ H Q
def gU:Fr->Res (Option Int):=λ_=>.ok none
def toI:T->Res (Option Int)
 |.int i=>.ok (some i)
 |_=>.no
def iL(a:Fr->Res T):Fr->Res (Option Int):=λρ=>(a ρ).bind toI
theorem da8:RO Jn K cn E cg1 gU:=λAs H Z ρ σ F Q w=>w H Z F.mo0
theorem dk8(ha:RB Jn K cn E te a):RO Jn K cn E (dx5 te) (iL a):=λAs H Z ρ σ F Q w=>by
 unfold iL at w
 refine ha As H Z ρ σ F _ ?_
 cases e:a ρ with
 |ok t=>
  rw[e]at w
  intro v H1 Z1 B p
  cases t with
  |int i=>
   have q:=p.rep
   simp only[Rep]at q
   obtain⟨rfl,rfl⟩:=q
   exact⟨i,rfl,w H1 Z1 p.mo⟩
  |_=>exact False.elim w
 |ex x=>rw[e]at w;exact w
 |no=>rw[e]at w;exact w
def RSR(K:PySem.W.Frag)(cn:Str->Option Addr)(r:V->Option Int->Option Int->Hp->VK->Prop)(f:T->Option Int->Option Int->Res T):Prop:=
 ∀(E:XK)(As:List (List Addr))(H:Hp)(Z:Addr->Prop)(t:T)(x:V)(A:List Addr)(lo hi:Option Int)(Q:VK),(∀a,Z a->H a≠none)->Rep K cn H Z t x A->WpE K cn E As H Z [] Q (f t lo hi)->r x lo hi H Q
def qM(f:T->Option Int->Option Int->Res T)(a:Fr->Res T)(l h:Fr->Res (Option Int)):Fr->Res T:=λρ=>(a ρ).bind λt=>(l ρ).bind λlo=>(h ρ).bind λhi=>f t lo hi
theorem eb6(hr:RSR K cn r f)(ha:RB Jn K cn E te a)(hl:RO Jn K cn E tl l)(hh:RO Jn K cn E th h):RE Jn K cn E [] (tSl r te tl th) (qM f a l h):=λAs H Z ρ σ F Q w=>by
 unfold qM at w
 refine ha As H Z ρ σ F _ ?_
 cases e:a ρ with
 |ok t=>
  rw[e]at w
  intro v H1 Z1 B p
  refine hl As H1 Z1 ρ σ (F.mo p.mo) _ ?_
  simp only[Res.bind]at w
  cases e2:l ρ with
  |ok lo=>
   rw[e2]at w
   intro H2 Z2 m2
   have m12:=p.mo.trans m2
   refine hh As H2 Z2 ρ σ (F.mo m12) _ ?_
   simp only at w
   cases e3:h ρ with
   |ok hi=>
    rw[e3]at w
    intro H3 Z3 m3
    exact hr E As H3 Z3 t v B lo hi Q m3.zi (p.rep.same (m2.same.trans m3.same) λa h=>m3.zz a (m2.zz a h)) (WpE.mo F w (m12.trans m3))
   |ex x=>rw[e3]at w;exact WpX.ev w m12.ev
   |no=>rw[e3]at w;exact w
  |ex x=>rw[e2]at w;exact WpX.ev w p.mo.ev
  |no=>rw[e2]at w;exact w
 |ex x=>rw[e]at w;exact w
 |no=>rw[e]at w;exact w
end
end TL
namespace TL
open PySem PySem.Spec PyProof.Rows L2
section
variable {Jn : iO} {K : PySem.W.Frag} {cn : Str → Option Addr} {E : XK}
def SqF(fz k:Bool)(K:PySem.W.Frag)(H:Hp)(Z:Addr->Prop)(l:Addr)(xs:List V):Prop:=cond k (SqT K H l xs) (if fz=true then FzL K H Z l xs else SqL K H l xs)
def kB(ts us:List T):List T:=List.zipWith (λt u=>T.tup [t,u]) ts us
def ag3(ts:List T):List T:=List.zipWith (λi t=>T.tup [.int (i:Nat),t]) (List.range ts.length) ts
def Src(K:PySem.W.Frag)(cn:Str->Option Addr)(fz:Bool)(H:Hp)(Z:Addr->Prop)(J:It)(ts:List T):Prop:=
 (∃a vs,J=Itl K a/\(if fz=true then FzL K H Z a vs else SqL K H a vs)/\Reps K cn H Z ts vs [])\/
 (∃a vs,J=Itt K a/\SqT K H a vs/\Reps K cn H Z ts vs [])\/
 (∃(lo:Int)(n:Nat),J=Itr lo n/\ts=(List.range n).map λi=>T.int (lo+(i:Nat)))\/
 (∃z:Str,J=Its z/\ts=z.cps.toList.map λc=>T.str ⟨#[c]⟩)\/
 (∃k1 k2 l1 l2 vs ws us us',J=Itz K k1 k2 l1 l2/\SqF fz k1 K H Z l1 vs/\SqF fz k2 K H Z l2 ws/\Reps K cn H Z us vs []/\Reps K cn H Z us' ws []/\ts=kB us us')\/
 (∃l vs us,J=Ite K l/\SqF fz false K H Z l vs/\Reps K cn H Z us vs []/\ts=ag3 us)
theorem bb0(h:if fz=true then FzL K H Z a vs else SqL K H a vs):SqL K H a vs:=by
 cases fz with
 |true=>rw[if_pos rfl]at h;exact h.sq
 |false=>rw[if_neg (by decide)]at h;exact h
theorem SqF.sq(h:SqF fz k K H Z l xs):SqK k K H l xs:=by
 cases k with
 |true=>exact h
 |false=>exact bb0 h
theorem br2:∀{us us':List T}{i:Nat},(kB us us')[i]?=some t->∃t1 t2,us[i]?=some t1/\us'[i]?=some t2/\t=.tup [t1,t2]:=by
 intro us us' i h
 unfold kB at h
 rw[List.getElem?_zipWith]at h
 cases h1:us[i]? with
 |none=>rw[h1]at h;cases h
 |some t1=>
  cases h2:us'[i]? with
  |none=>rw[h1,h2]at h;cases h
  |some t2=>
   rw[h1,h2]at h
   exact⟨t1,t2,rfl,rfl,(Option.some.inj h).symm⟩
theorem aa1(us us':List T):(kB us us').length=min us.length us'.length:=by simp[kB]
theorem bt1(us:List T):(ag3 us).length=us.length:=by simp[ag3]
theorem bk2{t:T}{us:List T}{i:Nat}(h:(ag3 us)[i]?=some t):∃t2,us[i]?=some t2/\t=.tup [.int i,t2]:=by
 unfold ag3 at h
 rw[List.getElem?_zipWith]at h
 cases h2:us[i]? with
 |none=>rw[h2]at h;cases q:(List.range us.length)[i]?<;>rw[q]at h<;>cases h
 |some t2=>
  have hi:=(List.getElem?_eq_some_iff.mp h2).1
  rw[h2,List.getElem?_range hi]at h
  exact⟨t2,rfl,(Option.some.inj h).symm⟩
theorem bn7(ex:x=.ref p)(hp:H p=some (.tup [v1,v2]))(h1:Rep K cn H Z t1 v1 [])(h2:Rep K cn H Z t2 v2 []):Rep K cn H Z (.tup [t1,t2]) x []:=by
 simp only[Rep]
 refine⟨p,[v1,v2],ex,SqT.of hp,?_⟩
 simp only[Reps]
 exact⟨v1,[v2],[],[],rfl,rfl,h1,v2,[],[],[],rfl,rfl,h2,rfl,rfl⟩
theorem Src.turn{fz:Bool}{H:Hp}{Z:Addr->Prop}{J:It}{ts:List T}{i:Nat}{t:T}(h:Src K cn fz H Z J ts)(zi:∀a,Z a->H a≠none)(e:ts[i]?=some t):J.go i H/\∀x H',J.yld i H x H'->Mo H Z H' Z/\Rep K cn H' Z t x []:=by
 have m0:Mo H Z H Z:=⟨Same.refl _,λ_ h=>h,λ_ h=>.inl h,zi⟩
 rcases h with⟨a,vs,rfl,hs,r⟩|⟨a,vs,rfl,hs,r⟩|⟨lo,n,rfl,rfl⟩|⟨z,rfl,rfl⟩|⟨k1,k2,l1,l2,vs,ws,us,us',rfl,q1,q2,r1,r2,rfl⟩|⟨l,vs,us,rfl,q1,r1,rfl⟩
 . obtain⟨v,B,ev,rv,hB,_⟩:=Reps.get ts r e
   have hs:=bb0 hs
   have eB:B=[]:=List.eq_nil_iff_forall_not_mem.mpr λb hb=>by cases hB b hb
   subst eB
   refine⟨⟨vs,v,hs,ev⟩,λx H' ⟨e1,e2⟩=>⟨e1▸m0,?_⟩⟩
   subst e1
   have:=e2 vs hs
   rw[ev]at this
   cases this
   exact rv
 . obtain⟨v,B,ev,rv,hB,_⟩:=Reps.get ts r e
   have eB:B=[]:=List.eq_nil_iff_forall_not_mem.mpr λb hb=>by cases hB b hb
   subst eB
   refine⟨⟨vs,v,hs,ev⟩,λx H' ⟨e1,e2⟩=>⟨e1▸m0,?_⟩⟩
   subst e1
   have:=e2 vs hs
   rw[ev]at this
   cases this
   exact rv
 . rw[List.getElem?_map]at e
   cases q:(List.range n)[i]? with
   |none=>rw[q]at e;cases e
   |some j=>
    rw[q]at e
    obtain⟨h1,h2⟩:=List.getElem?_eq_some_iff.mp q
    simp at h1 h2
    subst h2
    cases e
    refine⟨h1,λx H' ⟨e1,e2⟩=>⟨e1▸m0,?_⟩⟩
    subst e1
    subst e2
    simp[Rep]
 . rw[List.getElem?_map]at e
   cases q:z.cps.toList[i]? with
   |none=>rw[q]at e;cases e
   |some c=>
    rw[q]at e
    cases e
    have h1:=(List.getElem?_eq_some_iff.mp q).1
    refine⟨show i<z.cps.size by simpa using h1,λx H' ⟨e1,c',e2,e3⟩=>⟨e1▸m0,?_⟩⟩
    subst e1
    rw[<-Array.getElem?_toList]at e2
    rw[q]at e2
    cases e2
    subst e3
    simp[Rep]
 . obtain⟨t1,t2,e1,e2,rfl⟩:=br2 e
   obtain⟨v1,B1,ev1,rv1,hB1,_⟩:=Reps.get us r1 e1
   obtain⟨v2,B2,ev2,rv2,hB2,_⟩:=Reps.get us' r2 e2
   have n1:B1=[]:=List.eq_nil_iff_forall_not_mem.mpr λb hb=>by cases hB1 b hb
   have n2:B2=[]:=List.eq_nil_iff_forall_not_mem.mpr λb hb=>by cases hB2 b hb
   subst n1 n2
   refine⟨⟨vs,ws,v1,v2,q1.sq,q2.sq,ev1,ev2⟩,λx H' ⟨p,hp,ex,h⟩=>?_⟩
   obtain⟨y1,y2,f1,f2,rfl⟩:=h vs ws q1.sq q2.sq
   rw[ev1]at f1
   rw[ev2]at f2
   cases f1
   cases f2
   have m:=Mo.new (.tup [v1,v2]) hp zi
   exact⟨m,bn7 ex fG (rv1.same m.same m.zz) (rv2.same m.same m.zz)⟩
 . obtain⟨t2,e2,rfl⟩:=bk2 e
   obtain⟨v2,B2,ev2,rv2,hB2,_⟩:=Reps.get us r1 e2
   have n2:B2=[]:=List.eq_nil_iff_forall_not_mem.mpr λb hb=>by cases hB2 b hb
   subst n2
   refine⟨⟨vs,v2,q1.sq,ev2⟩,λx H' ⟨p,hp,ex,h⟩=>?_⟩
   obtain⟨y2,f2,rfl⟩:=h vs q1.sq
   rw[ev2]at f2
   cases f2
   have m:=Mo.new (.tup [.int i,v2]) hp zi
   exact⟨m,bn7 ex fG (by simp[Rep]) (rv2.same m.same m.zz)⟩
theorem Src.stop(h:Src K cn fz H Z J ts)(e:ts.length<=i):J.stop i H:=by
 rcases h with⟨a,vs,rfl,hs,r⟩|⟨a,vs,rfl,hs,r⟩|⟨lo,n,rfl,rfl⟩|⟨z,rfl,rfl⟩|⟨k1,k2,l1,l2,vs,ws,us,us',rfl,q1,q2,r1,r2,rfl⟩|⟨l,vs,us,rfl,q1,r1,rfl⟩
 . exact⟨vs,bb0 hs,by rw[Reps.length ts r];exact e⟩
 . exact⟨vs,hs,by rw[Reps.length ts r];exact e⟩
 . show n<=i
   simpa using e
 . have:z.cps.size<=i:=by simpa using e
   exact this
 . refine⟨vs,ws,q1.sq,q2.sq,?_⟩
   rw[Reps.length us r1,Reps.length us' r2]
   rw[aa1]at e
   omega
 . refine⟨vs,q1.sq,?_⟩
   rw[Reps.length us r1]
   rw[bt1]at e
   exact e
theorem Same.sqT(e:Same H H')(h:SqT K H a xs):SqT K H' a xs:=SqT.keep h λb o q _=>e b o q
theorem SqF.mo(h:SqF fz k K H Z l xs)(m:Mo H Z H' Z'):SqF fz k K H' Z' l xs:=by
 cases k with
 |true=>exact Same.sqT m.same h
 |false=>
  cases fz with
  |true=>exact FzL.keep (show FzL K H Z l xs from h) (λb o q _=>m.same b o q) m.zz
  |false=>exact m.same.seq (show SqL K H l xs from h)
theorem SqF.kept(h:SqF true k K H Z l xs)(kz:∀b o,H b=some o->(Z b\/rC o=true)->H' b=some o)(hz:∀a,Z a->Z' a):SqF true k K H' Z' l xs:=by
 cases k with
 |true=>exact SqT.keep (show SqT K H l xs from h) λb o q c=>kz b o q (.inr c)
 |false=>exact FzL.keep (show FzL K H Z l xs from h) kz hz
theorem Src.mo(h:Src K cn fz H Z J ts)(m:Mo H Z H' Z'):Src K cn fz H' Z' J ts:=by
 rcases h with⟨a,vs,rfl,hs,r⟩|⟨a,vs,rfl,hs,r⟩|h|h|⟨k1,k2,l1,l2,vs,ws,us,us',rfl,q1,q2,r1,r2,rfl⟩|⟨l,vs,us,rfl,q1,r1,rfl⟩
 . refine .inl ⟨a,vs,rfl,?_,r.same m.same m.zz⟩
   cases fz with
   |true=>rw[if_pos rfl]at hs⊢;exact hs.keep (λb o q _=>m.same b o q) m.zz
   |false=>rw[if_neg (by decide)]at hs⊢;exact m.same.seq hs
 . exact .inr (.inl ⟨a,vs,rfl,Same.sqT m.same hs,r.same m.same m.zz⟩)
 . exact .inr (.inr (.inl h))
 . exact .inr (.inr (.inr (.inl h)))
 . exact .inr (.inr (.inr (.inr (.inl ⟨k1,k2,l1,l2,vs,ws,us,us',rfl,q1.mo m,q2.mo m,r1.same m.same m.zz,r2.same m.same m.zz,rfl⟩))))
 . exact .inr (.inr (.inr (.inr (.inr ⟨l,vs,us,rfl,q1.mo m,r1.same m.same m.zz,rfl⟩))))
theorem Src.ev(h:Src K cn true H Z J ts)(F:Frm Jn K cn H Z ρ σ As)(e:Ev As H Z As' H' Z'):Src K cn true H' Z' J ts:=by
 have kz:∀b o,H b=some o->(Z b\/rC o=true)->H' b=some o:=λb o q c=>e.keep b o q λhb=>by
  rcases c with c|c
  . exact F.nz b hb c
  . obtain⟨o',q',i'⟩:=F.sl.dom b hb
    rw[q]at q'
    cases q'
    rw[c]at i'
    cases i'
 rcases h with⟨a,vs,rfl,hs,r⟩|⟨a,vs,rfl,hs,r⟩|h|h|⟨k1,k2,l1,l2,vs,ws,us,us',rfl,q1,q2,r1,r2,rfl⟩|⟨l,vs,us,rfl,q1,r1,rfl⟩
 . rw[if_pos rfl]at hs
   refine .inl ⟨a,vs,rfl,?_,Reps.keep ts r (λb o q c=>kz b o q (c.resolve_left ((λz=>nomatch z)))) e.zz⟩
   rw[if_pos rfl]
   exact hs.keep kz e.zz
 . exact .inr (.inl ⟨a,vs,rfl,SqT.keep hs (λb o q c=>kz b o q (.inr c)),Reps.keep ts r (λb o q c=>kz b o q (c.resolve_left ((λz=>nomatch z)))) e.zz⟩)
 . exact .inr (.inr (.inl h))
 . exact .inr (.inr (.inr (.inl h)))
 . exact .inr (.inr (.inr (.inr (.inl ⟨k1,k2,l1,l2,vs,ws,us,us',rfl,q1.kept kz e.zz,q2.kept kz e.zz,Reps.keep us r1 (λb o q c=>kz b o q (c.resolve_left ((λz=>nomatch z)))) e.zz,Reps.keep us' r2 (λb o q c=>kz b o q (c.resolve_left ((λz=>nomatch z)))) e.zz,rfl⟩))))
 . exact .inr (.inr (.inr (.inr (.inr ⟨l,vs,us,rfl,q1.kept kz e.zz,Reps.keep us r1 (λb o q c=>kz b o q (c.resolve_left ((λz=>nomatch z)))) e.zz,rfl⟩))))
def WpI(K:PySem.W.Frag)(cn:Str->Option Addr)(E:XK)(fz:Bool)(As:List (List Addr))(H:Hp)(Z:Addr->Prop)(R:It->Hp->Prop):Res (List T)->Prop
 |.ok ts=>∀J H' Z',Mo H Z H' Z'->Src K cn fz H' Z' J ts->R J H'
 |.ex x=>WpX K cn E As H Z x
 |.no=>False
def RI(Jn:iO)(K:PySem.W.Frag)(cn:Str->Option Addr)(E:XK)(fz:Bool)(wi:TI)(d:Fr->Res (List T)):Prop:=∀As H Z ρ σ,Frm Jn K cn H Z ρ σ As->∀R,WpI K cn E fz As H Z R (d ρ)->wi σ H R
noncomputable def gate{α:Type}(p:Prop)(a:Res α):Res α:=@ite _ p (Classical.propDecidable p) a .no
theorem ar1(a:Res α):gate True a=a:=by unfold gate;rw[if_pos trivial]
theorem jA(h:p):gate p a=a:=by unfold gate;rw[if_pos h]
theorem WpI.gate(w:WpI K cn E fz As H Z R (TL.gate p r)):p/\WpI K cn E fz As H Z R r:=by
 unfold TL.gate at w
 split at w
 . exact⟨by assumption,w⟩
 . exact w.elim
theorem WpE.gate(w:WpE K cn E As H Z mv Q (TL.gate p r)):p/\WpE K cn E As H Z mv Q r:=by
 unfold TL.gate at w
 split at w
 . exact⟨by assumption,w⟩
 . exact w.elim
def gZ(lo:Int)(n:Nat):List T:=(List.range n).map λi=>T.int (lo+(i:Nat))
noncomputable def lO:List T->Res (List T)
 |[.int j]=>gate (-(2^62)<=j/\j<2^62) (.ok (gZ 0 j.toNat))
 |_=>.no
noncomputable def cd5:List T->Res (List T)
 |[.int i,.int j]=>gate (-(2^62)<=i/\i<2^62/\-(2^62)<=j/\j<2^62) (.ok (gZ i (j-i).toNat))
 |_=>.no
def gN(f:List T->Res (List T))(a:Fr->Res (List T)):Fr->Res (List T):=λρ=>(a ρ).bind f
theorem Reps.ints1(r:Reps K cn H Z [.int i] vs A):vs=[.int i]:=by
 simp only[Reps,Rep]at r
 obtain⟨v,w,B,C,rfl,rfl,⟨rfl,rfl⟩,rfl,rfl⟩:=r
 rfl
theorem Reps.ints2(r:Reps K cn H Z [.int i,.int j] vs A):vs=[.int i,.int j]:=by
 simp only[Reps,Rep]at r
 obtain⟨v,w,B,C,rfl,rfl,⟨rfl,rfl⟩,v2,w2,B2,C2,rfl,rfl,⟨rfl,rfl⟩,rfl,rfl⟩:=r
 rfl
theorem db7(ha:yI Jn K cn E ta a):RI Jn K cn E fz (dq5 ta) (gN lO a):=λAs H Z ρ σ F R w=>by
 unfold gN at w
 refine ha As H Z ρ σ F _ ?_
 cases e:a ρ with
 |ok ts=>
  rw[e]at w
  intro vs H1 Z1 B m r
  simp only[Res.bind]at w
  unfold lO at w
  split at w
  . next j=>
    obtain⟨hb,w⟩:=w.gate
    exact⟨j,r.ints1,hb.1,hb.2,w (Itr 0 j.toNat) H1 Z1 m (.inr (.inr (.inl ⟨0,j.toNat,rfl,rfl⟩)))⟩
  . exact w.elim
 |ex x=>rw[e]at w;exact w
 |no=>rw[e]at w;exact w
theorem dt7(ha:yI Jn K cn E ta a):RI Jn K cn E fz (dd6 ta) (gN cd5 a):=λAs H Z ρ σ F R w=>by
 unfold gN at w
 refine ha As H Z ρ σ F _ ?_
 cases e:a ρ with
 |ok ts=>
  rw[e]at w
  intro vs H1 Z1 B m r
  simp only[Res.bind]at w
  unfold cd5 at w
  split at w
  . next i j=>
    obtain⟨hb,w⟩:=w.gate
    exact⟨i,j,r.ints2,hb,w (Itr i (j-i).toNat) H1 Z1 m (.inr (.inr (.inl ⟨i,_,rfl,rfl⟩)))⟩
  . exact w.elim
 |ex x=>rw[e]at w;exact w
 |no=>rw[e]at w;exact w
def iV(K:PySem.W.Frag)(tl:TE):TI:=λσ H R=>tl σ H λx H1=>(∃a,x=.ref a/\(((∃xs,SqL K H1 a xs)/\R (Itl K a) H1)\/((∃xs,SqT K H1 a xs)/\R (Itt K a) H1)))\/∃z,x=.str z/\R (Its z) H1
def kD:T->Res (List T)
 |.lst _ ts=>if bA ts=true then .ok ts else .no
 |.tup ts=>if bA ts=true then .ok ts else .no
 |.str z=>.ok (z.cps.toList.map λc=>T.str ⟨#[c]⟩)
 |_=>.no
def uC:T->Res (List T)
 |.lst o ts=>if(!o&&bA ts)=true then .ok ts else .no
 |.tup ts=>if bA ts=true then .ok ts else .no
 |.str z=>.ok (z.cps.toList.map λc=>T.str ⟨#[c]⟩)
 |_=>.no
def gS(f:T->Res (List T))(a:Fr->Res T):Fr->Res (List T):=λρ=>(a ρ).bind f
theorem Reps.bareE(r:Reps K cn H Z ts vs A)(h:bA ts=true):Reps K cn H Z ts vs []:=by
 have:=Reps.bare ts h r
 subst this
 exact r
theorem ey7(ha:RB Jn K cn E tl a):RI Jn K cn E false (iV K tl) (gS kD a):=λAs H Z ρ σ F R w=>by
 unfold gS at w
 refine ha As H Z ρ σ F _ ?_
 cases e:a ρ with
 |ok t=>
  rw[e]at w
  intro v H1 Z1 B p
  simp only[Res.bind]at w
  cases t with
  |lst o ts=>
   simp only[kD]at w
   split at w
   . next hn=>
     obtain⟨b,vs,C,rfl,hs,r,_⟩:=p.rep.lstSq
     have hs:=hs.sq
     exact .inl ⟨b,rfl,.inl ⟨⟨vs,hs⟩,w _ H1 Z1 p.mo (.inl ⟨b,vs,rfl,by rw[if_neg (by decide)];exact hs,r.bareE hn⟩)⟩⟩
   . exact w.elim
  |tup ts=>
   simp only[kD]at w
   split at w
   . next hn=>
     have q:=p.rep
     simp only[Rep]at q
     obtain⟨b,vs,rfl,hs,r⟩:=q
     exact .inl ⟨b,rfl,.inr ⟨⟨vs,hs⟩,w _ H1 Z1 p.mo (.inr (.inl ⟨b,vs,rfl,hs,r.bareE hn⟩))⟩⟩
   . exact w.elim
  |str z=>
   have q:=p.rep
   simp only[Rep]at q
   obtain⟨rfl,_⟩:=q
   exact .inr ⟨z,rfl,w _ H1 Z1 p.mo (.inr (.inr (.inr (.inl ⟨z,rfl,rfl⟩))))⟩
  |_=>exact w.elim
 |ex x=>rw[e]at w;exact w
 |no=>rw[e]at w;exact w
theorem eu7(ha:RB Jn K cn E tl a):RI Jn K cn E true (iV K tl) (gS uC a):=λAs H Z ρ σ F R w=>by
 unfold gS at w
 refine ha As H Z ρ σ F _ ?_
 cases e:a ρ with
 |ok t=>
  rw[e]at w
  intro v H1 Z1 B p
  simp only[Res.bind]at w
  cases t with
  |lst o ts=>
   simp only[uC]at w
   split at w
   . next hn=>
     rw[Bool.and_eq_true]at hn
     cases o with
     |true=>exact absurd hn.1 (by decide)
     |false=>
      have q:=p.rep
      simp only[Rep]at q
      obtain⟨b,vs,rfl,rfl,hs,r⟩:=q
      exact .inl ⟨b,rfl,.inl ⟨⟨vs,hs.sq⟩,w _ H1 Z1 p.mo (.inl ⟨b,vs,rfl,by rw[if_pos rfl];exact hs,r⟩)⟩⟩
   . exact w.elim
  |tup ts=>
   simp only[uC]at w
   split at w
   . next hn=>
     have q:=p.rep
     simp only[Rep]at q
     obtain⟨b,vs,rfl,hs,r⟩:=q
     exact .inl ⟨b,rfl,.inr ⟨⟨vs,hs⟩,w _ H1 Z1 p.mo (.inr (.inl ⟨b,vs,rfl,hs,r.bareE hn⟩))⟩⟩
   . exact w.elim
  |str z=>
   have q:=p.rep
   simp only[Rep]at q
   obtain⟨rfl,_⟩:=q
   exact .inr ⟨z,rfl,w _ H1 Z1 p.mo (.inr (.inr (.inr (.inl ⟨z,rfl,rfl⟩))))⟩
  |_=>exact w.elim
 |ex x=>rw[e]at w;exact w
 |no=>rw[e]at w;exact w
def ab0(fz:Bool):T->Option (List T)
 |.lst o ts=>if((!fz||!o)&&bA ts)=true then some ts else none
 |.tup ts=>if bA ts=true then some ts else none
 |_=>none
def al5(fz:Bool):List T->Res (List T)
 |[t,u]=>match ab0 fz t,ab0 fz u with
  |some ts,some us=>.ok (kB ts us)
  |_,_=>.no
 |_=>.no
def ap9(fz:Bool):List T->Res (List T)
 |[.lst o ts]=>if((!fz||!o)&&bA ts)=true then .ok (ag3 ts)else .no
 |_=>.no
theorem cx0(r:Rep K cn H Z (.lst o ts) v A)(hc:((!fz||!o)&&bA ts)=true):∃l vs,v=.ref l/\SqF fz false K H Z l vs/\Reps K cn H Z ts vs []:=by
 rw[Bool.and_eq_true]at hc
 cases o with
 |true=>
  simp only[Rep]at r
  obtain⟨a,vs,B,rfl,rfl,e,r⟩:=r
  cases fz with
  |true=>simp at hc
  |false=>exact⟨a,vs,rfl,SqL.of e,r.bareE hc.2⟩
 |false=>
  simp only[Rep]at r
  obtain⟨a,vs,rfl,rfl,e,r⟩:=r
  cases fz with
  |true=>exact⟨a,vs,rfl,e,r⟩
  |false=>exact⟨a,vs,rfl,e.sq,r⟩
theorem cm0(r:Rep K cn H Z t v A)(h:ab0 fz t=some ts):∃k l vs,v=.ref l/\SqF fz k K H Z l vs/\Reps K cn H Z ts vs []:=by
 cases t with
 |lst o us=>
  simp only[ab0]at h
  split at h
  . next hc=>
    cases h
    exact⟨false,cx0 r hc⟩
  . cases h
 |tup us=>
  simp only[ab0]at h
  split at h
  . next hc=>
    cases h
    simp only[Rep]at r
    obtain⟨a,vs,rfl,e,r⟩:=r
    exact⟨true,a,vs,rfl,e,r.bareE hc⟩
  . cases h
 |_=>simp[ab0]at h
theorem ds9(ha:yI Jn K cn E ta a):RI Jn K cn E fz (dq2 K ta) (gN (al5 fz) a):=λAs H Z ρ σ F R w=>by
 unfold gN at w
 refine ha As H Z ρ σ F _ ?_
 cases e:a ρ with
 |ok ts=>
  rw[e]at w
  intro vs H1 Z1 B m r1
  simp only[Res.bind]at w
  unfold al5 at w
  split at w
  . next t u=>
    split at w
    . next p q h1 h2=>
      simp only[Reps]at r1
      obtain⟨v,r',B1,C1,rfl,rfl,ra,v2,r2,B2,C2,rfl,rfl,rb,rfl,rfl⟩:=r1
      obtain⟨k1,l1,us,rfl,s1,p1⟩:=cm0 ra h1
      obtain⟨k2,l2,us',rfl,s2,p2⟩:=cm0 rb h2
      exact⟨k1,k2,l1,l2,rfl,⟨_,s1.sq⟩,⟨_,s2.sq⟩,w _ H1 Z1 m (.inr (.inr (.inr (.inr (.inl ⟨k1,k2,l1,l2,us,us',_,_,rfl,s1,s2,p1,p2,rfl⟩)))))⟩
    . exact w.elim
  . exact w.elim
 |ex x=>rw[e]at w;exact w
 |no=>rw[e]at w;exact w
theorem dk9(ha:yI Jn K cn E ta a):RI Jn K cn E fz (ch4 K ta) (gN (ap9 fz) a):=λAs H Z ρ σ F R w=>by
 unfold gN at w
 refine ha As H Z ρ σ F _ ?_
 cases e:a ρ with
 |ok ts=>
  rw[e]at w
  intro vs H1 Z1 B m r1
  simp only[Res.bind]at w
  unfold ap9 at w
  split at w
  . next o ts=>
    split at w
    . next hc=>
      simp only[Reps]at r1
      obtain⟨v,r',B1,C1,rfl,rfl,ra,rfl,rfl⟩:=r1
      obtain⟨l1,us,rfl,s1,p1⟩:=cx0 (fz:=fz) ra hc
      exact⟨l1,rfl,⟨_,s1.sq⟩,w _ H1 Z1 m (.inr (.inr (.inr (.inr (.inr ⟨l1,us,_,rfl,s1,p1,rfl⟩)))))⟩
    . exact w.elim
  . exact w.elim
 |ex x=>rw[e]at w;exact w
 |no=>rw[e]at w;exact w
def RG(Jn:iO)(K:PySem.W.Frag)(cn:Str->Option Addr)(ks:List Nat)(g:TG)(b:T->Fr->Option Fr):Prop:=
 ∀As H Z ρ σ t v B,Frm Jn K cn H Z ρ σ As->Rep K cn H Z t v B->B.Nodup->(∀x∈B,¬Z x)->(∀x∈B,x∉As.flatten)->∀(Q:St->Hp->Prop) ρ',b t ρ=some ρ'->
  (∀σ' As',Frm Jn K cn H Z ρ' σ' As'->(∀a∈As'.flatten,a∈As.flatten\/a∈B)->σ'.length=σ.length->(∀i,i∉ks->σ'[i]?=σ[i]?)->Q σ' H)->g v σ H Q
structure RGs (Jn:iO) (K:PySem.W.Frag) (cn:Str->Option Addr) (ks:List Nat) (n:Nat) (g:TGs) (b:List T->Fr->Option Fr):Prop where
 len:∀ts ρ ρ',b ts ρ=some ρ'->ts.length=n
 run:∀As H Z ρ σ ts vs B,Frm Jn K cn H Z ρ σ As->Reps K cn H Z ts vs B->B.Nodup->(∀x∈B,¬Z x)->(∀x∈B,x∉As.flatten)->∀(Q:St->Hp->Prop) ρ',b ts ρ=some ρ'->
  (∀σ' As',Frm Jn K cn H Z ρ' σ' As'->(∀a∈As'.flatten,a∈As.flatten\/a∈B)->σ'.length=σ.length->(∀i,i∉ks->σ'[i]?=σ[i]?)->Q σ' H)->g vs σ H Q
def aI(i:Nat):T->Fr->Option Fr:=λt ρ=>some (ρ.set i (some t))
def eO:List T->Fr->Option Fr
 |[],ρ=>some ρ
 |_::_,_=>none
def aX(b:T->Fr->Option Fr)(bs:List T->Fr->Option Fr):List T->Fr->Option Fr
 |[],_=>none
 |t::ts,ρ=>match b t ρ with
  |some ρ1=>bs ts ρ1
  |none=>none
def eI(bs:List T->Fr->Option Fr):T->Fr->Option Fr
 |.tup ts,ρ=>bs ts ρ
 |_,_=>none
theorem cr0(i:Nat)(hJ:uK Jn i=true:=by rfl):RG Jn K cn [i] (ad3 i) (aI i):=λAs H Z ρ σ t v B F r nd bz bo Q ρ' e h=>by
 cases e
 refine h _ (As.set i B) (F.set r nd bz i (λb hb hA=>absurd hA (bo b hb)) hJ) (λa ha=>(eD ha).symm) (by rw[List.length_set]) λj hj=>?_
 rw[List.getElem?_set_ne (λz=>hj (by rw[z];exact List.mem_cons_self))]
theorem dn9:RGs Jn K cn [] 0 ed4 eO where
 len:=λts ρ ρ' e=>by
  cases ts with
  |nil=>rfl
  |cons _ _=>cases e
 run:=λAs H Z ρ σ ts vs B F r nd bz bo Q ρ' e h=>by
  cases ts with
  |nil=>
   cases e
   simp only[Reps]at r
   exact⟨r.1,h σ As F (λa ha=>.inl ha) rfl λ_ _=>rfl⟩
  |cons _ _=>cases e
theorem df3(h1:RG Jn K cn ks g b)(h2:RGs Jn K cn ls n gs bs):RGs Jn K cn (ks++ls) (n+1) (cc5 g gs) (aX b bs) where
 len:=λts ρ ρ' e=>by
  cases ts with
  |nil=>cases e
  |cons t ts=>
   simp only[aX]at e
   cases e1:b t ρ with
   |none=>rw[e1]at e;cases e
   |some ρ1=>rw[e1]at e;rw[List.length_cons,h2.len ts ρ1 ρ' e]
 run:=λAs H Z ρ σ ts vs B F r nd bz bo Q ρ' e h=>by
  cases ts with
  |nil=>cases e
  |cons t ts=>
   simp only[aX]at e
   cases e1:b t ρ with
   |none=>rw[e1]at e;cases e
   |some ρ1=>
    rw[e1]at e
    simp only[Reps]at r
    obtain⟨v,vs',B1,B2,rfl,rfl,r1,r2⟩:=r
    rw[List.nodup_append]at nd
    refine⟨v,vs',rfl,h1 As H Z ρ σ t v B1 F r1 nd.1 (λx hx=>bz x (List.mem_append_left _ hx)) (λx hx=>bo x (List.mem_append_left _ hx)) _ ρ1 e1 λσ1 As1 F1 o1 l1 k1=>?_⟩
    refine h2.run As1 H Z ρ1 σ1 ts vs' B2 F1 r2 nd.2.1 (λx hx=>bz x (List.mem_append_right _ hx)) (λx hx hA=>?_) Q ρ' e λσ2 As2 F2 o2 l2 k2=>?_
    . rcases o1 x hA with z|z
      . exact bo x (List.mem_append_right _ hx) z
      . exact nd.2.2 x z x hx rfl
    . refine h σ2 As2 F2 (λa ha=>?_) (l2.trans l1) λi hi=>?_
      . rcases o2 a ha with z|z
        . exact(o1 a z).imp_right (List.mem_append_left _)
        . exact .inr (List.mem_append_right _ z)
      . rw[k2 i (λz=>hi (List.mem_append_right _ z)),k1 i (λz=>hi (List.mem_append_left _ z))]
theorem ej1(h:RGs Jn K cn ks n gs bs):RG Jn K cn ks (dp3 K n gs) (eI bs):=λAs H Z ρ σ t v B F r nd bz bo Q ρ' e h'=>by
 cases t with
 |tup ts=>
  simp only[eI]at e
  simp only[Rep]at r
  obtain⟨a,vs,rfl,hs,r⟩:=r
  exact⟨a,vs,rfl,hs,by rw[Reps.length ts r];exact h.len ts ρ ρ' e,h.run As H Z ρ σ ts vs B F r nd bz bo Q ρ' e h'⟩
 |_=>cases e
def cM(b:T->Fr->Option Fr)(c:Fr->Res Bool)(d:Fr->Res T)(ρ:Fr):List T->Res (List T)
 |[]=>.ok []
 |t::ts=>match b t ρ with
  |none=>.no
  |some ρ1=>(c ρ1).bind λk=>if k=true then(d ρ1).bind λu=>(cM b c d ρ ts).bind λus=>.ok (u::us)else cM b c d ρ ts
def dR(ks:List Nat)(di:Fr->Res (List T))(b:T->Fr->Option Fr)(c:Fr->Res Bool)(d:Fr->Res T):Fr->Res T:=λρ=>
 (di ρ).bind λts=>if ts.length<=sizeLine then(cM b c d (kills ks ρ) ts).bind λus=>.ok (.lst true us)else .no
def cK:Fr->Res Bool:=λ_=>.ok true
theorem ea1:RT Jn K cn E ec0 cK:=λAs H Z ρ σ F Q w=>w H Z F.mo0.postT
theorem Slots.clr(ks:List Nat):∀{ρ:Fr}{σ:St}{As:List (List Addr)},Slots K cn H Z ρ σ As->Slots K cn H Z (kills ks ρ) (L2.clr ks σ) (fR ks As):=by
 induction ks with
 |nil=>exact λh=>h
 |cons k ks ih=>exact λh=>ih (h.kill2 none k)
def yC(Jn:iO)(ks:List Nat):Bool:=ks.all (uK Jn)
theorem ar6:∀(ks:List Nat){σ:St},yC Jn ks=true->(∀p∈Jn,σ[p.1]?=some (some p.2))->∀p∈Jn,(L2.clr ks σ)[p.1]?=some (some p.2)
 |[],_,_,q=>q
 |k::ks,σ,h,q=>by
  unfold yC at h
  rw[List.all_cons,Bool.and_eq_true]at h
  exact ar6 ks h.2 (bv2 h.1 none q)
theorem Frm.clr(ks:List Nat)(F:Frm Jn K cn H Z ρ σ As)(hk:yC Jn ks=true):Frm Jn K cn H Z (TL.kills ks ρ) (L2.clr ks σ) (fR ks As):=
 ⟨F.sl.clr ks,(F.kills ks).nd,(F.kills ks).nz,F.zi,ar6 ks hk F.pn⟩
theorem du6(hg:RG Jn K cn ks g b)(hc:RT Jn K cn E tc c)(he:RE Jn K cn E [] te d)(hk:yC Jn ks=true)
 (F:Frm Jn K cn H Z ρ σ As)(hs:Src K cn false H Z J ts)(hl:ts.length<=sizeLine)
 (w:WpE K cn E As H Z [] Q ((cM b c d (kills ks ρ) ts).bind λus=>.ok (.lst true us))):CGo ks g tc te σ (λD H'=>Q (.ref D) H') J H:=by
 let R (us:List T) (rest:List T):Res T:=(cM b c d (kills ks ρ) rest).bind λus'=>.ok (.lst true (us++us'))
 refine⟨λi m ys H'=>m=ts.length-i/\i<=ts.length/\∃us Z' B,Mo H Z H' Z'/\Reps K cn H' Z' us ys B/\B.Nodup/\(∀x∈B,¬Z' x/\H x=none)/\us.length<=i/\WpE K cn E As H Z [] Q (R us (ts.drop i)),⟨ts.length,by simp,Nat.zero_le _,[],Z,[],F.mo0,Reps.nil,List.nodup_nil,eH,Nat.le_refl _,?_⟩,?_⟩
 . simpa[R]using w
 rintro i m ys H1 ⟨rfl,hi,us,Z1,B,m1,r1,nd,bz,hul,w⟩
 have hyl:=Reps.length us r1
 have s1:=hs.mo m1
 by_cases hlt:i<ts.length
 . obtain⟨t,et⟩:∃t,ts[i]?=some t:=⟨ts[i],List.getElem?_eq_getElem hlt⟩
   obtain⟨go,yl⟩:=s1.turn m1.zi et
   have ed:ts.drop i=t::ts.drop (i+1):=by
    have:=List.getElem?_eq_some_iff.mp et
    obtain⟨h1,h2⟩:=this
    rw[<-h2]
    exact List.drop_eq_getElem_cons hlt
   refine .inr ⟨go,by omega,_,λys' H' p'=>⟨ts.length-(i+1),by omega,p'⟩,λx H' y=>?_⟩
   obtain⟨my,rx⟩:=yl x H' y
   have r1:=r1.same my.same my.zz
   have m1:=m1.trans my
   have F1:=(F.mo m1).clr ks hk
   rw[ed]at w
   simp only[R,cM]at w
   cases eb:b t (kills ks ρ)with
   |none=>rw[eb]at w;exact w.elim
   |some ρ1=>
    rw[eb]at w
    simp only at w
    refine hg (fR ks As) H' Z1 (kills ks ρ) (L2.clr ks σ) t x [] F1 rx List.nodup_nil (eH) (eH) _ ρ1 eb λσ2 As2 F2 o2 l2 k2=>⟨⟨?_,λj v hj=>?_⟩,?_⟩
    . rw[l2,qU]
    . have:=(az9 ks σ hj).2
      rw[k2 j this,hj]
    refine hc As2 H' Z1 ρ1 σ2 F2 _ ?_
    have toX:∀{x:Exc}{H2:Hp}{Z2:Addr->Prop},Mo H' Z1 H2 Z2->WpX K cn E As H Z x->WpX K cn E As2 H2 Z2 x:=by
     intro x H2 Z2 m2 h
     refine h.ev (m1.trans m2).ev|>.ev ⟨λ_ _ q _=>q,λa ha=>?_,λ_ q=>q,λ_ q=>.inl q,λ_ q=>q⟩
     rcases o2 a ha with z|z
     . exact .inl (fK z)
     . cases z
    cases ec:c ρ1 with
    |ok k=>
     rw[ec]at w
     intro H2 Z2 p2
     simp only[Res.bind]at w
     cases k with
     |true=>
      rw[if_pos rfl]at w
      rw[if_pos rfl]
      refine he As2 H2 Z2 ρ1 σ2 (F2.mo p2.mo) _ ?_
      cases ee:d ρ1 with
      |ok u=>
       rw[ee]at w
       intro v H3 Z3 C p3
       have m3:=(m1.trans p2.mo).trans p3.mo
       have bnC:∀y∈C,H2 y=none:=λy hy=>(p3.bn y hy).resolve_right (λ⟨i,hi,_⟩=>by cases hi)
       refine⟨rfl,hlt,us++[u],Z3,B++C,m3,Reps.append us (r1.same (p2.same.trans p3.same) (λa h=>p3.zz a (p2.zz a h))) (Reps.one p3.rep),?_,?_,by simp;omega,?_⟩
       . rw[List.nodup_append]
         refine⟨nd,p3.nd,λx hx y hy e=>?_⟩
         subst e
         obtain⟨o,ho,_⟩:=Reps.dom us r1 x hx
         have:=bnC x hy
         rw[p2.same x o ho]at this
         cases this
       . intro x hx
         rcases List.mem_append.mp hx with hx|hx
         . refine⟨λz=>?_,(bz x hx).2⟩
           obtain⟨o,ho,_⟩:=Reps.dom us r1 x hx
           rcases(p2.mo.trans p3.mo).zn x z with z|z
           . exact(bz x hx).1 z
           . rw[ho]at z;cases z
         . exact⟨p3.bz x hx,(m1.trans p2.mo).same.free (bnC x hx)⟩
       . simp only[R]
         have:∀r:Res (List T),((r.bind λus'=>Res.ok (u::us')).bind λus'=>Res.ok (T.lst true (us++us')))=r.bind λus'=>Res.ok (T.lst true (us++[u]++us')):=by
          intro r
          cases r<;>simp[Res.bind]
         simp only at w
         rw[<-this]
         exact w
      |ex x=>rw[ee]at w;exact toX p2.mo w
      |no=>rw[ee]at w;exact w.elim
     |false=>
      rw[if_neg (by decide)]at w
      rw[if_neg (by decide)]
      refine⟨rfl,hlt,us,Z2,B,m1.trans p2.mo,r1.same p2.same p2.zz,nd,λx hx=>⟨λz=>?_,(bz x hx).2⟩,by omega,w⟩
      obtain⟨o,ho,_⟩:=Reps.dom us r1 x hx
      rcases p2.zn x z with z|z
      . exact(bz x hx).1 z
      . rw[ho]at z;cases z
    |ex x=>rw[ec]at w;exact toX ⟨Same.refl _,λ_ h=>h,λ_ h=>.inl h,m1.zi⟩ w
    |no=>rw[ec]at w;exact w.elim
 . have ei:i=ts.length:=by omega
   subst ei
   refine .inl ⟨s1.stop (Nat.le_refl _),λD hD=>?_⟩
   rw[List.drop_length]at w
   simp only[R,cM,Res.bind,List.append_nil]at w
   have hm:=m1.trans (Mo.new (.lst ys) hD m1.zi)
   refine w (.ref D) _ Z1 (D::B) ⟨hm.same,hm.zz,hm.zn,hm.zi,?_,?_,?_,?_⟩
   . simp only[Rep]
     exact⟨D,ys,B,rfl,rfl,fG,r1.same (bu4 hD _) (λ_ h=>h)⟩
   . refine List.nodup_cons.mpr ⟨λhb=>?_,nd⟩
     obtain⟨o,ho,_⟩:=Reps.dom us r1 D hb
     rw[ho]at hD;cases hD
   . intro x hx
     rcases List.mem_cons.mp hx with rfl|hx
     . exact λz=>m1.zi _ z hD
     . exact(bz x hx).1
   . intro x hx
     rcases List.mem_cons.mp hx with rfl|hx
     . exact .inl (m1.same.free hD)
     . exact .inl (bz x hx).2
theorem cs0(hi:RI Jn K cn E false wi di)(hg:RG Jn K cn ks g b)(hc:RT Jn K cn E tc c)(he:RE Jn K cn E [] te d)(hk:yC Jn ks=true:=by rfl):
 RE Jn K cn E [] (cw2 ks wi g tc te) (dR ks di b c d):=λAs H Z ρ σ F Q w=>by
 unfold dR at w
 refine hi As H Z ρ σ F _ ?_
 cases e:di ρ with
 |ok ts=>
  rw[e]at w
  intro J H1 Z1 m s
  simp only[Res.bind]at w
  split at w
  . next hl=>exact du6 hg hc he hk (F.mo m) s hl (WpE.mo F w m)
  . exact w.elim
 |ex x=>rw[e]at w;exact w
 |no=>rw[e]at w;exact w
def aP(a b:Fr->bP):Fr->bP:=λρ=>match a ρ with
 |.nx ρ'=>b ρ'
 |o=>o
def bM:Fr->bP:=λρ=>.nx ρ
theorem do7:RS Jn K cn E do5 bM:=λAs H Z ρ σ F D w=>w σ As H Z F Ev.refl
theorem en4(ha:RS Jn K cn E t a)(hb:RS Jn K cn E u b):RS Jn K cn E (ey0 t u) (aP a b):=λAs H Z ρ σ F D w=>by
 unfold aP at w
 refine ha As H Z ρ σ F _ ?_
 cases e:a ρ with
 |nx ρ'=>
  rw[e]at w
  exact λσ' As' H' Z' F' ev=>hb As' H' Z' ρ' σ' F' D (Wp.ev w ev)
 |bk ρ'=>rw[e]at w;exact w
 |ct ρ'=>rw[e]at w;exact w
 |rt t=>rw[e]at w;exact w
 |rm ρ' t=>rw[e]at w;exact w
 |ex x=>rw[e]at w;exact w
 |no=>rw[e]at w;exact w
def bF(mv:List Nat)(d:Fr->Res T)(b:T->Fr->Option Fr):Fr->bP:=λρ=>match d ρ with
 |.ok t=>match b t (kills mv ρ)with
  |some ρ'=>.nx ρ'
  |none=>.no
 |.ex x=>.ex x
 |.no=>.no
theorem Post.out(F:Frm Jn K cn H Z ρ σ As)(p:Post K cn As H Z mv H' Z' t v B):∀x∈B,x∉(fR mv As).flatten:=λx hx hA=>by
 rcases p.bn x hx with z|⟨i,hi,z⟩
 . obtain⟨o,ho,_⟩:=F.sl.dom x (fK hA)
   rw[ho]at z;cases z
 . exact tJ F.nd hi z hA
theorem Post.inA(p:Post K cn As H Z mv H' Z' t v B):∀x∈B,x∈As.flatten\/H x=none:=λx hx=>by
 rcases p.bn x hx with z|⟨i,hi,z⟩
 . exact .inr z
 . exact .inl (bB z)
theorem ci9(he:RE Jn K cn E mv te d)(hg:RG Jn K cn ks g b):RS Jn K cn E (ae9 te g) (bF mv d b):=λAs H Z ρ σ F D w=>by
 unfold bF at w
 refine he As H Z ρ σ F _ ?_
 cases e:d ρ with
 |ok t=>
  rw[e]at w
  intro v H1 Z1 B p
  simp only at w
  cases eb:b t (kills mv ρ)with
  |none=>rw[eb]at w;exact w.elim
  |some ρ'=>
   rw[eb]at w
   refine hg (fR mv As) H1 Z1 (kills mv ρ) σ t v B ((F.mo p.mo).kills mv) p.rep p.nd p.bz (p.out F) _ ρ' eb λσ' As' F' o' _ _=>?_
   refine w σ' As' H1 Z1 F' ⟨λa o h _=>p.same a o h,λa ha=>?_,p.zz,λa h=>(p.zn a h).imp_right .inr,λa h=>p.same.free h⟩
   rcases o' a ha with z|z
   . exact .inl (fK z)
   . exact p.inA a z
 |ex x=>rw[e]at w;exact w
 |no=>rw[e]at w;exact w
theorem ci5(hi:RI Jn K cn E false wi di)(hg:RG Jn K cn ks g b)(hc:RT Jn K cn E tc c)(he:RE Jn K cn E [] te d)(hk:yC Jn ks=true:=by rfl)(hJ:uK Jn k=true:=by rfl):
 RS Jn K cn E (ax5 k ks wi g tc te) (bF [] (dR ks di b c d) (aI k)):=λAs H Z ρ σ F D w=>
 ci9 (cs0 hi hg hc he hk) (cr0 k hJ) As H Z ρ σ F D w
def bI(mv:List Nat)(d:Fr->Res T):Fr->bP:=λρ=>match d ρ with
 |.ok t=>.rt t
 |.ex x=>.ex x
 |.no=>.no
theorem dx9(he:RE Jn K cn E mv te d):RS Jn K cn E (dh2 te) (bI mv d):=λAs H Z ρ σ F D w=>by
 unfold bI at w
 refine he As H Z ρ σ F _ ?_
 cases e:d ρ with
 |ok t=>
  rw[e]at w
  intro v H1 Z1 B p
  refine w v H1 Z1 B ⟨⟨λa o h _=>p.same a o h,λa ha=>?_,p.zz,λa h=>(p.zn a h).imp_right .inr,λa h=>p.same.free h⟩,p.rep,p.nd,p.bz,p.zi⟩
  rw[List.flatten_cons,List.flatten_nil,List.append_nil]at ha
  exact p.inA a ha
 |ex x=>rw[e]at w;exact w
 |no=>rw[e]at w;exact w
def cP(c:Fr->Res Bool)(a b:Fr->bP):Fr->bP:=λρ=>match c ρ with
 |.ok k=>if k=true then a ρ else b ρ
 |.ex x=>.ex x
 |.no=>.no
theorem en5(hc:RT Jn K cn E tt c)(ha:RS Jn K cn E t a)(hb:RS Jn K cn E u b):RS Jn K cn E (ep2 tt t u) (cP c a b):=λAs H Z ρ σ F D w=>by
 unfold cP at w
 refine hc As H Z ρ σ F _ ?_
 cases e:c ρ with
 |ok k=>
  rw[e]at w
  intro H1 Z1 p
  simp only at w
  split
  . next h=>rw[if_pos h]at w;exact ha As H1 Z1 ρ σ (F.mo p.mo) D (Wp.ev w p.mo.ev)
  . next h=>rw[if_neg h]at w;exact hb As H1 Z1 ρ σ (F.mo p.mo) D (Wp.ev w p.mo.ev)
 |ex x=>rw[e]at w;exact w
 |no=>rw[e]at w;exact w
def cv4(d:Fr->Res T):Fr->bP:=λρ=>match d ρ with
 |.ok _=>.nx ρ
 |.ex x=>.ex x
 |.no=>.no
def aq1:Fr->bP:=λρ=>.bk ρ
def cg2:Fr->bP:=λρ=>.ct ρ
theorem dg2:RS Jn K cn E cz7 aq1:=λAs H Z ρ σ F D w=>w σ As H Z F Ev.refl
def dS(b:T->Fr->Option Fr)(body:Fr->bP):List T->Fr->bP
 |[],ρ=>.nx ρ
 |t::ts,ρ=>match b t ρ with
  |none=>.no
  |some ρ1=>match body ρ1 with
   |.nx ρ2=>dS b body ts ρ2
   |.ct ρ2=>dS b body ts ρ2
   |.bk ρ2=>.nx ρ2
   |o=>o
def iN(di:Fr->Res (List T))(b:T->Fr->Option Fr)(body:Fr->bP):Fr->bP:=λρ=>match di ρ with
 |.ok ts=>dS b body ts ρ
 |.ex x=>.ex x
 |.no=>.no
theorem eu2(hi:RI Jn K cn E true wi di)(hg:RG Jn K cn ks g b)(hb:RS Jn K cn E tb body):RS Jn K cn E (el2 wi g tb) (iN di b body):=λAs H Z ρ σ F D w=>by
 unfold iN at w
 refine hi As H Z ρ σ F _ ?_
 cases e:di ρ with
 |ok ts=>
  rw[e]at w
  intro J H1 Z1 m s
  refine⟨λi k σ' H'=>k=ts.length-i/\i<=ts.length/\∃ρ' Z' As',Frm Jn K cn H' Z' ρ' σ' As'/\Src K cn true H' Z' J ts/\Wp Jn K cn E As' H' Z' D (dS b body (ts.drop i) ρ'),⟨ts.length,by simp,Nat.zero_le _,ρ,Z1,As,F.mo m,s,Wp.ev w m.ev⟩,?_⟩
  rintro i k σ1 H2 ⟨rfl,hle,ρ1,Z2,As1,F1,s1,w1⟩
  by_cases hlt:i<ts.length
  . obtain⟨t,et⟩:∃t,ts[i]?=some t:=⟨ts[i],List.getElem?_eq_getElem hlt⟩
    obtain⟨go,yl⟩:=s1.turn F1.zi et
    have ed:ts.drop i=t::ts.drop (i+1):=by
     obtain⟨h1,h2⟩:=List.getElem?_eq_some_iff.mp et
     rw[<-h2]
     exact List.drop_eq_getElem_cons hlt
    refine .inr ⟨go,_,λσ' H' p'=>⟨ts.length-(i+1),by omega,p'⟩,λx H' y=>?_⟩
    obtain⟨my,rx⟩:=yl x H' y
    have F1:=F1.mo my
    have s1:=s1.mo my
    have w1:=Wp.ev w1 (my.ev (As:=As1))
    rw[ed]at w1
    simp only[dS]at w1
    cases eb:b t ρ1 with
    |none=>rw[eb]at w1;exact w1.elim
    |some ρ2=>
     rw[eb]at w1
     simp only at w1
     refine hg As1 H' Z2 ρ1 σ1 t x [] F1 rx List.nodup_nil (eH) (eH) _ ρ2 eb λσ2 As2 F2 o2 _ _=>?_
     have ev2:Ev As1 H' Z2 As2 H' Z2:=⟨λ_ _ q _=>q,λa ha=>.inl ((o2 a ha).resolve_right ((λz=>nomatch z))),λ_ q=>q,λ_ q=>.inl q,λ_ q=>q⟩
     refine hb As2 H' Z2 ρ2 σ2 F2 _ ?_
     have w2:=Wp.ev w1 ev2
     cases eo:body ρ2 with
     |nx ρ3=>
      rw[eo]at w2
      exact λσ' As' H'' Z' F' ev=>⟨rfl,hlt,ρ3,Z',As',F',(s1.ev F1 ev2).ev F2 ev,Wp.ev w2 ev⟩
     |ct ρ3=>
      rw[eo]at w2
      exact λσ' As' H'' Z' F' ev=>⟨rfl,hlt,ρ3,Z',As',F',(s1.ev F1 ev2).ev F2 ev,Wp.ev w2 ev⟩
     |bk ρ3=>rw[eo]at w2;exact w2
     |rt t=>rw[eo]at w2;exact w2
     |rm ρ3 t=>rw[eo]at w2;exact w2
     |ex x=>rw[eo]at w2;exact w2
     |no=>rw[eo]at w2;exact w2
  . have ei:i=ts.length:=by omega
    subst ei
    rw[List.drop_length]at w1
    exact .inl ⟨s1.stop (Nat.le_refl _),w1 σ1 As1 H2 Z2 F1 Ev.refl⟩
 |ex x=>rw[e]at w;exact w
 |no=>rw[e]at w;exact w
def qV(c:Fr->Res Bool)(body:Fr->bP):Nat->Fr->bP
 |0,_=>.no
 |n+1,ρ=>match c ρ with
  |.ok k=>if k=true then match body ρ with
   |.nx ρ2=>qV c body n ρ2
   |.ct ρ2=>qV c body n ρ2
   |.bk ρ2=>.nx ρ2
   |o=>o
   else .nx ρ
  |.ex x=>.ex x
  |.no=>.no
theorem ce1:∃n:Nat,10^12<=n:=⟨_,Nat.le_refl _⟩
noncomputable def wN:Nat:=Classical.choose ce1
theorem dl8:10^12<=wN:=Classical.choose_spec ce1
noncomputable def au1(c:Fr->Res Bool)(body:Fr->bP):Fr->bP:=qV c body wN
theorem dj3(hc:RT Jn K cn E tc c)(hb:RS Jn K cn E tb body):RS Jn K cn E (cz9 tc tb) (au1 c body):=λAs H Z ρ σ F D w=>by
 unfold au1 at w
 refine⟨λn σ' H'=>∃ρ' Z' As',Frm Jn K cn H' Z' ρ' σ' As'/\Wp Jn K cn E As' H' Z' D (qV c body n ρ'),⟨wN,ρ,Z,As,F,w⟩,?_⟩
 rintro n σ1 H1 ⟨ρ1,Z1,As1,F1,w1⟩
 cases n with
 |zero=>exact w1.elim
 |succ n=>
  refine hc As1 H1 Z1 ρ1 σ1 F1 _ ?_
  simp only[qV]at w1
  cases ec:c ρ1 with
  |ok k=>
   rw[ec]at w1
   intro H2 Z2 p2
   simp only at w1
   cases k with
   |true=>
    rw[if_pos rfl]at w1
    rw[if_pos rfl]
    refine⟨λσ' H'=>∃ρ' Z' As',Frm Jn K cn H' Z' ρ' σ' As'/\Wp Jn K cn E As' H' Z' D (qV c body n ρ'),λσ' H' p'=>⟨n,Nat.lt_succ_self _,p'⟩,?_⟩
    refine hb As1 H2 Z2 ρ1 σ1 (F1.mo p2.mo) _ ?_
    have w2:=Wp.ev w1 p2.mo.ev
    cases eo:body ρ1 with
    |nx ρ3=>rw[eo]at w2;exact λσ' As' H'' Z' F' ev=>⟨ρ3,Z',As',F',Wp.ev w2 ev⟩
    |ct ρ3=>rw[eo]at w2;exact λσ' As' H'' Z' F' ev=>⟨ρ3,Z',As',F',Wp.ev w2 ev⟩
    |bk ρ3=>rw[eo]at w2;exact w2
    |rt t=>rw[eo]at w2;exact w2
    |rm ρ3 t=>rw[eo]at w2;exact w2
    |ex x=>rw[eo]at w2;exact w2
    |no=>rw[eo]at w2;exact w2
   |false=>
    rw[if_neg (by decide)]at w1
    rw[if_neg (by decide)]
    exact w1 σ1 As1 H2 Z2 (F1.mo p2.mo) p2.mo.ev
  |ex x=>rw[ec]at w1;exact w1
  |no=>rw[ec]at w1;exact w1
end
end TL
namespace TL
open PySem PySem.Spec PyProof.Rows L2
section
variable {Jn : iO} {K : PySem.W.Frag} {cn : Str → Option Addr} {E : XK}
def jP(t':T):List Nat->T->Option T
 |[],_=>some t'
 |k::p,.lst o ts=>match ts[k]? with
  |some t=>(jP t' p t).map λu=>.lst o (ts.set k u)
  |none=>none
 |k::p,.tup ts=>match ts[k]? with
  |some t=>(jP t' p t).map λu=>.tup (ts.set k u)
  |none=>none
 |k::p,.ins o c ns ts=>match ts[k]? with
  |some t=>(jP t' p t).map λu=>.ins o c ns (ts.set k u)
  |none=>none
 |_::_,_=>none
structure Plug (K:PySem.W.Frag) (cn:Str->Option Addr) (H:Hp) (Z:Addr->Prop) (t0:T) (v0:V) (A0:List Addr) (p:List Nat) (u:T) (v:V) (B:List Addr):Prop where
 rep:Rep K cn H Z u v B
 sub:B.Sublist A0
 plug:∀H' Z' u' B',(∀a,Z a->Z' a)->(∀b o,H b=some o->((b∈A0/\b∉B)\/Z b\/rC o=true)->H' b=some o)->Rep K cn H' Z' u' v B'->B'.Nodup->(∀x∈B',x∈A0->x∈B)->
  ∃t' A',jP u' p t0=some t'/\Rep K cn H' Z' t' v0 A'/\A'.Nodup/\∀x∈A',(x∈A0/\x∉B)\/x∈B'
theorem Plug.mo(h:Plug K cn H Z t0 v0 A0 p u v B)(s:Same H H1)(zz:∀a,Z a->Z1 a):Plug K cn H1 Z1 t0 v0 A0 p u v B:=
 ⟨h.rep.same s zz,h.sub,λH' Z' u' B' z k=>h.plug H' Z' u' B' (λa q=>z a (zz a q)) λb o q c=>k b o (s b o q) (by
  rcases c with c|c|c
  . exact .inl c
  . exact .inr (.inl (zz b c))
  . exact .inr (.inr c))⟩
theorem Plug.root(h:Rep K cn H Z t0 v0 A0):Plug K cn H Z t0 v0 A0 [] t0 v0 A0:=
 ⟨h,List.Sublist.refl _,λH' Z' u' B' z k r nd _=>⟨u',B',rfl,r,nd,λx hx=>.inr hx⟩⟩
theorem Reps.splice:∀(ts:List T){vs:List V}{A:List Addr}{k:Nat}{t:T},Reps K cn H Z ts vs A->ts[k]?=some t->∃v B1 B B2,vs[k]?=some v/\A=B1++B++B2/\Rep K cn H Z t v B/\
 ∀H' Z' t' B',(∀a,Z a->Z' a)->(∀b o,H b=some o->(b∈B1\/b∈B2\/Z b\/rC o=true)->H' b=some o)->Rep K cn H' Z' t' v B'->Reps K cn H' Z' (ts.set k t') vs (B1++B'++B2)
 |[],_,_,_,_,h,e=>by simp at e
 |t::ts,vs,A,0,t',h,e=>by
  simp only[Reps]at h
  obtain⟨v,r,B,C,rfl,rfl,h1,h2⟩:=h
  simp at e
  subst e
  refine⟨v,[],B,C,rfl,by simp,h1,λH' Z' u B' z k q=>?_⟩
  simp only[List.set_cons_zero,Reps]
  exact⟨v,r,B',C,rfl,by simp,q,Reps.keep ts h2 (λb o e c=>k b o e (.inr c)) z⟩
 |t::ts,vs,A,k+1,t',h,e=>by
  simp only[Reps]at h
  obtain⟨v,r,B,C,rfl,rfl,h1,h2⟩:=h
  obtain⟨v',B1,B',B2,e1,rfl,e3,e4⟩:=Reps.splice ts (k:=k) h2 (by simpa using e)
  refine⟨v',B++B1,B',B2,by simpa using e1,by simp,e3,λH' Z' u C' z kk q=>?_⟩
  simp only[List.set_cons_succ,Reps]
  refine⟨v,r,B,B1++C'++B2,rfl,by simp,Rep.keep t h1 (λb o e c=>kk b o e ?_) z,e4 H' Z' u C' z (λb o e c=>kk b o e ?_) q⟩
  . rcases c with c|c
    . exact .inl (List.mem_append_left _ c)
    . exact .inr (.inr c)
  . rcases c with c|c
    . exact .inl (List.mem_append_right _ c)
    . exact .inr c
def eQ:List Nat->T->Option T
 |[],t=>some t
 |k::p,.lst _ ts=>(ts[k]?).bind (eQ p)
 |k::p,.tup ts=>(ts[k]?).bind (eQ p)
 |k::p,.ins _ _ _ ts=>(ts[k]?).bind (eQ p)
 |_::_,_=>none
theorem uO:∀(p:List Nat)(t0 u:T),eQ p t0=some u->jP t' [k] u=some u2->jP t' (p++[k]) t0=jP u2 p t0
 |[],t0,u,h,e=>by cases h;exact e
 |j::p,t0,u,h,e=>by
  cases t0 with
  |lst o ts=>
   simp only[eQ]at h
   cases q:ts[j]? with
   |none=>rw[q]at h;cases h
   |some t=>
    rw[q]at h
    simp only[List.cons_append,jP,q]
    rw[uO p t u h e]
  |tup ts=>
   simp only[eQ]at h
   cases q:ts[j]? with
   |none=>rw[q]at h;cases h
   |some t=>
    rw[q]at h
    simp only[List.cons_append,jP,q]
    rw[uO p t u h e]
  |ins o c ns ts=>
   simp only[eQ]at h
   cases q:ts[j]? with
   |none=>rw[q]at h;cases h
   |some t=>
    rw[q]at h
    simp only[List.cons_append,jP,q]
    rw[uO p t u h e]
  |_=>cases h
theorem qT:∀(p:List Nat)(t0 u u2:T),eQ p t0=some u->eQ [k] u=some u2->eQ (p++[k]) t0=some u2
 |[],t0,u,u2,h,e=>by cases h;exact e
 |j::p,t0,u,u2,h,e=>by
  cases t0 with
  |lst o ts=>
   simp only[eQ,List.cons_append]at h⊢
   cases q:ts[j]? with
   |none=>rw[q]at h;cases h
   |some t=>rw[q]at h;exact qT p t u u2 h e
  |tup ts=>
   simp only[eQ,List.cons_append]at h⊢
   cases q:ts[j]? with
   |none=>rw[q]at h;cases h
   |some t=>rw[q]at h;exact qT p t u u2 h e
  |ins o c ns ts=>
   simp only[eQ,List.cons_append]at h⊢
   cases q:ts[j]? with
   |none=>rw[q]at h;cases h
   |some t=>rw[q]at h;exact qT p t u u2 h e
  |_=>cases h
def al3(u:T)(ts:List T):T:=match u with
 |.lst o _=>.lst o ts
 |.ins o c ns _=>.ins o c ns ts
 |_=>.tup ts
theorem Plug.step(h:Plug K cn H Z t0 v0 A0 p u v B)(nd:A0.Nodup)(hn:eQ p t0=some u)(r:Reps K cn H Z ts vs C)(hC:C.Sublist B)(e:ts[k]?=some u2)
 (hs:∀t',jP t' [k] u=some (al3 u (ts.set k t')))
 (back:∀H' Z' t' C',(∀a,Z a->Z' a)->(∀b o,H b=some o->((b∈B/\b∉C)\/Z b\/rC o=true)->H' b=some o)->Reps K cn H' Z' (ts.set k t') vs C'->C'.Nodup->(∀x∈C',x∈B->x∈C)->∃B',Rep K cn H' Z' (al3 u (ts.set k t')) v B'/\B'.Nodup/\∀x∈B',(x∈B/\x∉C)\/x∈C'):
 ∃w D,vs[k]?=some w/\Plug K cn H Z t0 v0 A0 (p++[k]) u2 w D:=by
 obtain⟨w,B1,D,B2,ew,rfl,rw',put⟩:=Reps.splice ts r e
 have ndB:B.Nodup:=nd.sublist h.sub
 have ndC:=ndB.sublist hC
 have dsub:D.Sublist (B1++D++B2):=(List.sublist_append_right B1 D).trans (List.sublist_append_left _ B2)
 have hDB:∀x∈D,x∈B:=λx hx=>hC.mem (dsub.mem hx)
 refine⟨w,D,ew,rw',dsub.trans (hC.trans h.sub),λH' Z' u' D' z kk q ndD hD=>?_⟩
 have nd1:=ndC
 rw[List.append_assoc,List.nodup_append]at nd1
 obtain⟨n1,n2,n3⟩:=nd1
 rw[List.nodup_append]at n2
 obtain⟨n4,n5,n6⟩:=n2
 have inC1:∀x∈B1,x∈B1++D++B2:=λx hx=>List.mem_append_left _ (List.mem_append_left _ hx)
 have inC2:∀x∈B2,x∈B1++D++B2:=λx hx=>List.mem_append_right _ hx
 have o1:∀x∈B1,x∈A0/\x∉D:=λx hx=>⟨h.sub.mem (hC.mem (inC1 x hx)),λhd=>n3 x hx x (List.mem_append_left _ hd) rfl⟩
 have o2:∀x∈B2,x∈A0/\x∉D:=λx hx=>⟨h.sub.mem (hC.mem (inC2 x hx)),λhd=>n6 x hd x hx rfl⟩
 have rs:=put H' Z' u' D' z (λb o q c=>kk b o q (by
  rcases c with c|c|c
  . exact .inl (o1 b c)
  . exact .inl (o2 b c)
  . exact .inr c)) q
 have ndN:(B1++D'++B2).Nodup:=by
  rw[List.append_assoc,List.nodup_append]
  refine⟨n1,?_,λx hx y hy e=>?_⟩
  . rw[List.nodup_append]
    refine⟨ndD,n5,λx hx y hy e=>?_⟩
    subst e
    exact(o2 x hy).2 (hD x hx (o2 x hy).1)
  . subst e
    rcases List.mem_append.mp hy with hy|hy
    . exact(o1 x hx).2 (hD x hy (o1 x hx).1)
    . exact n3 x hx x (List.mem_append_right _ hy) rfl
 obtain⟨B',rB,ndB',hB'⟩:=back H' Z' u' _ z (λb o q c=>kk b o q (by
  rcases c with⟨c1,c2⟩|c
  . exact .inl ⟨h.sub.mem c1,λhd=>c2 (dsub.mem hd)⟩
  . exact .inr c)) rs ndN (λx hx hb=>by
    rcases List.mem_append.mp hx with hx|hx
    . rcases List.mem_append.mp hx with hx|hx
      . exact inC1 x hx
      . exact dsub.mem (hD x hx (h.sub.mem hb))
    . exact inC2 x hx)
 obtain⟨t',A',e1,r1,nd',hA'⟩:=h.plug H' Z' _ B' z (λb o q c=>kk b o q (by
  rcases c with⟨c1,c2⟩|c
  . exact .inl ⟨c1,λhd=>c2 (hDB b hd)⟩
  . exact .inr c)) rB ndB' (λx hx ha=>by
    rcases hB' x hx with⟨q,_⟩|q
    . exact q
    . rcases List.mem_append.mp q with q|q
      . rcases List.mem_append.mp q with q|q
        . exact hC.mem (inC1 x q)
        . exact hDB x (hD x q ha)
      . exact hC.mem (inC2 x q))
 refine⟨t',A',?_,r1,nd',λx hx=>?_⟩
 . rw[uO p t0 u hn (hs u')]
   exact e1
 . rcases hA' x hx with⟨q1,q2⟩|q
   . exact .inl ⟨q1,λhd=>q2 (hDB x hd)⟩
   . rcases hB' x q with⟨q1,q2⟩|q
     . exact .inl ⟨h.sub.mem q1,λhd=>q2 (dsub.mem hd)⟩
     . rcases List.mem_append.mp q with q|q
       . rcases List.mem_append.mp q with q|q
         . exact .inl (o1 x q)
         . exact .inr q
       . exact .inl (o2 x q)
def WpP(K:PySem.W.Frag)(cn:Str->Option Addr)(E:XK)(As:List (List Addr))(H:Hp)(Z:Addr->Prop)(A0:List Addr)(t0:T)(v0:V)(Q:VK):Res (List Nat)->Prop
 |.ok p=>∀u v B H' Z',Mo H Z H' Z'->eQ p t0=some u->Plug K cn H' Z' t0 v0 A0 p u v B->Q v H'
 |.ex x=>WpX K cn E As H Z x
 |.no=>False
def RP(Jn:iO)(K:PySem.W.Frag)(cn:Str->Option Addr)(E:XK)(j:Nat)(to:TE)(d:Fr->Res (List Nat)):Prop:=∀As H Z ρ σ,Frm Jn K cn H Z ρ σ As->∀t0 v0,ρ[j]?=some (some t0)->σ[j]?=some (some v0)->Rep K cn H Z t0 v0 (As.getD j [])->∀Q,WpP K cn E As H Z (As.getD j []) t0 v0 Q (d ρ)->to σ H Q
def cY:Fr->Res (List Nat):=λ_=>.ok []
theorem el4(j:Nat):RP Jn K cn E j (af2 j) cY:=λAs H Z ρ σ F t0 v0 e1 e2 r Q w=>⟨v0,e2,w t0 v0 _ H Z F.mo0 rfl (Plug.root r)⟩
def by6:T->Option (List T)
 |.lst o ts=>if o=true then some ts else none
 |.tup ts=>some ts
 |_=>none
def pIx(j:Nat)(d:Fr->Res (List Nat))(i:Fr->Res T):Fr->Res (List Nat):=λρ=>(d ρ).bind λp=>(i ρ).bind λx=>match ρ[j]?,x with
 |some (some t0),.int n=>match(eQ p t0).bind by6 with
  |some ts=>match rK ts.length n with
   |some k=>.ok (p++[k])
   |none=>.no
  |none=>.no
 |_,_=>.no
theorem lC{As:List (List Addr)}(h:As.flatten.Nodup)(i:Nat):(As.getD i []).Nodup:=by
 rw[List.getD_eq_getElem?_getD]
 cases q:As[i]? with
 |none=>exact List.nodup_nil
 |some C=>exact List.Nodup.sublist (List.sublist_flatten_of_mem (List.mem_of_getElem? q)) h
theorem bf6(h:rK n i=some k):k<n:=(bz0 h).2.1
theorem co0(h:rK xs.length i=some k)(e:xs[k]?=some v):atI xs i=some v:=by
 unfold atI
 rw[h]
 exact e
theorem ey5{j:Nat}{to ti:TE}{d:Fr->Res (List Nat)}{i:Fr->Res T}(hd:RP Jn K cn E j to d)(hi:RB Jn K cn E ti i):RP Jn K cn E j (tOp (rIx K) to ti) (pIx j d i):=λAs H Z ρ σ F t0 v0 e1 e2 r Q w=>by
 have nd:=lC F.nd j
 unfold pIx at w
 refine hd As H Z ρ σ F t0 v0 e1 e2 r _ ?_
 cases ed:d ρ with
 |ok p=>
  rw[ed]at w
  intro u v B H1 Z1 m1 hn pl
  refine hi As H1 Z1 ρ σ (F.mo m1) _ ?_
  simp only[Res.bind]at w
  cases ei:i ρ with
  |ok x=>
   rw[ei]at w
   intro vi H2 Z2 C p2
   simp only[e1]at w
   cases x with
   |int n=>
    have qi:=p2.rep
    simp only[Rep]at qi
    obtain⟨rfl,_⟩:=qi
    simp only[hn]at w
    have m2:=m1.trans p2.mo
    have pl2:=pl.mo p2.same p2.zz
    cases u with
    |lst o ts=>
     cases o with
     |false=>simp only[Option.bind,by6,Bool.false_eq_true,if_false]at w;exact w.elim
     |true=>
      simp only[Option.bind,by6,if_true]at w
      cases ek:rK ts.length n with
      |none=>rw[ek]at w;exact w.elim
      |some k=>
       rw[ek]at w
       obtain⟨u2,eu⟩:∃u2,ts[k]?=some u2:=⟨ts[k]'(bf6 ek),List.getElem?_eq_getElem _⟩
       have q:=pl2.rep
       simp only[Rep]at q
       obtain⟨a,vs,B',rfl,rfl,ea,rs⟩:=q
       have ndB:(a::B').Nodup:=nd.sublist pl2.sub
       obtain⟨wv,D,ew,pl3⟩:=pl2.step nd hn rs (List.sublist_cons_self _ _) eu (λt'=>by simp[jP,eu,al3]) (λH' Z' t' C' z kk rr ndC hC=>by
        refine⟨a::C',?_,List.nodup_cons.mpr ⟨λha=>(List.nodup_cons.mp ndB).1 (hC a ha List.mem_cons_self),ndC⟩,λx hx=>?_⟩
        . simp only[al3,Rep]
          exact⟨a,vs,C',rfl,rfl,kk a _ ea (.inl ⟨List.mem_cons_self,(List.nodup_cons.mp ndB).1⟩),rr⟩
        . rcases List.mem_cons.mp hx with rfl|hx
          . exact .inl ⟨List.mem_cons_self,(List.nodup_cons.mp ndB).1⟩
          . exact .inr hx)
       refine .inl ⟨a,vs,n,wv,rfl,rfl,SqL.of ea,co0 (by rw[Reps.length ts rs];exact ek) ew,w u2 wv D H2 Z2 m2 (qT p t0 _ u2 hn (by simp[eQ,eu])) pl3⟩
    |tup ts=>
     simp only[Option.bind,by6]at w
     cases ek:rK ts.length n with
     |none=>rw[ek]at w;exact w.elim
     |some k=>
      rw[ek]at w
      obtain⟨u2,eu⟩:∃u2,ts[k]?=some u2:=⟨ts[k]'(bf6 ek),List.getElem?_eq_getElem _⟩
      have q:=pl2.rep
      simp only[Rep]at q
      obtain⟨a,vs,rfl,ea,rs⟩:=q
      obtain⟨wv,D,ew,pl3⟩:=pl2.step nd hn rs (List.Sublist.refl _) eu (λt'=>by simp[jP,eu,al3]) (λH' Z' t' C' z kk rr ndC hC=>by
       refine⟨C',?_,ndC,λx hx=>.inr hx⟩
       simp only[al3,Rep]
       exact⟨a,vs,rfl,SqT.keep ea (λb o q i=>kk b o q (.inr (.inr i))),rr⟩)
      refine .inr (.inl ⟨a,vs,n,wv,rfl,rfl,ea,co0 (by rw[Reps.length ts rs];exact ek) ew,w u2 wv D H2 Z2 m2 (qT p t0 _ u2 hn (by simp[eQ,eu])) pl3⟩)
    |_=>simp only[Option.bind,by6]at w;exact w.elim
   |_=>exact w.elim
  |ex x=>rw[ei]at w;exact WpX.ev w m1.ev
  |no=>rw[ei]at w;exact w
 |ex x=>rw[ed]at w;exact w
 |no=>rw[ed]at w;exact w
def yW(j:Nat)(p:List Nat)(us:List T)(ρ:Fr):bP:=match ρ[j]? with
 |some (some t0)=>match jP (.lst true us) p t0 with
  |some t'=>.nx (ρ.set j (some t'))
  |none=>.no
 |_=>.no
def aq4(j:Nat)(p:List Nat)(u:T)(ρ:Fr):bP:=match ρ[j]? with
 |some (some t0)=>match jP u p t0 with
  |some t'=>.nx (ρ.set j (some t'))
  |none=>.no
 |_=>.no
theorem bf0{As As1:List (List Addr)}{H H1:Hp}{Z Z1:Addr->Prop}{ρ1:Fr}{σ:St}{j:Nat}{t0:T}{v0:V}{p:List Nat}{u u':T}{v:V}{B:List Addr}{D:ac5}
 (F1:Frm Jn K cn H1 Z1 ρ1 σ As1)(e1:ρ1[j]?=some (some t0))(e2:σ[j]?=some (some v0))(pl:Plug K cn H1 Z1 t0 v0 (As1.getD j []) p u v B)
 {a:Addr}{o0 o1:HO}{C0 C:List Addr}(ev:v=.ref a)(eB:B=a::C0)(ha:H1 a=some o0)(hi:rC o0=false)(hC:a∉C->¬Z1 a->Rep K cn (L2.upd H1 a o1) Z1 u' (.ref a) (a::C))(ndC:C.Nodup)(hCz:∀x∈C,¬Z1 x)(hCa:∀x∈C,x∈As1.flatten->x∈C0)
 (evl:Ev As H Z As1 H1 Z1)(hCn:∀x∈C,x∈As.flatten\/H x=none)(w:Wp Jn K cn E As H Z D (aq4 j p u' ρ1)):D.nx σ (L2.upd H1 a o1):=by
 subst ev eB
 have nd:=lC F1.nd j
 have ndB:(a::C0).Nodup:=nd.sublist pl.sub
 have aA:a∈As1.getD j []:=pl.sub.mem List.mem_cons_self
 have aZ:¬Z1 a:=F1.nz a (bB aA)
 have aC:a∉C:=λh=>(List.nodup_cons.mp ndB).1 (hCa a h (bB aA))
 obtain⟨t',A',es,r',ndA,hA⟩:=pl.plug (L2.upd H1 a o1) Z1 u' (a::C) (λ_ h=>h) (λb o q c=>by
  rw[cR]
  . exact q
  . rintro rfl
    rcases c with c|c|c
    . exact c.2 List.mem_cons_self
    . exact aZ c
    . rw[ha]at q;cases q;rw[hi]at c;cases c) (hC aC aZ) (List.nodup_cons.mpr ⟨aC,ndC⟩) (λx hx hxa=>by
    rcases List.mem_cons.mp hx with rfl|hx
    . exact List.mem_cons_self
    . exact List.mem_cons_of_mem _ (hCa x hx (bB hxa)))
 unfold aq4 at w
 rw[e1]at w
 simp only[es]at w
 have hA':∀x∈A',x∈As1.getD j []\/x∈C:=λx hx=>by
  rcases hA x hx with q|q
  . exact .inl q.1
  . rcases List.mem_cons.mp q with rfl|q
    . exact .inl aA
    . exact .inr q
 have slots:∀{ρ:Fr}{σ:St}{As:List (List Addr)}{i:Nat},Slots K cn H1 Z1 ρ σ As->As.flatten.Nodup->(∀x∈As.flatten,x=a->x∈As.getD i [])->σ[i]?=some (some v0)->Slots K cn (L2.upd H1 a o1) Z1 (ρ.set i (some t')) σ (As.set i A'):=by
  intro ρ
  induction ρ with
  |nil=>intro σ As i h _ _ e;obtain⟨rfl,rfl⟩:=h;simp at e
  |cons o ρ ih=>
   intro σ As i h nd hx e
   obtain⟨w',σ',A,As',rfl,rfl,h1,h2⟩:=h
   rw[List.flatten_cons,List.nodup_append]at nd
   cases i with
   |zero=>
    simp at e
    subst e
    refine⟨_,σ',A',As',rfl,rfl,⟨v0,rfl,r'⟩,?_⟩
    have na:a∉As'.flatten:=λh=>by
     have:=hx a (by rw[List.flatten_cons,List.mem_append];exact .inr h) rfl
     exact nd.2.2 a (by simpa using this) a h rfl
    have:∀{ρ:Fr}{σ:St}{As:List (List Addr)},Slots K cn H1 Z1 ρ σ As->a∉As.flatten->Slots K cn (L2.upd H1 a o1) Z1 ρ σ As:=by
     intro ρ
     induction ρ with
     |nil=>intro σ As h _;exact h
     |cons o ρ ih=>
      intro σ As h hn
      obtain⟨w',σ',A,As',rfl,rfl,h1,h2⟩:=h
      rw[List.flatten_cons,List.mem_append,not_or]at hn
      refine⟨w',σ',A,As',rfl,rfl,?_,ih h2 hn.2⟩
      cases o with
      |none=>exact h1
      |some t=>obtain⟨v,e,r⟩:=h1;exact⟨v,e,r.upd ha hi hn.1 aZ⟩
    exact this h2 na
   |succ i=>
    refine⟨w',σ',A,As'.set i A',rfl,rfl,?_,ih h2 nd.2.1 (λx hx' ex=>?_) (by simpa using e)⟩
    . have na:a∉A:=λh=>by
       have:=hx a (by rw[List.flatten_cons,List.mem_append];exact .inl h) rfl
       have:a∈As'.getD i []:=by simpa using this
       exact nd.2.2 a h a (bB this) rfl
      cases o with
      |none=>exact h1
      |some t=>obtain⟨v,e,r⟩:=h1;exact⟨v,e,r.upd ha hi na aZ⟩
    . have:=hx x (by rw[List.flatten_cons,List.mem_append];exact .inr hx') ex
      simpa using this
 refine w σ (As1.set j A') _ Z1 ⟨slots F1.sl F1.nd (λx _ ex=>by rw[ex];exact aA) e2,oP ndA F1.nd (λb hb hf=>?_),λb hb z=>?_,λb z=>?_,F1.pn⟩ ?_
 . rcases hA' b hb with q|q
   . exact q
   . exact pl.sub.mem (List.mem_cons_of_mem _ (hCa b q hf))
 . rcases eD hb with q|q
   . rcases hA' b q with q|q
     . exact F1.nz b (bB q) z
     . exact hCz b q z
   . exact F1.nz b q z
 . by_cases e:b=a
   . rw[e,fG];exact(λz=>nomatch z)
   . rw[cR e];exact F1.zi b z
 . refine⟨λb o q hb=>?_,λb hb=>?_,evl.zz,evl.zn,λb hb=>evl.dom b ?_⟩
   . rw[cR]
     . exact evl.keep b o q hb
     . rintro rfl
       rcases evl.own b (bB aA)with z|z
       . exact hb z
       . rw[q]at z;cases z
   . rcases eD hb with q|q
     . rcases hA' b q with q|q
       . exact evl.own b (bB q)
       . exact hCn b q
     . exact evl.own b q
   . by_cases e:b=a
     . rw[e,fG]at hb;cases hb
     . rw[cR e]at hb;exact hb
theorem bs7
 (F1:Frm Jn K cn H1 Z1 ρ1 σ As1)(e1:ρ1[j]?=some (some t0))(e2:σ[j]?=some (some v0))(pl:Plug K cn H1 Z1 t0 v0 (As1.getD j []) p (.lst true us) v B)
 (ev:v=.ref a)(eB:B=a::C0)(ha:H1 a=some (.lst ws))(hC:Reps K cn H1 Z1 us' ws' C)(ndC:C.Nodup)(hCz:∀x∈C,¬Z1 x)(hCa:∀x∈C,x∈As1.flatten->x∈C0)
 (evl:Ev As H Z As1 H1 Z1)(hCn:∀x∈C,x∈As.flatten\/H x=none)(w:Wp Jn K cn E As H Z D (yW j p us' ρ1)):D.nx σ (L2.upd H1 a (.lst ws')):=by
 subst ev eB
 refine bf0 (E:=E) F1 e1 e2 pl rfl rfl ha rfl (u':=.lst true us') (λaC aZ=>?_) ndC hCz hCa evl hCn w
 simp only[Rep]
 exact⟨a,ws',C,rfl,rfl,fG,Reps.upd hC ha rfl aC aZ⟩
def iA(j:Nat)(mv:List Nat)(d:Fr->Res (List Nat))(e:Fr->Res T):Fr->bP:=λρ=>match ρ[j]? with
 |some (some t0)=>match d ρ with
  |.ok p=>match eQ p t0 with
   |some (.lst true us)=>match e ρ with
    |.ok t=>if us.length<sizeLine then yW j p (us++[t]) (kills mv ρ)else .no
    |.ex x=>.ex x
    |.no=>.no
   |_=>.no
  |.ex x=>.ex x
  |.no=>.no
 |_=>.no
theorem zG:∀(mv:List Nat),mv.contains j=false->∀As:List (List Addr),(fR mv As).getD j []=As.getD j []
 |[],_,_=>rfl
 |i::is,h,As=>by
  simp only[List.contains_cons,Bool.or_eq_false_iff,beq_eq_false_iff_ne]at h
  show(fR is (As.set i [])).getD j []=_
  rw[zG is h.2,List.getD_eq_getElem?_getD,List.getElem?_set_ne (Ne.symm h.1),<-List.getD_eq_getElem?_getD]
theorem ap2:∀(mv:List Nat),mv.contains j=false->∀ρ:Fr,(kills mv ρ)[j]?=ρ[j]?
 |[],_,_=>rfl
 |i::is,h,ρ=>by
  simp only[List.contains_cons,Bool.or_eq_false_iff,beq_eq_false_iff_ne]at h
  show(kills is (ρ.set i none))[j]?=_
  rw[ap2 is h.2,List.getElem?_set_ne (Ne.symm h.1)]
theorem ew0{j:Nat}{mv:List Nat}{to te:TE}{d:Fr->Res (List Nat)}{e:Fr->Res T}(hd:RP Jn K cn E j to d)(he:RE Jn K cn E mv te e)(hj:mv.contains j=false:=by rfl):RS Jn K cn E (cf4 (tBM K "list" bd0 to (vC te au5))) (iA j mv d e):=λAs H Z ρ σ F D w=>by
 unfold iA at w
 cases e1:ρ[j]? with
 |none=>rw[e1]at w;exact w.elim
 |some o=>
  rw[e1]at w
  cases o with
  |none=>exact w.elim
  |some t0=>
   obtain⟨v0,e2,r0⟩:=F.sl.get e1
   refine hd As H Z ρ σ F t0 v0 e1 e2 r0 _ ?_
   simp only at w
   cases ed:d ρ with
   |ok p=>
    rw[ed]at w
    intro u v B H1 Z1 m1 hn pl
    simp only[hn]at w
    split at w
    . next us hq=>
      cases hq
      have q:=pl.rep
      simp only[Rep]at q
      obtain⟨a,ws,C0,rfl,rfl,ea,rs⟩:=q
      refine⟨.inl ⟨rfl,ws,SqL.of ea⟩,he As H1 Z1 ρ σ (F.mo m1) _ ?_⟩
      cases ee:e ρ with
      |ok t=>
       rw[ee]at w
       intro y H2 Z2 C p2
       simp only at w
       split at w
       . next hlen=>
         have pl2:=pl.mo p2.same p2.zz
         have ea2:=p2.same _ _ ea
         have rs2:=rs.same p2.same p2.zz
         refine⟨a,ws,y,rfl,rfl,ea2,by rw[Reps.length us rs];exact hlen,?_⟩
         have m2:=m1.trans p2.mo
         have F2:=(F.mo m2).kills mv
         have gD:(fR mv As).getD j []=As.getD j []:=zG mv hj As
         have pl3:Plug K cn H2 Z2 t0 v0 ((fR mv As).getD j []) p (.lst true us) (.ref a) (a::C0):=by rw[gD];exact pl2
         have ndB:(a::C0).Nodup:=(lC F.nd j).sublist pl.sub
         have c0A:∀x∈C0,x∈As.getD j []:=λx hx=>pl.sub.mem (List.mem_cons_of_mem _ hx)
         have cOut:∀x∈C,x∉(fR mv As).flatten:=λx hx hA=>by
          rcases p2.bn x hx with z|⟨i,hi,z⟩
          . obtain⟨o,ho,_⟩:=(F.mo m1).sl.dom x (fK hA)
            rw[ho]at z;cases z
          . exact tJ F.nd hi z hA
         have c0In:∀x∈C0,x∈(fR mv As).flatten:=λx hx=>bB (i:=j) (by rw[gD];exact c0A x hx)
         refine bs7 (As:=As) (H:=H) (Z:=Z) (E:=E) F2 (by rw[ap2 mv hj];exact e1) e2 pl3 rfl rfl ea2 (us':=us++[t]) (ws':=ws++[y]) (C:=C0++C) (Reps.append us rs2 (Reps.one p2.rep)) ?_ ?_ ?_ ?_ ?_ w
         . rw[List.nodup_append]
           exact⟨(List.nodup_cons.mp ndB).2,p2.nd,λx hx y hy e=>by subst e;exact cOut x hy (c0In x hx)⟩
         . intro x hx
           rcases List.mem_append.mp hx with hx|hx
           . exact F2.nz x (c0In x hx)
           . exact p2.bz x hx
         . intro x hx hA
           rcases List.mem_append.mp hx with hx|hx
           . exact hx
           . exact absurd hA (cOut x hx)
         . exact⟨λb o q _=>m2.same b o q,λb hb=>.inl (fK hb),m2.zz,λb h=>(m2.zn b h).imp_right .inr,λb h=>m2.same.free h⟩
         . intro x hx
           rcases List.mem_append.mp hx with hx|hx
           . exact .inl (bB (c0A x hx))
           . rcases p2.bn x hx with z|⟨i,hi,z⟩
             . exact .inr (m1.same.free z)
             . exact .inl (bB z)
       . exact w.elim
      |ex x=>rw[ee]at w;exact WpX.ev w m1.ev
      |no=>rw[ee]at w;exact w
    . exact w.elim
   |ex x=>rw[ed]at w;exact w
   |no=>rw[ed]at w;exact w
def ad5(j:Nat)(mv:List Nat)(e:Fr->Res T)(d:Fr->Res (List Nat))(i:Fr->Res T):Fr->bP:=λρ=>match e ρ with
 |.ok t=>match(kills mv ρ)[j]? with
  |some (some t0)=>match d (kills mv ρ)with
   |.ok p=>match eQ p t0 with
    |some (.lst true us)=>match i (kills mv ρ)with
     |.ok (.int n)=>match rK us.length n with
      |some k=>yW j p (us.set k t) (kills mv ρ)
      |none=>.no
     |.ok _=>.no
     |.ex x=>.ex x
     |.no=>.no
    |_=>.no
   |.ex x=>.ex x
   |.no=>.no
  |_=>.no
 |.ex x=>.ex x
 |.no=>.no
theorem Reps.put(rt:Rep K cn H Z t y C):∀(us:List T){ws:List V}{A:List Addr}{k:Nat},Reps K cn H Z us ws A->k<us.length->∃B1 Bo B2,A=B1++Bo++B2/\Reps K cn H Z (us.set k t) (ws.set k y) (B1++C++B2)
 |[],_,_,_,_,e=>by simp at e
 |u::us,ws,A,0,r,e=>by
  simp only[Reps]at r
  obtain⟨v,r',P,Q',rfl,rfl,h1,h2⟩:=r
  refine⟨[],P,Q',by simp,?_⟩
  simp only[List.set_cons_zero,Reps]
  exact⟨y,r',C,Q',rfl,by simp,rt,h2⟩
 |u::us,ws,A,k+1,r,e=>by
  simp only[Reps]at r
  obtain⟨v,r',P,Q',rfl,rfl,h1,h2⟩:=r
  obtain⟨X1,X2,X3,rfl,hr⟩:=Reps.put rt us (k:=k) h2 (by simpa using e)
  refine⟨P++X1,X2,X3,by simp,?_⟩
  simp only[List.set_cons_succ,Reps]
  exact⟨v,r'.set k y,P,X1++C++X3,rfl,by simp,h1,hr⟩
theorem ex3{j:Nat}{mv:List Nat}{te to ti:TE}{e:Fr->Res T}{d:Fr->Res (List Nat)}{i:Fr->Res T}(he:RE Jn K cn E mv te e)(hd:RP Jn K cn E j to d)(hi:RB Jn K cn E ti i):RS Jn K cn E (ae9 te (ek2 to ti dz5)) (ad5 j mv e d i):=λAs H Z ρ σ F D w=>by
 unfold ad5 at w
 refine he As H Z ρ σ F _ ?_
 cases ee:e ρ with
 |ok t=>
  rw[ee]at w
  intro y H1 Z1 C p1
  simp only at w
  have F1:=(F.mo p1.mo).kills mv
  cases e1:(kills mv ρ)[j]? with
  |none=>rw[e1]at w;exact w.elim
  |some o=>
   rw[e1]at w
   cases o with
   |none=>exact w.elim
   |some t0=>
    obtain⟨v0,e2,r0⟩:=F1.sl.get e1
    simp only at w
    have ev1:Ev As H Z (fR mv As) H1 Z1:=⟨λb o q _=>p1.same b o q,λb hb=>.inl (fK hb),p1.zz,λb h=>(p1.zn b h).imp_right .inr,λb h=>p1.same.free h⟩
    refine hd (fR mv As) H1 Z1 (kills mv ρ) σ F1 t0 v0 e1 e2 r0 _ ?_
    cases ed:d (kills mv ρ)with
    |ok p=>
     rw[ed]at w
     intro u v B H2 Z2 m2 hn pl
     simp only[hn]at w
     split at w
     . next us hq=>
       cases hq
       refine hi (fR mv As) H2 Z2 (kills mv ρ) σ (F1.mo m2) _ ?_
       cases ei:i (kills mv ρ)with
       |ok x=>
        rw[ei]at w
        intro vi H3 Z3 Bi p3
        cases x with
        |int n=>
         simp only at w
         have qi:=p3.rep
         simp only[Rep]at qi
         obtain⟨rfl,_⟩:=qi
         cases ek:rK us.length n with
         |none=>rw[ek]at w;exact w.elim
         |some k=>
          rw[ek]at w
          have m3:=m2.trans p3.mo
          have pl3:=pl.mo p3.same p3.zz
          have q:=pl3.rep
          simp only[Rep]at q
          obtain⟨a,ws,C0,rfl,rfl,ea,rs⟩:=q
          have rt:Rep K cn H3 Z3 t y C:=p1.rep.same m3.same m3.zz
          have F3:=F1.mo m3
          have lw:=Reps.length us rs
          obtain⟨B1,Bo,B2,rfl,rs'⟩:=Reps.put rt us rs (bf6 ek)
          refine⟨a,ws,n,k,rfl,rfl,ea,by rw[lw];exact ek,?_⟩
          have ndB:(a::(B1++Bo++B2)).Nodup:=(lC F1.nd j).sublist pl.sub
          have cA:∀x∈B1++Bo++B2,x∈(fR mv As).getD j []:=λx hx=>pl.sub.mem (List.mem_cons_of_mem _ hx)
          have i1:∀x∈B1,x∈B1++Bo++B2:=λx hx=>List.mem_append_left _ (List.mem_append_left _ hx)
          have i2:∀x∈B2,x∈B1++Bo++B2:=λx hx=>List.mem_append_right _ hx
          have cOut:=p1.out F
          have nd1:=(List.nodup_cons.mp ndB).2
          rw[List.append_assoc,List.nodup_append]at nd1
          obtain⟨n1,n2,n3⟩:=nd1
          rw[List.nodup_append]at n2
          refine bs7 (As:=As) (H:=H) (Z:=Z) (E:=E) F3 e1 e2 pl3 rfl rfl ea (us':=us.set k t) (ws':=ws.set k y) (C:=B1++C++B2) rs' ?_ ?_ ?_ (ev1.trans m3.ev) ?_ w
          . rw[List.append_assoc,List.nodup_append]
            refine⟨n1,?_,λx hx z hz e=>?_⟩
            . rw[List.nodup_append]
              exact⟨p1.nd,n2.2.1,λx hx z hz e=>by subst e;exact cOut x hx (bB (cA x (i2 x hz)))⟩
            . subst e
              rcases List.mem_append.mp hz with hz|hz
              . exact cOut x hz (bB (cA x (i1 x hx)))
              . exact n3 x hx x (List.mem_append_right _ hz) rfl
          . intro x hx
            rcases List.mem_append.mp hx with hx|hx
            . rcases List.mem_append.mp hx with hx|hx
              . exact F3.nz x (bB (cA x (i1 x hx)))
              . intro z
                rcases m3.zn x z with z|z
                . exact p1.bz x hx z
                . obtain⟨o,ho,_⟩:=p1.rep.dom t x hx
                  rw[ho]at z;cases z
            . exact F3.nz x (bB (cA x (i2 x hx)))
          . intro x hx hA
            rcases List.mem_append.mp hx with hx|hx
            . rcases List.mem_append.mp hx with hx|hx
              . exact i1 x hx
              . exact absurd hA (cOut x hx)
            . exact i2 x hx
          . intro x hx
            rcases List.mem_append.mp hx with hx|hx
            . rcases List.mem_append.mp hx with hx|hx
              . exact .inl (fK (bB (cA x (i1 x hx))))
              . exact p1.inA x hx
            . exact .inl (fK (bB (cA x (i2 x hx))))
        |_=>exact w.elim
       |ex x=>rw[ei]at w;exact WpX.ev w (ev1.trans m2.ev)
       |no=>rw[ei]at w;exact w
     . exact w.elim
    |ex x=>rw[ed]at w;exact WpX.ev w ev1
    |no=>rw[ed]at w;exact w
 |ex x=>rw[ee]at w;exact w
 |no=>rw[ee]at w;exact w
def bQ:bP->Res T
 |.nx _=>.ok .non
 |.rt t=>.ok t
 |.ex x=>.ex x
 |_=>.no
def cD(n:Nat)(ts:List T):Fr:=ts.map some++List.replicate (n-ts.length) none
theorem ac1:∀(m:Nat),Slots K cn H Z (List.replicate m none) (List.replicate m none) (List.replicate m [])
 |0=>⟨rfl,rfl⟩
 |m+1=>⟨none,List.replicate m none,[],List.replicate m [],rfl,rfl,rfl,ac1 m⟩
theorem ad2:∀(ts:List T){vs:List V},Reps K cn H Z ts vs []->Slots K cn H Z (ts.map some++List.replicate m none) (vs.map some++List.replicate m none) (List.replicate (ts.length+m) [])
 |[],vs,h=>by
  simp only[Reps]at h
  obtain⟨rfl,_⟩:=h
  simpa using ac1 m
 |t::ts,vs,h=>by
  simp only[Reps]at h
  obtain⟨v,r,B,C,rfl,e,h1,h2⟩:=h
  have eb:B=[]/\C=[]:=by simpa using e.symm
  obtain⟨rfl,rfl⟩:=eb
  have:=ad2 (m:=m) ts h2
  refine⟨some v,_,[],List.replicate (ts.length+m) [],rfl,?_,⟨v,rfl,h1⟩,this⟩
  rw[List.length_cons,show ts.length+1+m=(ts.length+m)+1 by omega]
  rfl
theorem lJ:∀m:Nat,(List.replicate m ([]:List Addr)).flatten=[]
 |0=>rfl
 |m+1=>by rw[List.replicate_succ,List.flatten_cons,lJ m];rfl
theorem by0 {P : Program} {w : World} {mg : Str → Option Value} {base : Heap} {x qual : Str} {st : Stmt} {f : Addr} {fd : FuncData} {N ps : List Str} {k : Nat} {d : Fr → bP} (F : Fun K x qual st f fd) (S : aY N ps (aO st))
    (hbody : ∀ (cdv : Value) (A : Around) (outer : List Env) (s : Shared) (H : Hp) (E : XK), Room k (A.deeper (envOfC qual (aO st) s.heap.objs.size f cdv)) →
      ∃ t, PSs (mK kA P w K mg base N qual (aO st) f cdv A outer s H E).nox (dO st) t ∧ RS [] K cn E t d) {n : Nat} {G : List T → Res T} (hn : ps.length = n) (hG : ∀ ts, G ts = bQ (d (cD N.length ts))) : FnOk P w K mg base kA (k + 1) f fd ps (bN K cn n G) := by
  have eG : G = fun ts => bQ (d (cD N.length ts)) := funext hG
  subst hn eG
  refine F.ok S (fun vs H Q E h => h.1) fun cdv A outer s H vs Q E hr h => ?_
  obtain ⟨hl, ts, Z, zi, r, w⟩ := h
  obtain ⟨t, hp, ht⟩ := hbody cdv A outer s H E hr
  refine ⟨t, hp, ?_⟩
  have lt := Reps.length ts r
  have sl : Slots K cn H Z (cD N.length ts) (L2.start N vs) (List.replicate (ts.length + (N.length - ts.length)) []) := by
    unfold cD L2.start
    rw [lt]
    exact ad2 ts r
  have F0 : Frm [] K cn H Z (cD N.length ts) (L2.start N vs) (List.replicate (ts.length + (N.length - ts.length)) []) := ⟨sl, by rw [lJ]; exact List.nodup_nil, by rw [lJ]; exact eH, zi, eH⟩
  refine ht _ H Z _ _ F0 _ ?_
  have bn : ∀ {B : List Addr} {H' : Hp} {Z' : Addr → Prop}, Ev (List.replicate (ts.length + (N.length - ts.length)) []) H Z [B] H' Z' → ∀ b ∈ B, H b = none := fun {B H' Z'} e b hb => by
    rcases e.own b (by simpa using hb) with q | q
    · rw [lJ] at q; cases q
    · exact q
  have sm : ∀ {As' : List (List Addr)} {H' : Hp} {Z' : Addr → Prop}, Ev (List.replicate (ts.length + (N.length - ts.length)) []) H Z As' H' Z' → Same H H' ∧ ∀ a, Z' a → Z a ∨ H a = none := fun {As' H' Z'} e => ⟨fun b o q => e.keep b o q (by rw [lJ]; exact (fun z => nomatch z)), fun a z => by
    rcases e.zn a z with q | q | q
    · exact .inl q
    · rw [lJ] at q; cases q
    · exact .inr q⟩
  cases ed : d (cD N.length ts) with
  | nx ρ =>
    simp only [ed, bQ] at w
    intro σ' As' H' Z' F' ev
    exact w .non H' Z' [] ⟨(sm ev).1, ev.zz, (sm ev).2, F'.zi, by simp [Rep], List.nodup_nil, eH, eH⟩
  | rt t =>
    simp only [ed, bQ] at w
    intro v H' Z' B p
    exact w v H' Z' B ⟨(sm p.ev).1, p.ev.zz, (sm p.ev).2, p.zi, p.rep, p.nd, p.bz, fun b hb => .inl (bn p.ev b hb)⟩
  | ex x =>
    simp only [ed, bQ] at w
    exact WpX.ev w ⟨fun _ _ q _ => q, fun a ha => (by rw [lJ] at ha; exact nomatch ha), fun _ h => h, fun _ h => .inl h, fun _ h => h⟩
  | bk ρ => simp only [ed, bQ] at w; exact w.elim
  | rm ρ t => simp only [ed, bQ] at w; exact w.elim
  | ct ρ => simp only [ed, bQ] at w; exact w.elim
  | no => simp only [ed, bQ] at w; exact w.elim
theorem bH{P:Program}{w:World}{mg:Str->Option Value}{base:Heap}{x:Str}{st:Stmt}{N ps:List Str}{k:Nat}{d:Fr->bP}(F:dW K mg x st)(S:aY N ps (aO st))
 (hb:∀(kV doc pm:Value)(an:Option Addr)(cdv ct:Value)(us:List Value),us.length=ps.length->bindArgs (PySem.W.fnOf x x (jM st) (dO st) (aO st) .none kV doc pm an cdv ct) ⟨us,[]⟩=pure (ps.zip us))
 (hbody:∀(f:Addr)(cdv:Value)(A:Around)(outer:List Env)(s:Shared)(H:Hp)(E:XK),Room k (A.deeper (envOfC x (aO st) s.heap.objs.size f cdv))->
  ∃t,PSs (mK kA P w K mg base N x (aO st) f cdv A outer s H E).nox (dO st) t/\RS [] K cn E t d){n:Nat}{G:List T->Res T}(hn:ps.length=n)(hG:∀ts,G ts=bQ (d (cD N.length ts))):dQ P w K mg base (k+1) x ps (bN K cn n G):=by
 obtain⟨f,fd,F,hm⟩:=F.ex
 exact⟨f,fd,by0 F S (λcdv A outer s H E hr=>hbody f cdv A outer s H E hr) hn hG,hm,F.kp,F.binds hb⟩
theorem law_fn(F:FnOk P w K mg base kA k f fd [p] (bN K cn 1 G))
 (h:∀ns:List Int,ns.length<=63->(∀n∈ns,Builtin.Int.intBits n<=1048576)->G [.lst false (ns.map .int)]=.ok (.bl true)):FnOk P w K mg base kA k f fd [p] (bp4 K):=by
 refine F.imp λvs H Q E q=>?_
 obtain⟨a,ns,rfl,hs,h63,hbits,hq⟩:=q
 have rints:∀(Z:Addr->Prop)(ns:List Int),Reps K cn H Z (ns.map T.int) (ns.map V.int) []:=by
  intro Z ns
  induction ns with
  |nil=>simp[Reps]
  |cons n ns ih=>
   simp only[List.map_cons,Reps]
   exact⟨.int n,ns.map V.int,[],[],rfl,rfl,by simp[Rep],ih⟩
 refine⟨rfl,[.lst false (ns.map .int)],λb=>b=a/\H b≠none,λb z=>z.2,Reps.one ?_,?_⟩
 . simp only[Rep]
   refine⟨a,ns.map V.int,rfl,trivial,?_,rints _ ns⟩
   rcases hs with(hs|⟨o,hs⟩)|hs
   . exact .inl ⟨hs,rfl,by rw[hs];exact(λz=>nomatch z)⟩
   . exact .inr (.inl ⟨o,hs⟩)
   . exact .inr (.inr hs)
 . rw[h ns h63 hbits]
   intro v H' Z' B p
   have q:=p.rep
   simp only[Rep]at q
   rw[q.1]
   exact hq H'
end
end TL
namespace L2
open PySem PySem.Spec PyProof.Rows
def EqD(K:PySem.W.Frag)(H:Hp):Nat->V->V->Bool->Prop
 |0,x,y,b=>tI x=true/\tI y=true/\b=eqV x y
 |n+1,x,y,b=>(tI x=true/\tI y=true/\b=eqV x y)\/
  (∃p q xs ys,x=.ref p/\y=.ref q/\SqL K H p xs/\SqL K H q ys/\((xs.length≠ys.length/\b=false)\/
   (xs.length=ys.length/\∃es:List Bool,es.length=xs.length/\(∀(j:Nat) x y e,xs[j]?=some x->ys[j]?=some y->es[j]?=some e->EqD K H n x y e)/\b=es.all id)))\/
  (∃p q xs ys,x=.ref p/\y=.ref q/\SqT K H p xs/\SqT K H q ys/\∃es:List Bool,es.length=min xs.length ys.length/\
   (∀(j:Nat) x y e,xs[j]?=some x->ys[j]?=some y->es[j]?=some e->EqD K H n x y e)/\b=(es.all id&&xs.length==ys.length))
theorem be8:∀{x:V},tI x=true->eqV x x=true
 |.non,_=>rfl
 |.bl b,_=>by simp[eqV]
 |.int i,_=>by simp[eqV]
 |.str s,_=>by simp[eqV]
theorem sE(es:List Bool):((List.range es.length).all λj=>es.getD j true)=es.all id:=by
 induction es with
 |nil=>rfl
 |cons b es ih=>
  show(List.range (es.length+1)).all _=_
  rw[List.range_succ_eq_map,List.all_cons,List.all_map]
  show(b&&_)=(b&&es.all id)
  rw[<-ih]
  rfl
section
variable {X : Cx} {pins : List (Addr × Obj)} {σ : St} {H : Hp} {s : Shared}
theorem EqD.self(I:Inv X pins σ H s):∀(n:Nat)(x:V)(b:Bool),EqD X.K H n x x b->b=true
 |0,x,b,h=>by
  obtain⟨h1,_,rfl⟩:=h
  exact be8 h1
 |n+1,x,b,h=>by
  rcases h with⟨h1,_,rfl⟩|⟨p,q,xs,ys,e1,e2,s1,s2,h⟩|⟨p,q,xs,ys,e1,e2,s1,s2,es,hl,he,rfl⟩
  . exact be8 h1
  . rw[e1]at e2
    cases e2
    have:=I.list_inj s1 s2
    subst this
    rcases h with⟨h,_⟩|⟨_,es,hl,he,rfl⟩
    . exact absurd rfl h
    . rw[List.all_eq_true]
      intro e hm
      obtain⟨j,hj,rfl⟩:=List.getElem_of_mem hm
      exact EqD.self I n xs[j] es[j] (he j xs[j] xs[j] es[j] (List.getElem?_eq_getElem (by omega)) (List.getElem?_eq_getElem (by omega)) (List.getElem?_eq_getElem hj))
  . rw[e1]at e2
    cases e2
    have:=I.tuple_inj s1 s2
    subst this
    rw[beq_self_eq_true,Bool.and_true,List.all_eq_true]
    intro e hm
    obtain⟨j,hj,rfl⟩:=List.getElem_of_mem hm
    have hx:j<xs.length:=by omega
    exact EqD.self I n xs[j] es[j] (he j xs[j] xs[j] es[j] (List.getElem?_eq_getElem hx) (List.getElem?_eq_getElem hx) (List.getElem?_eq_getElem hj))
theorem gJ(r:Vals xs us)(h:j<us.length):∃x,xs[j]?=some x/\RelV x us[j]:=by
 have l:=r.length
 have e1:xs[j]?=some xs[j]:=List.getElem?_eq_getElem (by omega)
 obtain⟨u,hu,ru⟩:=r.get e1
 rw[List.getElem?_eq_getElem h]at hu
 exact⟨xs[j],e1,by rw[Option.some.inj hu];exact ru⟩
theorem nN(I:Inv X pins σ H s):∀(n:Nat){A:Around}{x y:V}{u v:Value}{b:Bool},A.units+n<cLine->RelV x u->RelV y v->EqD X.K H n x y b->SeqAt.EqAt A s u v b
 |0,A,x,y,u,v,b,hu,rx,ry,h=>by
  obtain⟨h1,h2,rfl⟩:=h
  exact cs8 rx ry h1 h2
 |n+1,A,x,y,u,v,b,hu,rx,ry,h=>by
  have h0:=h
  rcases h with⟨h1,h2,rfl⟩|⟨p,q,xs,ys,rfl,rfl,s1,s2,h⟩|⟨p,q,xs,ys,rfl,rfl,s1,s2,es,hl,he,rfl⟩
  . exact cs8 rx ry h1 h2
  . cases rx
    cases ry
    by_cases hpq:p=q
    . subst hpq
      rw[EqD.self I (n+1) _ b h0]
      exact SeqAt.EqAt.same _
    . obtain⟨its,r1,p1,_⟩:=I.list s1
      obtain⟨jts,r2,p2,_⟩:=I.list s2
      have l1:=r1.length
      have l2:=r2.length
      refine SeqAt.EqAt.of_refs hpq ?_
      rcases h with⟨hne,rfl⟩|⟨heq,es,hl,he,rfl⟩
      . exact SeqAt.RcAt.lists_lengths p1.isList p2.isList (by simp only[List.size_toArray,bne_iff_ne,ne_eq];omega) (by omega)
      . have:=SeqAt.RcAt.lists (A:=A) (s:=s) (e:=λj=>es.getD j true) p1.isList p2.isList (by simp only[List.size_toArray];omega) (by omega) (λj h1 h2=>by
         simp only[List.size_toArray]at h1 h2
         simp only[List.getElem_toArray]
         obtain⟨x,ex,rx⟩:=gJ r1 h1
         obtain⟨y,ey,ry⟩:=gJ r2 h2
         have hj:j<es.length:=by omega
         have eg:es.getD j true=es[j]:=by rw[List.getD_eq_getElem?_getD,List.getElem?_eq_getElem hj];rfl
         rw[eg]
         exact nN I n (by show A.units+1+n<cLine;omega) rx ry (he j x y es[j] ex ey (List.getElem?_eq_getElem hj)))
        rw[List.size_toArray,show its.length=es.length by omega,sE]at this
        exact this
  . cases rx
    cases ry
    by_cases hpq:p=q
    . subst hpq
      rw[EqD.self I (n+1) _ _ h0]
      exact SeqAt.EqAt.same _
    . obtain⟨its,r1,p1,_⟩:=I.tuple s1
      obtain⟨jts,r2,p2,_⟩:=I.tuple s2
      have l1:=r1.length
      have l2:=r2.length
      refine SeqAt.EqAt.of_refs hpq ?_
      have:=SeqAt.RcAt.tuples (A:=A) (s:=s) (e:=λj=>es.getD j true) (show s.heap.IsTuple p its.toArray from p1) (show s.heap.IsTuple q jts.toArray from p2) (by omega) (λj h1 h2=>by
       simp only[List.size_toArray]at h1 h2
       simp only[List.getElem_toArray]
       obtain⟨x,ex,rx⟩:=gJ r1 h1
       obtain⟨y,ey,ry⟩:=gJ r2 h2
       have hj:j<es.length:=by omega
       have eg:es.getD j true=es[j]:=by rw[List.getD_eq_getElem?_getD,List.getElem?_eq_getElem hj];rfl
       rw[eg]
       exact nN I n (by show A.units+1+n<cLine;omega) rx ry (he j x y es[j] ex ey (List.getElem?_eq_getElem hj)))
      simp only[List.size_toArray]at this
      rw[show min its.length jts.length=es.length by omega,sE,<-l1,<-l2]at this
      exact this
def cm5(K:PySem.W.Frag)(n:Nat):R2:=λx y H Q=>rEq x y H Q\/(∃p q b,x=.ref p/\y=.ref q/\EqD K H n x y b/\Q (.bl b) H)
theorem em2(hu:X.A.units+n<cLine):OpR X (compareOp .Eq) (cm5 X.K n):=by
 intro pins s σ H x y v u Q I rx ry h
 rcases h with h|⟨p,q,b,rfl,rfl,h,hq⟩
 . exact ek6 s σ H x y v u Q I rx ry h
 . cases rx
   cases ry
   have bQ:EP X pins σ Q (.bool b) s:=⟨.bl b,H,I,rfl,hq⟩
   cases n with
   |zero=>exact absurd h.1 (λz=>by cases z)
   |succ n=>
    rcases h with⟨h1,_,_⟩|⟨p,q,xs,ys,e1,e2,s1,s2,h⟩|⟨p,q,xs,ys,e1,e2,s1,s2,es,hl,he,rfl⟩
    . exact absurd h1 (λz=>by cases z)
    . cases e1
      cases e2
      obtain⟨its,r1,p1,_⟩:=I.list s1
      obtain⟨jts,r2,p2,_⟩:=I.list s2
      have l1:=r1.length
      have l2:=r2.length
      rcases h with⟨hne,rfl⟩|⟨heq,es,hl,he,rfl⟩
      . exact SeqAt.eq_list_lengthsAt p1.isList p2.isList (by simp only[List.size_toArray,bne_iff_ne,ne_eq];omega) (by omega) bQ
      . refine SeqAt.eq_listAt (e:=λj=>es.getD j true) p1.isList p2.isList (by simp only[List.size_toArray];omega) (by omega) (λj h1 h2=>?_) ?_
        . simp only[List.size_toArray]at h1 h2
          simp only[List.getElem_toArray]
          obtain⟨x,ex,rx⟩:=gJ r1 h1
          obtain⟨y,ey,ry⟩:=gJ r2 h2
          have hj:j<es.length:=by omega
          have eg:es.getD j true=es[j]:=by rw[List.getD_eq_getElem?_getD,List.getElem?_eq_getElem hj];rfl
          rw[eg]
          exact nN I n (by show X.A.units+1+n<cLine;omega) rx ry (he j x y es[j] ex ey (List.getElem?_eq_getElem hj))
        . rw[List.size_toArray,show its.length=es.length by omega,sE]
          exact bQ
    . cases e1
      cases e2
      obtain⟨its,r1,p1,_⟩:=I.tuple s1
      obtain⟨jts,r2,p2,_⟩:=I.tuple s2
      have l1:=r1.length
      have l2:=r2.length
      refine SeqAt.eq_tupleAt (e:=λj=>es.getD j true) (show s.heap.IsTuple p its.toArray from p1) (show s.heap.IsTuple q jts.toArray from p2) (by omega) (λj h1 h2=>?_) ?_
      . simp only[List.size_toArray]at h1 h2
        simp only[List.getElem_toArray]
        obtain⟨x,ex,rx⟩:=gJ r1 h1
        obtain⟨y,ey,ry⟩:=gJ r2 h2
        have hj:j<es.length:=by omega
        have eg:es.getD j true=es[j]:=by rw[List.getD_eq_getElem?_getD,List.getElem?_eq_getElem hj];rfl
        rw[eg]
        exact nN I n (by show X.A.units+1+n<cLine;omega) rx ry (he j x y es[j] ex ey (List.getElem?_eq_getElem hj))
      . simp only[List.size_toArray]
        rw[show min its.length jts.length=es.length by omega,sE,<-l1,<-l2]
        exact bQ
def bj5(K:PySem.W.Frag)(n:Nat)(neg:Bool):R2:=λx y H Q=>(∃p ys,y=.ref p/\(SqL K H p ys\/SqT K H p ys)/\∃es:List Bool,es.length=ys.length/\(∀(j:Nat) y e,ys[j]?=some y->es[j]?=some e->EqD K H n y x e)/\Q (.bl (if neg then !es.any id else es.any id)) H)\/
 (∃i j,x=.str i/\y=.str j/\Q (.bl (if neg then !(!(Builtin.Str.occurrences j i 0 j.length 1).isEmpty)else(!(Builtin.Str.occurrences j i 0 j.length 1).isEmpty))) H)
theorem EqD.det(I:Inv X pins σ H s):∀(n:Nat)(x y:V)(b c:Bool),EqD X.K H n x y b->EqD X.K H n x y c->b=c:=by
 intro n
 induction n with
 |zero=>intro x y b c h1 h2;rw[h1.2.2,h2.2.2]
 |succ n ih=>
  intro x y b c h1 h2
  have flat_ref:∀{p:Addr},tI (.ref p)=true->False:=λh=>by cases h
  rcases h1 with⟨a1,a2,rfl⟩|⟨p,q,xs,ys,rfl,rfl,s1,s2,h1⟩|⟨p,q,xs,ys,rfl,rfl,s1,s2,es,hl,he,rfl⟩
  . rcases h2 with⟨b1,b2,rfl⟩|⟨p,q,xs,ys,rfl,rfl,_⟩|⟨p,q,xs,ys,rfl,rfl,_⟩
    . rfl
    . exact(flat_ref a1).elim
    . exact(flat_ref a1).elim
  . rcases h2 with⟨b1,b2,rfl⟩|⟨p',q',xs',ys',e1,e2,t1,t2,h2⟩|⟨p',q',xs',ys',e1,e2,t1,t2,_⟩
    . exact(flat_ref b1).elim
    . cases e1
      cases e2
      have z1:=I.list_inj s1 t1
      have z2:=I.list_inj s2 t2
      subst z1 z2
      rcases h1 with⟨n1,rfl⟩|⟨n1,es,hl,he,rfl⟩
      . rcases h2 with⟨n2,rfl⟩|⟨n2,_⟩
        . rfl
        . exact absurd n2 n1
      . rcases h2 with⟨n2,rfl⟩|⟨n2,es',hl',he',rfl⟩
        . exact absurd n1 n2
        . have:es=es':=by
           apply List.ext_getElem (by omega)
           intro j h1 h2
           exact ih xs[j] ys[j] es[j] es'[j] (he j _ _ _ (List.getElem?_eq_getElem (by omega)) (List.getElem?_eq_getElem (by omega)) (List.getElem?_eq_getElem h1)) (he' j _ _ _ (List.getElem?_eq_getElem (by omega)) (List.getElem?_eq_getElem (by omega)) (List.getElem?_eq_getElem h2))
          rw[this]
    . cases e1
      obtain⟨_,_,⟨o,n',eo,c1,_⟩,_⟩:=I.list s1
      obtain⟨_,_,⟨o',eo',c2,_⟩,_⟩:=I.tuple t1
      rw[eo]at eo'
      cases eo'
      rw[c1]at c2
      exact absurd c2 (by decide)
  . rcases h2 with⟨b1,b2,rfl⟩|⟨p',q',xs',ys',e1,e2,t1,t2,h2⟩|⟨p',q',xs',ys',e1,e2,t1,t2,es',hl',he',rfl⟩
    . exact(flat_ref b1).elim
    . cases e1
      obtain⟨_,_,⟨o,n',eo,c1,_⟩,_⟩:=I.list t1
      obtain⟨_,_,⟨o',eo',c2,_⟩,_⟩:=I.tuple s1
      rw[eo]at eo'
      cases eo'
      rw[c1]at c2
      exact absurd c2 (by decide)
    . cases e1
      cases e2
      have z1:=I.tuple_inj s1 t1
      have z2:=I.tuple_inj s2 t2
      subst z1 z2
      have:es=es':=by
       apply List.ext_getElem (by omega)
       intro j h1 h2
       have hx:j<xs.length:=by omega
       have hy:j<ys.length:=by omega
       exact ih xs[j] ys[j] es[j] es'[j] (he j _ _ _ (List.getElem?_eq_getElem hx) (List.getElem?_eq_getElem hy) (List.getElem?_eq_getElem h1)) (he' j _ _ _ (List.getElem?_eq_getElem hx) (List.getElem?_eq_getElem hy) (List.getElem?_eq_getElem h2))
      rw[this]
theorem ap7(I:Inv X pins σ H s){n:Nat}{x:V}{ys:List V}{us:List Value}{es:List Bool}(r:Vals ys us)(hl:es.length=ys.length)(he:∀(j:Nat) y e,ys[j]?=some y->es[j]?=some e->EqD X.K H n y x e):
 ∃e:Value->Bool,(∀u∈us,∃y,RelV y u/\EqD X.K H n y x (e u))/\us.any e=es.any id:=by
 refine⟨λu=>@decide (∃y,RelV y u/\EqD X.K H n y x true) (Classical.propDecidable _),?_,?_⟩
 . intro u hu
   obtain⟨j,hj,rfl⟩:=List.getElem_of_mem hu
   obtain⟨y,ey,ry⟩:=gJ r hj
   have lj:j<es.length:=by rw[hl,r.length];exact hj
   have q:=he j y es[j] ey (List.getElem?_eq_getElem lj)
   refine⟨y,ry,?_⟩
   by_cases c:∃y,RelV y us[j]/\EqD X.K H n y x true
   . obtain⟨y',ry',q'⟩:=c
     have:=ry.inj ry'
     subst this
     simp only[show(∃y,RelV y us[j]/\EqD X.K H n y x true) from⟨y,ry,q'⟩,decide_true]
     exact q'
   . simp only[c,decide_false]
     cases eb:es[j]with
     |false=>rw[eb]at q;exact q
     |true=>rw[eb]at q;exact absurd ⟨y,ry,q⟩ c
 . rw[Bool.eq_iff_iff,List.any_eq_true,List.any_eq_true]
   constructor
   . rintro⟨u,hu,c⟩
     obtain⟨j,hj,rfl⟩:=List.getElem_of_mem hu
     obtain⟨y,ey,ry⟩:=gJ r hj
     have lj:j<es.length:=by rw[hl,r.length];exact hj
     obtain⟨y',ry',q'⟩:=@of_decide_eq_true _ (Classical.propDecidable _) c
     have:=ry.inj ry'
     subst this
     have q:=he j y es[j] ey (List.getElem?_eq_getElem lj)
     exact⟨es[j],List.getElem_mem lj,EqD.det I n y x es[j] true q q'⟩
   . rintro⟨e,hm,c⟩
     obtain⟨j,hj,rfl⟩:=List.getElem_of_mem hm
     have c':es[j]=true:=c
     have lj:j<us.length:=by rw[<-r.length,<-hl];exact hj
     obtain⟨y,ey,ry⟩:=gJ r lj
     have q:=he j y es[j] ey (List.getElem?_eq_getElem hj)
     rw[c']at q
     exact⟨us[j],List.getElem_mem lj,@decide_eq_true _ (Classical.propDecidable _) ⟨y,ry,q⟩⟩
theorem em3{n:Nat}(hu:X.A.units+n+1<cLine):OpR X (compareOp .In) (bj5 X.K n false):=by
 intro pins s σ H x y v u Q I rx ry h
 rcases h with⟨p,ys,rfl,hs,es,hl,he,q⟩|⟨i,j,rfl,rfl,q⟩
 . cases ry
   rcases hs with hs|hs
   . obtain⟨its,r,pl,_⟩:=I.list hs
     obtain⟨e,h1,h2⟩:=ap7 I r hl he
     refine SeqAt.in_listAt e pl.isList (λy hy=>?_) ?_
     . obtain⟨y',ry',q'⟩:=h1 y (by simpa using hy)
       exact nN I n (by show X.A.units+1+n<cLine;omega) ry' rx q'
     . exact⟨.bl _,H,I,by rw[List.any_toArray,h2];rfl,q⟩
   . obtain⟨its,r,pl,_⟩:=I.tuple hs
     obtain⟨e,h1,h2⟩:=ap7 I r hl he
     refine SeqAt.in_tupleAt e (show s.heap.IsTuple p its.toArray from pl) (λy hy=>?_) ?_
     . obtain⟨y',ry',q'⟩:=h1 y (by simpa using hy)
       exact nN I n (by show X.A.units+1+n<cLine;omega) ry' rx q'
     . exact⟨.bl _,H,I,by rw[List.any_toArray,h2];rfl,q⟩
 . exact cp9 s σ H _ _ v u Q I rx ry ⟨i,j,rfl,rfl,q⟩
theorem cz6{n:Nat}(hu:X.A.units+n+1<cLine):OpR X (compareOp .NotIn) (bj5 X.K n true):=by
 intro pins s σ H x y v u Q I rx ry h
 rcases h with⟨p,ys,rfl,hs,es,hl,he,q⟩|⟨i,j,rfl,rfl,q⟩
 . cases ry
   rcases hs with hs|hs
   . obtain⟨its,r,pl,_⟩:=I.list hs
     obtain⟨e,h1,h2⟩:=ap7 I r hl he
     refine SeqAt.notIn_listAt e pl.isList (λy hy=>?_) ?_
     . obtain⟨y',ry',q'⟩:=h1 y (by simpa using hy)
       exact nN I n (by show X.A.units+1+n<cLine;omega) ry' rx q'
     . exact⟨.bl _,H,I,by rw[List.any_toArray,h2];rfl,q⟩
   . obtain⟨its,r,pl,_⟩:=I.tuple hs
     obtain⟨e,h1,h2⟩:=ap7 I r hl he
     refine SeqAt.notIn_tupleAt e (show s.heap.IsTuple p its.toArray from pl) (λy hy=>?_) ?_
     . obtain⟨y',ry',q'⟩:=h1 y (by simpa using hy)
       exact nN I n (by show X.A.units+1+n<cLine;omega) ry' rx q'
     . exact⟨.bl _,H,I,by rw[List.any_toArray,h2];rfl,q⟩
 . exact bx5 s σ H _ _ v u Q I rx ry ⟨i,j,rfl,rfl,q⟩
def du9:R2:=λx y H Q=>(y=.non/\Q (.bl (decide (x=.non))) H)\/(∃a b,x=.bl a/\y=.bl b/\Q (.bl (a==b)) H)
theorem am2:OpR X (compareOp .Is) du9:=by
 intro pins s σ H x y v u Q I rx ry h
 rcases h with h|⟨a,b,rfl,rfl,q⟩
 . exact eq2 s σ H x y v u Q I rx ry h
 . cases rx
   cases ry
   exact is_bool ⟨.bl _,H,I,rfl,q⟩
end
end L2
namespace L2
open PySem PySem.Spec PyProof.Rows
def zX(z:Str)(k:Nat):Str:=⟨((List.replicate k z.cps.toList).flatten).toArray⟩
theorem ac8(z:Str):∀(k:Nat)(acc:List Nat),List.foldl (λx1 x2=>x1++x2) acc.toArray (List.replicate k z.cps)=(acc++(List.replicate k z.cps.toList).flatten).toArray
 |0,acc=>by simp
 |k+1,acc=>by
  rw[List.replicate_succ,List.foldl_cons,List.replicate_succ,List.flatten_cons]
  have e:acc.toArray++z.cps=(acc++z.cps.toList).toArray:=by simp
  rw[e,ac8 z k,List.append_assoc]
section
variable {X : Cx}
def di6(K:PySem.W.Frag):R2:=λx y H Q=>∃l b xs zs,x=.ref l/\y=.ref b/\SqS K H l xs/\SqS K H b zs/\xs.length+zs.length<=sizeLine/\∀p,H p=none->Q (.ref p) (upd H p (.lst (xs++zs)))
theorem op_catS:OpR X (binaryOp .Add) (di6 X.K):=by
 intro pins s σ H x y v u Q I rx ry h
 obtain⟨l,b,xs,zs,rfl,rfl,hH,hB,hz,q⟩:=h
 cases rx
 cases ry
 obtain⟨its,n,r,e,_⟩:=I.listS hH
 obtain⟨its2,n2,r2,e2,_⟩:=I.listS hB
 have hl:=r.length
 have hl2:=r2.length
 refine PySem.P.add_list e e2 ?_ (by rw[List.size_toArray,List.size_toArray];omega)
 have ea:its.toArray++its2.toArray=(its++its2).toArray:=by simp
 rw[ea]
 exact⟨.ref _,_,I.lnew (t':=s.toks) (r.append r2) (by rw[List.length_append];omega),rfl,q _ I.fresh⟩
def dm5(K:PySem.W.Frag):R2:=λx y H Q=>wG (λi j=>.int (i+j)) x y H Q\/ek5 x y H Q\/di6 K x y H Q\/dc6 K x y H Q
theorem bG(K:PySem.W.Frag)(hK:X.K=K:=by rfl):OpR X (binaryOp .Add) (dm5 K):=by
 subst hK
 exact op_add.or (op_add_str.or (op_catS.or dc8))
def de6:R2:=λx y H Q=>∃z k,x=.str z/\y=.int k/\-(2^63)<=k/\k<2^62/\z.length*k.toNat<=sizeLine/\Q (.str (zX z k.toNat)) H
theorem dx6:OpR X (binaryOp .Mult) de6:=by
 intro pins s σ H x y v u Q I rx ry h
 obtain⟨z,k,rfl,rfl,h1,h2,hz,q⟩:=h
 obtain⟨t,rfl⟩:=rx
 obtain⟨t',rfl⟩:=ry
 have hn:=sizeLine_eq
 refine PySem.P.mul_str ?_ ?_ ?_ ?_
 . rw[decide_eq_false (by omega),decide_eq_false (by omega)]
   rfl
 . intro hk _
   have hk1:1<=k:=by omega
   have:((z.length:Int))<=16777216:=by
    have:z.length*1<=z.length*k.toNat:=Nat.mul_le_mul_left _ (by omega)
    omega
   have hq:(2^63-1:Int)/k>=(z.length:Int):=by
    refine(Int.le_ediv_iff_mul_le (by omega)).mpr ?_
    have e:(z.length:Int)*k=((z.length*k.toNat:Nat):Int):=by
     rw[Int.natCast_mul,Int.toNat_of_nonneg (by omega)]
    rw[e]
    omega
   omega
 . intro _ _
   unfold Builtin.Str.tooLong
   exact decide_eq_false (by omega)
 . split
   . next hk=>
     have e:zX z k.toNat=Str.empty:=by
      have:k.toNat=0:=by omega
      rw[this]
      rfl
     rw[e]at q
     exact⟨by decide,.str _,H,I.tok _,⟨_,rfl⟩,q⟩
   . next hk=>
     split
     . next hc=>
       have e:zX z k.toNat=z:=by
        rw[Bool.or_eq_true,beq_iff_eq,beq_iff_eq]at hc
        rcases hc with hc|hc
        . subst hc
          simp[zX]
        . have hz0:z.cps.toList=[]:=by
           have:z.cps.toList.length=0:=by rw[Array.length_toList];exact hc
           exact List.eq_nil_of_length_eq_zero this
          have:(List.replicate k.toNat z.cps.toList).flatten=[]:=by
           rw[hz0]
           simp
          unfold zX
          rw[this]
          obtain⟨⟨l⟩⟩:=z
          simp at hz0
          rw[hz0]
       rw[e]at q
       exact⟨.str _,H,I,⟨_,rfl⟩,q⟩
     . have e:(⟨(List.replicate k.toNat z.cps).foldl (· ++ ·) #[]⟩:Str)=zX z k.toNat:=by
        have:=ac8 z k.toNat []
        rw[List.nil_append]at this
        unfold zX
        rw[<-this]
       rw[e]
       refine⟨?_,.str _,H,I.tok _,⟨_,rfl⟩,q⟩
       show((List.replicate k.toNat z.cps.toList).flatten.toArray).size<=sizeLine
       rw[List.size_toArray,dl6,Array.length_toList,Nat.mul_comm]
       exact hz
def dn5:R2:=λx y H Q=>eu3 x y H Q\/de6 x y H Q
theorem mG:OpR X (binaryOp .Mult) dn5:=op_mulB.or dx6
end
end L2
namespace TL
open PySem PySem.Spec PyProof.Rows L2
section
variable {Jn : iO} {K : PySem.W.Frag} {cn : Str → Option Addr} {E : XK} {As : List (List Addr)} {H : Hp} {Z : Addr → Prop} {Q : VK}
theorem WpE.val(w:WpE K cn E As H Z [] Q (.ok t))(zi:∀a,Z a->H a≠none)(r:Rep K cn H Z t v []):Q v H:=
 w v H Z [] ⟨Same.refl _,λ_ h=>h,λ_ h=>.inl h,zi,r,List.nodup_nil,eH,eH⟩
theorem WpE.newL(w:WpE K cn E As H Z [] Q (.ok (.lst true ts)))(zi:∀a,Z a->H a≠none)(r:Reps K cn H Z ts vs [])(p:Addr)(hp:H p=none):Q (.ref p) (L2.upd H p (.lst vs)):=by
 have m:=Mo.new (.lst vs) hp zi
 refine w (.ref p) _ Z [p] ⟨m.same,m.zz,m.zn,m.zi,?_,by simp,λb hb=>?_,λb hb=>?_⟩
 . simp only[Rep]
   exact⟨p,vs,[],rfl,rfl,fG,r.same m.same m.zz⟩
 . rw[List.mem_singleton.mp hb];exact λz=>zi p z hp
 . rw[List.mem_singleton.mp hb];exact .inl hp
theorem WpE.newT(w:WpE K cn E As H Z [] Q (.ok (.tup ts)))(zi:∀a,Z a->H a≠none)(r:Reps K cn H Z ts vs [])(p:Addr)(hp:H p=none):Q (.ref p) (L2.upd H p (.tup vs)):=by
 have m:=Mo.new (.tup vs) hp zi
 refine w (.ref p) _ Z [] ⟨m.same,m.zz,m.zn,m.zi,?_,List.nodup_nil,eH,eH⟩
 simp only[Rep]
 exact⟨p,vs,rfl,SqT.of fG,r.same m.same m.zz⟩
theorem Rep.int{i:Int}{v:V}{A:List Addr}(h:Rep K cn H Z (.int i) v A):v=.int i:=by simp only[Rep]at h;exact h.1
theorem Rep.str{i:Str}{v:V}{A:List Addr}(h:Rep K cn H Z (.str i) v A):v=.str i:=by simp only[Rep]at h;exact h.1
theorem Rep.bl(h:Rep K cn H Z (.bl i) v A):v=.bl i:=by simp only[Rep]at h;exact h.1
theorem Rep.non(h:Rep K cn H Z .non v A):v=.non:=by simp only[Rep]at h;exact h.1
theorem Rep.tupS(h:Rep K cn H Z (.tup ts) v A):∃a vs,v=.ref a/\SqT K H a vs/\Reps K cn H Z ts vs A:=by simp only[Rep]at h;exact h
theorem jR(i:Int):Rep K cn H Z (.int i) (.int i) []:=by simp[Rep]
theorem rZ(i:Bool):Rep K cn H Z (.bl i) (.bl i) []:=by simp[Rep]
theorem av1(i:Str):Rep K cn H Z (.str i) (.str i) []:=by simp[Rep]
noncomputable def bR:T->T->Res T
 |.int i,.int j=>.ok (.int (i+j))
 |.str a,.str b=>gate (a.length+b.length<=sizeLine) (.ok (.str (a++b)))
 |.lst _ xs,.lst _ ys=>gate ((bA xs&&bA ys)=true/\xs.length+ys.length<=sizeLine) (.ok (.lst true (xs++ys)))
 |.tup xs,.tup ys=>gate ((bA xs&&bA ys)=true/\xs.length+ys.length<=sizeLine/\xs.isEmpty=false/\ys.isEmpty=false) (.ok (.tup (xs++ys)))
 |_,_=>.no
theorem ee5:oJ K cn (dm5 K) bR:=λE As H Z t u x y A B Q zi rt ru w=>by
 unfold bR at w
 split at w
 . next i j=>rw[rt.int,ru.int];exact .inl ⟨i,j,rfl,rfl,w.val zi (jR _)⟩
 . next a b=>
   obtain⟨h,w⟩:=w.gate
   rw[rt.str,ru.str];exact .inr (.inl ⟨a,b,rfl,rfl,h,w.val zi (av1 _)⟩)
 . next o xs o' ys=>
   obtain⟨h,w⟩:=w.gate
   rw[Bool.and_eq_true]at h
   obtain⟨a,vs,C,rfl,hs,r1,_⟩:=rt.lstSq
   obtain⟨b,ws,D,rfl,hs',r2,_⟩:=ru.lstSq
   exact .inr (.inr (.inl ⟨a,b,vs,ws,rfl,rfl,hs,hs',by rw[Reps.length xs r1,Reps.length ys r2];exact h.2,λp hp=>w.newL zi (Reps.append xs (r1.bareE h.1.1) (r2.bareE h.1.2)) p hp⟩))
 . next xs ys=>
   obtain⟨h,w⟩:=w.gate
   rw[Bool.and_eq_true]at h
   obtain⟨a,vs,rfl,hs,r1⟩:=rt.tupS
   obtain⟨b,ws,rfl,hs',r2⟩:=ru.tupS
   have e1:=r1.isEmpty
   have e2:=r2.isEmpty
   refine .inr (.inr (.inr ⟨a,b,vs,ws,rfl,rfl,hs,hs',λz=>?_,by rw[Reps.length xs r1,Reps.length ys r2];exact h.2.1,λz=>?_,λ_ p hp=>w.newT zi (Reps.append xs (r1.bareE h.1.1) (r2.bareE h.1.2)) p hp⟩))
   . rw[z,h.2.2.1]at e1;cases e1
   . rw[z,h.2.2.2]at e2;cases e2
 . exact w.elim
def pM(f:Int->Int->Res T):T->T->Res T
 |.int i,.int j=>f i j
 |_,_=>.no
theorem be7{g:Int->Int->T}{g':Int->Int->V}(hg:∀i j H Z,Rep K cn H Z (g i j) (g' i j) []):oJ K cn (wG g') (pM λi j=>.ok (g i j)):=λE As H Z t u x y A B Q zi rt ru w=>by
 unfold pM at w
 split at w
 . next i j=>rw[rt.int,ru.int];exact⟨i,j,rfl,rfl,w.val zi (hg i j _ _)⟩
 . exact w.elim
theorem r_i{C:Int->Int->Prop}{g:Int->Int->T}{g':Int->Int->V}(hg:∀i j H Z,Rep K cn H Z (g i j) (g' i j) []):oJ K cn (rI C g') (pM λi j=>gate (C i j) (.ok (g i j))):=λE As H Z t u x y A B Q zi rt ru w=>by
 unfold pM at w
 split at w
 . next i j=>
   obtain⟨h,w⟩:=WpE.gate w
   rw[rt.int,ru.int];exact⟨i,j,rfl,rfl,h,w.val zi (hg i j _ _)⟩
 . exact w.elim
def dD:=pM λi j=>.ok (.int (i-j))
theorem eq6:oJ K cn (wG λi j=>.int (i-j)) dD:=be7 λ_ _ _ _=>jR _
def ltT:=pM λi j=>.ok (.bl (decide (i<j)))
def qX:=pM λi j=>.ok (.bl (decide (i<=j)))
def gtT:=pM λi j=>.ok (.bl (decide (j<i)))
def geT:=pM λi j=>.ok (.bl (decide (j<=i)))
theorem er7:oJ K cn (wG λi j=>.bl (decide (i<j))) ltT:=be7 λ_ _ _ _=>rZ _
theorem ed7:oJ K cn (wG λi j=>.bl (decide (i<=j))) qX:=be7 λ_ _ _ _=>rZ _
theorem ey6:oJ K cn (wG λi j=>.bl (decide (j<i))) gtT:=be7 λ_ _ _ _=>rZ _
theorem ec7:oJ K cn (wG λi j=>.bl (decide (j<=i))) geT:=be7 λ_ _ _ _=>rZ _
noncomputable def jJ:=pM λi j=>gate (xK i j) (.ok (.int (i/j)))
theorem ez3:oJ K cn (rI xK λi j=>.int (i/j)) jJ:=r_i λ_ _ _ _=>jR _
noncomputable def cI:=pM λi j=>gate (0<j) (.ok (.int (i%j)))
theorem eg6:oJ K cn (rI (λ_ j=>0<j) λi j=>.int (i%j)) cI:=r_i (C:=λ_ j=>0<j) λ_ _ _ _=>jR _
noncomputable def ah1:=pM λi j=>gate (ay0 i j) (.ok (.int (i^j.toNat)))
theorem ef6:oJ K cn (rI ay0 λi j=>.int (i^j.toNat)) ah1:=r_i λ_ _ _ _=>jR _
def mulOk(i j:Int):Prop:=(-(2^64)<i/\i<2^64)\/(-(2^64)<j/\j<2^64)\/Builtin.Int.intBits i+Builtin.Int.intBits j<=134217728
theorem mulOk.ok(h:mulOk i j):IntMulOk i j:=by
 rcases h with h|h|h
 . exact do6 h.1 h.2
 . exact dt8 h.1 h.2
 . exact cs5 h
noncomputable def mL:T->T->Res T
 |.int i,.int j=>gate (mulOk i j) (.ok (.int (i*j)))
 |.str z,.int k=>gate (-(2^63)<=k/\k<2^62/\z.length*k.toNat<=sizeLine) (.ok (.str (zX z k.toNat)))
 |_,_=>.no
theorem en6:oJ K cn dn5 mL:=λE As H Z t u x y A B Q zi rt ru w=>by
 unfold mL at w
 split at w
 . next i j=>
   obtain⟨h,w⟩:=w.gate
   rw[rt.int,ru.int];exact .inl ⟨i,j,rfl,rfl,h.ok,w.val zi (jR _)⟩
 . next z k=>
   obtain⟨h,w⟩:=w.gate
   rw[rt.str,ru.int];exact .inr ⟨z,k,rfl,rfl,h.1,h.2.1,h.2.2,w.val zi (av1 _)⟩
 . exact w.elim
def vP:T->Res T
 |.int i=>.ok (.int (-i))
 |_=>.no
theorem ed5:R1R K cn (rU λi=>.int (-i)) vP:=λE As H Z t x A Q zi rt w=>by
 unfold vP at w
 split at w
 . next i=>rw[rt.int];exact⟨i,rfl,w.val zi (jR _)⟩
 . exact w.elim
def xV:T->T->Res T
 |.bl a,.bl b=>.ok (.bl (a==b))
 |.non,.non=>.ok (.bl true)
 |_,.non=>.ok (.bl false)
 |_,_=>.no
theorem Rep.notNon(h:Rep K cn H Z t v A)(n:t≠ .non):v≠ .non:=by
 cases t with
 |non=>exact absurd rfl n
 |bl _=>rw[h.bl];exact λz=>nomatch z
 |int _=>rw[h.int];exact λz=>nomatch z
 |str _=>rw[h.str];exact λz=>nomatch z
 |ty _=>simp only[Rep]at h;rw[h.1];exact λz=>nomatch z
 |lst o ts=>obtain⟨a,vs,C,rfl,_⟩:=h.lstSq;exact λz=>nomatch z
 |tup ts=>obtain⟨a,vs,rfl,_⟩:=h.tupS;exact λz=>nomatch z
 |ins o c ns ts=>
  cases o with
  |true=>simp only[Rep]at h;obtain⟨a,C,dx,vs,B,rfl,_⟩:=h;exact λz=>nomatch z
  |false=>simp only[Rep]at h;obtain⟨a,C,dx,vs,rfl,_⟩:=h;exact λz=>nomatch z
theorem ej7:oJ K cn du9 xV:=λE As H Z t u x y A B Q zi rt ru w=>by
 unfold xV at w
 split at w
 . next a b=>rw[rt.bl,ru.bl];exact .inr ⟨a,b,rfl,rfl,w.val zi (rZ _)⟩
 . rw[rt.non,ru.non];exact .inl ⟨rfl,w.val zi (rZ _)⟩
 . next h1 h2=>rw[ru.non];exact .inl ⟨rfl,by rw[decide_eq_false (rt.notNon (by rintro rfl;exact h2 rfl))];exact w.val zi (rZ _)⟩
 . exact w.elim
def hV:T->T->Res T
 |.non,.non=>.ok (.bl false)
 |_,.non=>.ok (.bl true)
 |_,_=>.no
theorem dx8:oJ K cn (λx y H Q=>y=.non/\Q (.bl (!decide (x=.non))) H) hV:=λE As H Z t u x y A B Q zi rt ru w=>by
 unfold hV at w
 split at w
 . rw[rt.non,ru.non];exact⟨rfl,w.val zi (rZ _)⟩
 . next h2=>rw[ru.non];exact⟨rfl,by rw[decide_eq_false (rt.notNon (by rintro rfl;exact h2 rfl))];exact w.val zi (rZ _)⟩
 . exact w.elim
def oV:T->T->Option Bool
 |.non,.non=>some true
 |.non,.bl _=>some false
 |.non,.int _=>some false
 |.non,.str _=>some false
 |.bl _,.non=>some false
 |.bl a,.bl b=>some (a==b)
 |.bl a,.int b=>some ((if a then 1 else 0)==b)
 |.bl _,.str _=>some false
 |.int _,.non=>some false
 |.int a,.bl b=>some (a==(if b then 1 else 0))
 |.int a,.int b=>some (a==b)
 |.int _,.str _=>some false
 |.str _,.non=>some false
 |.str _,.bl _=>some false
 |.str _,.int _=>some false
 |.str a,.str b=>some (a==b)
 |_,_=>none
mutual
def oO:Nat->T->T->Option Bool
 |n+1,.lst _ xs,.lst _ ys=>if xs.length=ys.length then(pT n xs ys).map λes=>es.all id else some false
 |n+1,.tup xs,.tup ys=>(pT n xs ys).map λes=>es.all id&&xs.length==ys.length
 |_,t,u=>oV t u
def pT:Nat->List T->List T->Option (List Bool)
 |n,x::xs,y::ys=>(oO n x y).bind λb=>(pT n xs ys).map λes=>b::es
 |_,_,_=>some []
end
theorem cn9(rt:Rep K cn H Z t x A)(ru:Rep K cn H Z u y B)(h:oV t u=some b):tI x=true/\tI y=true/\b=eqV x y:=by
 unfold oV at h
 split at h
 all_goals first
  |(simp only[Rep]at rt ru;obtain⟨rfl,_⟩:=rt;obtain⟨rfl,_⟩:=ru;cases h;exact⟨rfl,rfl,rfl⟩)
  |cases h
theorem bt7(rt:Rep K cn H Z t x A)(ru:Rep K cn H Z u y B)(h:oV t u=some b):EqD K H n x y b:=by
 have q:=cn9 rt ru h
 cases n with
 |zero=>exact q
 |succ n=>exact .inl q
theorem ax9(ih:∀(t u:T){x y:V}{A B:List Addr}{b:Bool},Rep K cn H Z t x A->Rep K cn H Z u y B->oO n t u=some b->EqD K H n x y b):∀(ts us:List T){vs ws:List V}{A B:List Addr}{es:List Bool},Reps K cn H Z ts vs A->Reps K cn H Z us ws B->pT n ts us=some es->
 es.length=min ts.length us.length/\∀(j:Nat) x y e,vs[j]?=some x->ws[j]?=some y->es[j]?=some e->EqD K H n x y e
 |x::xs,y::ys,vs,ws,A,B,es,r1,r2,h=>by
  simp only[Reps]at r1 r2
  obtain⟨v,vs',B1,C1,rfl,rfl,a1,a2⟩:=r1
  obtain⟨w,ws',B2,C2,rfl,rfl,b1,b2⟩:=r2
  rw[pT,Option.bind_eq_some_iff]at h
  obtain⟨b,h1,h⟩:=h
  rw[Option.map_eq_some_iff]at h
  obtain⟨es',h2,rfl⟩:=h
  obtain⟨q1,q2⟩:=ax9 ih xs ys a2 b2 h2
  refine⟨by simp only[List.length_cons];omega,λj x' y' e e1 e2 e3=>?_⟩
  cases j with
  |zero=>
   simp at e1 e2 e3
   subst e1 e2 e3
   exact ih x y a1 b1 h1
  |succ j=>exact q2 j x' y' e (by simpa using e1) (by simpa using e2) (by simpa using e3)
 |[],us,vs,ws,A,B,es,r1,r2,h=>by
  have e:pT n [] us=some []:=by cases us<;>rfl
  rw[e]at h
  cases h
  exact⟨by simp,λj x y e _ _ e3=>by simp at e3⟩
 |t::ts,[],vs,ws,A,B,es,r1,r2,h=>by
  have e:pT n (t::ts) []=some []:=rfl
  rw[e]at h
  cases h
  exact⟨by simp,λj x y e _ _ e3=>by simp at e3⟩
theorem bb7(n:Nat):∀(t u:T){x y:V}{A B:List Addr}{b:Bool},Rep K cn H Z t x A->Rep K cn H Z u y B->oO n t u=some b->EqD K H n x y b:=by
 induction n with
 |zero=>
  intro t u x y A B b rt ru h
  have e:oO 0 t u=oV t u:=by cases t<;>cases u<;>rfl
  rw[e]at h
  exact bt7 rt ru h
 |succ n ih=>
  intro t u x y A B b rt ru h
  by_cases h1:∃o o' xs ys,t=.lst o xs/\u=.lst o' ys
  . obtain⟨o,o',xs,ys,rfl,rfl⟩:=h1
    obtain⟨a,vs,C,rfl,hs,r1,_⟩:=rt.lstSq
    obtain⟨b',ws,D,rfl,hs',r2,_⟩:=ru.lstSq
    rw[oO]at h
    have l1:=Reps.length xs r1
    have l2:=Reps.length ys r2
    split at h
    . next hl=>
      rw[Option.map_eq_some_iff]at h
      obtain⟨es,h1,rfl⟩:=h
      obtain⟨q1,q2⟩:=ax9 ih xs ys r1 r2 h1
      exact .inr (.inl ⟨a,b',vs,ws,rfl,rfl,hs.sq,hs'.sq,.inr ⟨by omega,es,by rw[q1];omega,q2,rfl⟩⟩)
    . next hl=>
      cases h
      exact .inr (.inl ⟨a,b',vs,ws,rfl,rfl,hs.sq,hs'.sq,.inl ⟨by omega,rfl⟩⟩)
  . by_cases h2:∃xs ys,t=.tup xs/\u=.tup ys
    . obtain⟨xs,ys,rfl,rfl⟩:=h2
      obtain⟨a,vs,rfl,hs,r1⟩:=rt.tupS
      obtain⟨b',ws,rfl,hs',r2⟩:=ru.tupS
      rw[oO]at h
      have l1:=Reps.length xs r1
      have l2:=Reps.length ys r2
      rw[Option.map_eq_some_iff]at h
      obtain⟨es,h1,rfl⟩:=h
      obtain⟨q1,q2⟩:=ax9 ih xs ys r1 r2 h1
      exact .inr (.inr ⟨a,b',vs,ws,rfl,rfl,hs,hs',es,by rw[q1];omega,q2,by rw[l1,l2]⟩)
    . have e:oO (n+1) t u=oV t u:=by
       cases t<;>cases u<;>first|rfl|exact absurd ⟨_,_,_,_,rfl,rfl⟩ h1|exact absurd ⟨_,_,rfl,rfl⟩ h2
      rw[e]at h
      exact bt7 rt ru h
def cX:Nat:=6
def aa0:T->Bool
 |.lst _ _=>true
 |.tup _=>true
 |_=>false
def cg5:T->T->Bool
 |.bl _,.int _=>false
 |.int _,.bl _=>false
 |t,u=>!aa0 t&&!aa0 u
def eqB(t u:T):Option Bool:=if aa0 t=true/\aa0 u=true then oO cX t u else if cg5 t u=true then oV t u else none
def eS(t u:T):Res T:=match eqB t u with
 |some b=>.ok (.bl b)
 |none=>.no
theorem Rep.seqRef(h:Rep K cn H Z t v A)(i:aa0 t=true):∃a,v=.ref a:=by
 cases t with
 |lst o ts=>obtain⟨a,vs,C,rfl,_⟩:=h.lstSq;exact⟨a,rfl⟩
 |tup ts=>obtain⟨a,vs,rfl,_⟩:=h.tupS;exact⟨a,rfl⟩
 |_=>cases i
theorem cy0(rt:Rep K cn H Z t x A)(ru:Rep K cn H Z u y B)(hs:cg5 t u=true)(h:oV t u=some b):do4 x y=true/\b=decide (x=y):=by
 unfold oV at h
 split at h
 all_goals first
  |(cases hs;done)
  |(simp only[Rep]at rt ru;obtain⟨rfl,_⟩:=rt;obtain⟨rfl,_⟩:=ru;cases h;exact⟨rfl,by first|rfl|(rw[ah9])|(rw[bk8])|(rw[bv0])|(symm;exact decide_eq_false (λz=>nomatch z))⟩)
  |(cases h;done)
theorem el7:oJ K cn (cm5 K cX) eS:=λE As H Z t u x y A B Q zi rt ru w=>by
 unfold eS at w
 split at w
 . next b h=>
   unfold eqB at h
   split at h
   . next hs=>
     obtain⟨p,rfl⟩:=rt.seqRef hs.1
     obtain⟨q,rfl⟩:=ru.seqRef hs.2
     exact .inr ⟨p,q,b,rfl,rfl,bb7 cX t u rt ru h,w.val zi (rZ _)⟩
   . split at h
     . next hs=>
       obtain⟨q1,rfl⟩:=cy0 rt ru hs h
       exact .inl ⟨q1,w.val zi (rZ _)⟩
     . cases h
 . exact w.elim
def neT(t u:T):Res T:=if cg5 t u=true then match oV t u with
 |some b=>.ok (.bl (!b))
 |none=>.no else .no
theorem ee7:oJ K cn rNe neT:=λE As H Z t u x y A B Q zi rt ru w=>by
 unfold neT at w
 split at w
 . next hs=>
   split at w
   . next b h=>
     obtain⟨q1,rfl⟩:=cy0 rt ru hs h
     exact⟨q1,w.val zi (rZ _)⟩
   . exact w.elim
 . exact w.elim
def occ(j i:Str):Bool:=!(Builtin.Str.occurrences j i 0 j.length 1).isEmpty
def sD(t:T):List T->Option (List Bool)
 |[]=>some []
 |u::us=>(oO cX u t).bind λb=>(sD t us).map λes=>b::es
theorem ah3(rt:Rep K cn H Z t x A):∀(us:List T){ws:List V}{B:List Addr}{es:List Bool},Reps K cn H Z us ws B->sD t us=some es->es.length=ws.length/\∀(j:Nat) y e,ws[j]?=some y->es[j]?=some e->EqD K H cX y x e
 |[],ws,B,es,r,h=>by
  simp only[Reps]at r
  obtain⟨rfl,_⟩:=r
  cases h
  exact⟨rfl,λj y e e1=>by simp at e1⟩
 |u::us,ws,B,es,r,h=>by
  simp only[Reps]at r
  obtain⟨w,ws',B1,C1,rfl,rfl,a1,a2⟩:=r
  rw[sD,Option.bind_eq_some_iff]at h
  obtain⟨b,h1,h⟩:=h
  rw[Option.map_eq_some_iff]at h
  obtain⟨es',h2,rfl⟩:=h
  obtain⟨q1,q2⟩:=ah3 rt us a2 h2
  refine⟨by simp[q1],λj y e e1 e2=>?_⟩
  cases j with
  |zero=>
   simp at e1 e2
   subst e1 e2
   exact bb7 cX u t a1 rt h1
  |succ j=>exact q2 j y e (by simpa using e1) (by simpa using e2)
def inT(neg:Bool):T->T->Res T
 |t,.lst _ us=>match sD t us with
  |some es=>.ok (.bl (if neg=true then !es.any id else es.any id))
  |none=>.no
 |t,.tup us=>match sD t us with
  |some es=>.ok (.bl (if neg=true then !es.any id else es.any id))
  |none=>.no
 |.str i,.str j=>.ok (.bl (if neg=true then !occ j i else occ j i))
 |_,_=>.no
theorem et7:oJ K cn (bj5 K cX neg) (inT neg):=λE As H Z t u x y A B Q zi rt ru w=>by
 unfold inT at w
 split at w
 . next t o us=>
   split at w
   . next es h=>
     obtain⟨a,vs,C,rfl,hs,r1,_⟩:=ru.lstSq
     obtain⟨q1,q2⟩:=ah3 rt us r1 h
     exact .inl ⟨a,vs,rfl,.inl hs.sq,es,q1,q2,w.val zi (rZ _)⟩
   . exact w.elim
 . next t us=>
   split at w
   . next es h=>
     obtain⟨a,vs,rfl,hs,r1⟩:=ru.tupS
     obtain⟨q1,q2⟩:=ah3 rt us r1 h
     exact .inl ⟨a,vs,rfl,.inr hs,es,q1,q2,w.val zi (rZ _)⟩
   . exact w.elim
 . next i j=>rw[rt.str,ru.str];exact .inr ⟨i,j,rfl,rfl,w.val zi (rZ _)⟩
 . exact w.elim
end
end TL
namespace L2
open PySem PySem.Spec PyProof.Rows
section
variable {X : Cx} (K : PySem.W.Frag)
theorem dy9(hr:Room k X.A)(hn:n<=60:=by decide)(hK:X.K=K:=by rfl):OpR X (compareOp .Eq) (cm5 K n):=by
 subst hK
 exact em2 (by have:=hr.units;omega)
theorem vM(hr:Room k X.A)(hn:n<=60:=by decide)(hK:X.K=K:=by rfl):OpR X (compareOp .In) (bj5 K n false):=by
 subst hK
 exact em3 (by have:=hr.units;omega)
theorem cx6(hr:Room k X.A)(hn:n<=60:=by decide)(hK:X.K=K:=by rfl):OpR X (compareOp .NotIn) (bj5 K n true):=by
 subst hK
 exact cz6 (by have:=hr.units;omega)
theorem ez6(hK:X.K=K:=by rfl):IxR X (rIx K):=by
 subst hK
 exact ee4
def ef1:V->Option Int->Option Int->Hp->VK->Prop:=λx lo hi H Q=>el3 K x lo hi H Q\/ed0 K x lo hi H Q\/ea4 x lo hi H Q
theorem sJ(hK:X.K=K:=by rfl):SlR X (ef1 K):=by
 subst hK
 exact SlR.or dy6 (SlR.or eg3 eq3)
theorem cF(ha:PE X a ta)(he:∀whole,isTrue a X.env whole=(do let v<-whole;standAt a.pos;holding [v] (truthy v)))(hK:X.K=K:=by rfl):
 PT X a (λσ H Q=>ta σ H λx H'=>∃k,bv6 K x H' k/\Q k H'):=by
 subst hK
 exact dm2 ha he
theorem fY(hl:PE X l tl)(hK:X.K=K:=by rfl):PI X tg l (TL.iV K tl):=by
 subst hK
 intro pins s σ H R I h
 refine cH (hl s σ H _ I h) λv s1 ⟨x,H1,I1,r1,q1⟩=>?_
 rcases q1 with⟨a,e,q⟩|⟨z,e,q⟩
 . subst e
   cases r1
   rcases q with⟨⟨xs,hq⟩,q⟩|⟨⟨xs,hq⟩,q⟩
   . obtain⟨its,rv,p,hz⟩:=I1.list hq
     refine wpAny_pyIter_list p.isList ?_
     refine⟨s1.heap.objs.size,[s1.heap.objs.size],_,_,H1,rfl,I1.kept (t':=s1.toks) λb o e=>Heap.get?_push_of_some _ e,cx9 a _,⟨_,Heap.get?_push_size _ rfl,rfl,rfl⟩,λb hb=>?_,q⟩
     have e:b=s1.heap.objs.size:=by simpa using hb
     subst e
     exact I1.fpOk (Nat.le_refl _) (I1.hok.fresh (Nat.le_refl _))
   . obtain⟨its,rv,p,hz⟩:=I1.tuple hq
     refine wpAny_pyIter_tuple (show s1.heap.IsTuple a its.toArray from p) ?_
     refine⟨s1.heap.objs.size,[s1.heap.objs.size],_,_,H1,rfl,I1.kept (t':=s1.toks) λb o e=>Heap.get?_push_of_some _ e,cc2 a _,⟨_,Heap.get?_push_size _ rfl,rfl,rfl⟩,λb hb=>?_,q⟩
     have e:b=s1.heap.objs.size:=by simpa using hb
     subst e
     exact I1.fpOk (Nat.le_refl _) (I1.hok.fresh (Nat.le_refl _))
 . subst e
   obtain⟨t,rfl⟩:=r1
   have fp:∀b∈[s1.heap.objs.size],sC X pins H1 b:=λb hb=>by
    have e:b=s1.heap.objs.size:=by simpa using hb
    subst e
    exact I1.fpOk (Nat.le_refl _) (I1.hok.fresh (Nat.le_refl _))
   cases ha:z.cps.all (· <128)
   . exact wpAny_pyIter_wide ha ⟨s1.heap.objs.size,[s1.heap.objs.size],_,_,H1,rfl,I1.kept (t':=s1.toks) λb o e=>Heap.get?_push_of_some _ e,co7 _ z t,⟨_,Heap.get?_push_size _ rfl,rfl,rfl⟩,fp,q⟩
   . exact wpAny_pyIter_ascii ha ⟨s1.heap.objs.size,[s1.heap.objs.size],_,_,H1,rfl,I1.kept (t':=s1.toks) λb o e=>Heap.get?_push_of_some _ e,cf5 _ z t,⟨_,Heap.get?_push_size _ rfl,rfl,rfl⟩,fp,q⟩
theorem fO(n:Nat)(hc:X.calm=true)(h:PGs X es t)
 (hn:(assignEach es X.env).length=n:=by rfl)(hst:(assignEach es X.env).findIdx? (·.1)=none:=by rfl)(hK:X.K=K:=by rfl):PG X (.Tuple es k pos) (dp3 K n t):=by
 subst hK
 exact eb0 hc h hn hst
theorem xQ{o e:Expr}{es:List Expr}{to:TE}{t:TA}{name:Str}{apos cpos:Pos}{T id:String}{r:V->List V->Hp->VK->Prop}(pa:PlainAttrs T)(slot:Slot T name id)(hty:typeOf (.builtin id)=pure (.type "method_descriptor"))(hm:MtR X id r)(ho:PE X o to)(ha:PA X (e::es) t)
 (hbase:attributeBase o name X.env (eval o X.env)=eval o X.env:=by rfl)
 (hfew:((backTo cpos (starEach (e::es) X.env)).all (λx=>!x.1)&&(backToKw cpos (keywordEach [] X.env)).all (λx=>x.1.isSome)
  &&decide ((e::es).length+([]:List Keyword).length+(if([]:List Keyword).isEmpty then 0 else 1)<30))=true:=by rfl)
 (hline:(apos.endLine==cpos.line)=true:=by rfl)(hs:starEach (e::es) X.env=(false,eval e X.env)::starEach es X.env:=by rfl)(hplain:(backTo cpos (starEach es X.env)).any (·.1)=false:=by rfl)(hK:X.K=K:=by rfl):
 PE X (.Call (.Attribute o name apos) (e::es) [] cpos) (tBM K T r to t):=by
 subst hK
 exact er6 pa slot hty hm ho ha hbase hfew hline hs hplain
theorem bW(hK:X.K=K:=by rfl):CallR X (.builtin "len") (ew1 K):=by subst hK;exact dm3
theorem ar2(hK:X.K=K:=by rfl):CallR X (.builtin "abs") ek0:=dn1
theorem bw7(hK:X.K=K:=by rfl):CallR X (.builtin "divmod") ck0:=bp9
theorem kG(hc:X.calm=true:=by rfl)(hK:X.K=K:=by rfl):CallR X (.builtin "all") (eo4 K):=by subst hK;exact dm4 hc
theorem ci8(hc:X.calm=true:=by rfl)(hK:X.K=K:=by rfl):CallR X (.builtin "any") (et0 K):=by subst hK;exact dw1 hc
theorem tS(hc:X.calm=true:=by rfl)(hK:X.K=K:=by rfl):CallR X (.builtin "max") (do0 K):=by subst hK;exact cc9 hc
theorem nG(hc:X.calm=true:=by rfl)(hK:X.K=K:=by rfl):CallR X (.builtin "min") (dw0 K):=by subst hK;exact dd0 hc
def cc7:List V->Hp->VK->Prop:=λxs H Q=>∃(p:Addr)(ns:List Int),xs=[.ref p]/\SqL K H p (ns.map V.int)/\ns.length<64/\∀(l:Addr)(ms:List Int),H l=none->ms.Perm ns->ms.Pairwise (· <= ·)->Q (.ref l) (upd H l (.lst (ms.map V.int)))
theorem bs5(hK:X.K=K:=by rfl):CallR X (.builtin "sorted") (cc7 K):=by subst hK;exact bd8
def ca8:List V->Hp->VK->Prop:=λxs H Q=>∃p ys,xs=[.ref p]/\(SqL K H p ys\/SqT K H p ys)/\∀l,H l=none->Q (.ref l) (upd H l (.lst ys))
theorem iH(hK:X.K=K:=by rfl):CallR X (.type "list") (ca8 K):=by subst hK;exact bq6
theorem dd1(hK:X.K=K:=by rfl):MtR X "str.join" (cq5 K):=by subst hK;exact dm7
end
end L2
namespace TL
open PySem PySem.Spec PyProof.Rows L2
section
variable {Jn : iO} {K : PySem.W.Frag} {cn : Str → Option Addr} {E : XK} {As : List (List Addr)} {H : Hp} {Z : Addr → Prop} {Q : VK}
def aR:T->T->Res T
 |.lst _ ts,.int n=>match atI ts n with
  |some t=>.ok t
  |none=>.no
 |.tup ts,.int n=>match atI ts n with
  |some t=>.ok t
  |none=>.no
 |.str z,.int n=>if z.length<=sizeLine then match atI z.cps.toList n with
  |some c=>.ok (.str ⟨#[c]⟩)
  |none=>.no else .no
 |_,_=>.no
theorem Reps.atI(r:Reps K cn H Z ts vs A)(h:L2.atI ts n=some t):∃v B,L2.atI vs n=some v/\Rep K cn H Z t v B:=by
 unfold L2.atI at h⊢
 rw[Option.bind_eq_some_iff]at h
 obtain⟨j,h1,h2⟩:=h
 obtain⟨v,B,e,rv,_⟩:=Reps.get ts r h2
 exact⟨v,B,by rw[Reps.length ts r,h1];exact e,rv⟩
theorem es5(ha:RB Jn K cn E ta a)(hb:RB Jn K cn E tb b):RB Jn K cn E (tOp (rIx K) ta tb) (aE aR a b):=λAs H Z ρ σ F Q w=>by
 unfold aE at w
 refine ha As H Z ρ σ F _ ?_
 cases e:a ρ with
 |ok t=>
  rw[e]at w
  intro v H1 Z1 B p
  refine hb As H1 Z1 ρ σ (F.mo p.mo) _ ?_
  simp only[Res.bind]at w
  cases e2:b ρ with
  |ok u=>
   rw[e2]at w
   intro v2 H2 Z2 B2 p2
   have rt:=p.rep.same p2.same p2.zz
   have m:=p.mo.trans p2.mo
   have bQ:∀{t:T}{v:V}{C:List Addr},WpB K cn E As H Z Q (.ok t)->Rep K cn H2 Z2 t v C->Q v H2:=λw r=>w _ H2 Z2 _ ⟨m.same,m.zz,m.zn,m.zi,r⟩
   simp only at w
   unfold aR at w
   split at w
   . next o ts n=>
     split at w
     . next t' h=>
       obtain⟨q,vs,C,rfl,hs,r,_⟩:=rt.lstSq
       obtain⟨v',D,e3,rv⟩:=r.atI h
       exact .inl ⟨q,vs,n,v',rfl,p2.rep.int,hs.sq,e3,bQ w rv⟩
     . exact w.elim
   . next ts n=>
     split at w
     . next t' h=>
       obtain⟨q,vs,rfl,hs,r⟩:=rt.tupS
       obtain⟨v',D,e3,rv⟩:=r.atI h
       exact .inr (.inl ⟨q,vs,n,v',rfl,p2.rep.int,hs,e3,bQ w rv⟩)
     . exact w.elim
   . next z n=>
     split at w
     . next hz=>
       split at w
       . next c h=>exact .inr (.inr ⟨z,n,c,rt.str,p2.rep.int,hz,h,bQ w (av1 _)⟩)
       . exact w.elim
     . exact w.elim
   . exact w.elim
  |ex x=>rw[e2]at w;exact WpX.ev w p.mo.ev
  |no=>rw[e2]at w;exact w
 |ex x=>rw[e]at w;exact w
 |no=>rw[e]at w;exact w
def fH{α:Type}(xs:List α)(lo hi:Option Int):List α:=(xs.drop (HT.sIx xs.length 0 lo)).take (HT.sIx xs.length xs.length hi-HT.sIx xs.length 0 lo)
def oQ:T->Option Int->Option Int->Res T
 |.lst _ ts,lo,hi=>if bA ts=true then .ok (.lst true (fH ts lo hi))else .no
 |.tup ts,lo,hi=>if bA ts=true/\¬(HT.sIx ts.length 0 lo=0/\HT.sIx ts.length ts.length hi=ts.length)then .ok (.tup (fH ts lo hi))else .no
 |.str z,lo,hi=>if z.length<=sizeLine then .ok (.str (Txt.slice z lo hi))else .no
 |_,_,_=>.no
theorem Reps.cut(r:Reps K cn H Z ts vs [])(lo hi:Option Int):Reps K cn H Z (fH ts lo hi) (au2 vs lo hi) []:=by
 unfold fH au2
 rw[Reps.length ts r]
 exact Reps.take _ _ (Reps.drop _ _ r)
theorem ex7:RSR K cn (ef1 K) oQ:=λE As H Z t x A lo hi Q zi rt w=>by
 cases t with
 |lst o ts=>
  simp only[oQ]at w
  split at w
  . next h=>
    obtain⟨q,vs,C,rfl,hs,r,_⟩:=rt.lstSq
    exact .inl ⟨q,vs,rfl,hs.sq,λp hp=>w.newL zi ((r.bareE h).cut lo hi) p hp⟩
  . exact w.elim
 |tup ts=>
  simp only[oQ]at w
  split at w
  . next h=>
    obtain⟨q,vs,rfl,hs,r⟩:=rt.tupS
    exact .inr (.inl ⟨q,vs,rfl,hs,by rw[Reps.length ts r];exact h.2,λp hp=>w.newT zi ((r.bareE h.1).cut lo hi) p hp⟩)
  . exact w.elim
 |str z=>
  simp only[oQ]at w
  split at w
  . next h=>rw[rt.str];exact .inr (.inr ⟨z,rfl,h,w.val zi (av1 _)⟩)
  . exact w.elim
 |_=>exact w.elim
def db2(k:Option Int):T->Res T
 |.lst _ ts=>if bA ts=true/\k=some (-1)then .ok (.lst true ts.reverse)else .no
 |_=>.no
def df1(a:Fr->Res T)(s:Fr->Res (Option Int)):Fr->Res T:=λρ=>(a ρ).bind λt=>(s ρ).bind λk=>db2 k t
theorem Reps.one1(r:Reps K cn H Z [t] vs A):∃v,vs=[v]/\Rep K cn H Z t v A:=by
 simp only[Reps]at r
 obtain⟨v,w,B,C,rfl,rfl,r,rfl,rfl⟩:=r
 exact⟨v,rfl,by simpa using r⟩
theorem Reps.two2(r:Reps K cn H Z [t,u] vs A):∃v w B C,vs=[v,w]/\A=B++C/\Rep K cn H Z t v B/\Rep K cn H Z u w C:=by
 simp only[Reps]at r
 obtain⟨v,w,B,C,rfl,rfl,r,v2,w2,B2,C2,rfl,rfl,r2,rfl,rfl⟩:=r
 exact⟨v,v2,B,B2,rfl,by simp,r,r2⟩
def eU:List T->Res T
 |[.str z]=>if z.length<=sizeLine then .ok (.int z.length)else .no
 |[.lst _ ts]=>.ok (.int ts.length)
 |[.tup ts]=>.ok (.int ts.length)
 |_=>.no
theorem eh6:uB K cn (ew1 K) eU:=λE As H Z ts xs A Q zi r w=>by
 unfold eU at w
 split at w
 . next z=>
   split at w
   . next h=>obtain⟨v,rfl,rv⟩:=r.one1;rw[rv.str];exact⟨_,_,rfl,⟨h,rfl⟩,w.val zi (jR _)⟩
   . exact w.elim
 . next o ts=>
   obtain⟨v,rfl,rv⟩:=r.one1
   obtain⟨q,vs,C,rfl,hs,r',_⟩:=rv.lstSq
   exact⟨_,_,rfl,.inl ⟨vs,hs.sq,rfl⟩,by rw[Reps.length ts r'];exact w.val zi (jR _)⟩
 . next ts=>
   obtain⟨v,rfl,rv⟩:=r.one1
   obtain⟨q,vs,rfl,hs,r'⟩:=rv.tupS
   exact⟨_,_,rfl,.inr ⟨vs,hs,rfl⟩,by rw[Reps.length ts r'];exact w.val zi (jR _)⟩
 . exact w.elim
def ax4:List T->Res T
 |[.int i]=>.ok (.int (if i<0 then -i else i))
 |_=>.no
theorem ev4:uB K cn ek0 ax4:=λE As H Z ts xs A Q zi r w=>by
 unfold ax4 at w
 split at w
 . next i=>rw[r.ints1];exact⟨i,rfl,w.val zi (jR _)⟩
 . exact w.elim
noncomputable def ak3:List T->Res T
 |[.int i,.int j]=>gate (xK i j) (.ok (.tup [.int (i/j),.int (i%j)]))
 |_=>.no
theorem en7(i j:Int):Reps K cn H Z [.int i,.int j] [.int i,.int j] []:=by
 simp only[Reps]
 exact⟨_,_,[],[],rfl,rfl,jR _,_,_,[],[],rfl,rfl,jR _,rfl,rfl⟩
theorem ds4:uB K cn ck0 ak3:=λE As H Z ts xs A Q zi r w=>by
 unfold ak3 at w
 split at w
 . next i j=>
   obtain⟨h,w⟩:=w.gate
   rw[r.ints2];exact⟨i,j,rfl,h,λp hp=>w.newT zi (en7 _ _) p hp⟩
 . exact w.elim
def bm4:T->Option String
 |.int _=>some "int"
 |.bl _=>some "bool"
 |.str _=>some "str"
 |.lst _ _=>some "list"
 |.tup _=>some "tuple"
 |_=>none
def dh4(tx ty:String):Option Bool:=
 if(ty="int"\/ty="bool"\/ty="str"\/ty="list"\/ty="tuple")then some (tx=ty\/(tx="bool"/\ty="int"))else none
theorem df8(h0:bm4 t=some tx)(h:dh4 tx ty=some b):gQ tx ty b:=by
 have hx:tx="int"\/tx="bool"\/tx="str"\/tx="list"\/tx="tuple":=by
  cases t<;>simp[bm4]at h0<;>subst h0<;>simp
 unfold dh4 at h
 split at h
 . next hy=>
   cases h
   rcases hx with rfl|rfl|rfl|rfl|rfl<;>rcases hy with rfl|rfl|rfl|rfl|rfl<;>constructor
 . cases h
theorem dq0(r:Rep K cn H Z t v A)(h:bm4 t=some tx):TyN K H v tx:=by
 cases t with
 |int i=>rw[r.int];cases h;rfl
 |bl i=>rw[r.bl];cases h;rfl
 |str i=>rw[r.str];cases h;rfl
 |lst o ts=>obtain⟨q,vs,C,rfl,hs,_⟩:=r.lstSq;cases h;exact .inl ⟨rfl,vs,hs.sq⟩
 |tup ts=>obtain⟨q,vs,rfl,hs,_⟩:=r.tupS;cases h;exact .inr ⟨rfl,vs,hs⟩
 |_=>cases h
def vK:List T->Res T
 |[t,.ty n]=>match bm4 t with
  |some tx=>match dh4 tx n with
   |some b=>.ok (.bl b)
   |none=>.no
  |none=>.no
 |_=>.no
theorem eg5:uB K cn (em7 K) vK:=λE As H Z ts xs A Q zi r w=>by
 unfold vK at w
 split at w
 . next t n=>
   split at w
   . next tx h1=>
     split at w
     . next b h2=>
       obtain⟨v,u,B,C,rfl,_,r1,r2⟩:=r.two2
       simp only[Rep]at r2
       rw[r2.1]
       exact⟨v,n,tx,b,rfl,dq0 r1 h1,df8 h1 h2,w.val zi (rZ _)⟩
     . exact w.elim
   . exact w.elim
 . exact w.elim
def af3:List T->Option (List Bool)
 |[]=>some []
 |.bl b::ts=>(af3 ts).map (b:: ·)
 |_::_=>none
theorem ab5:∀(ts:List T){vs:List V}{A:List Addr}{bs:List Bool},Reps K cn H Z ts vs A->af3 ts=some bs->vs=bs.map V.bl
 |[],vs,A,bs,r,h=>by
  simp only[Reps]at r
  cases h
  exact r.1
 |t::ts,vs,A,bs,r,h=>by
  simp only[Reps]at r
  obtain⟨v,vs',B,C,rfl,rfl,r1,r2⟩:=r
  cases t with
  |bl b=>
   simp only[af3]at h
   rw[Option.map_eq_some_iff]at h
   obtain⟨bs',h1,rfl⟩:=h
   rw[ab5 ts r2 h1,r1.bl]
   rfl
  |_=>cases h
def kU(any:Bool):List T->Res T
 |[.lst _ ts]=>match af3 ts with
  |some bs=>.ok (.bl (if any=true then bs.any id else bs.all id))
  |none=>.no
 |_=>.no
theorem eo6:uB K cn (eo4 K) (kU false):=λE As H Z ts xs A Q zi r w=>by
 unfold kU at w
 split at w
 . next o ts=>
   split at w
   . next bs h=>
     obtain⟨v,rfl,rv⟩:=r.one1
     obtain⟨q,vs,C,rfl,hs,r',_⟩:=rv.lstSq
     have:=ab5 ts r' h
     subst this
     exact⟨q,bs,rfl,hs.sq,w.val zi (rZ _)⟩
   . exact w.elim
 . exact w.elim
theorem eu4:uB K cn (et0 K) (kU true):=λE As H Z ts xs A Q zi r w=>by
 unfold kU at w
 split at w
 . next o ts=>
   split at w
   . next bs h=>
     obtain⟨v,rfl,rv⟩:=r.one1
     obtain⟨q,vs,C,rfl,hs,r',_⟩:=rv.lstSq
     have:=ab5 ts r' h
     subst this
     exact⟨q,bs,rfl,hs.sq,w.val zi (rZ _)⟩
   . exact w.elim
 . exact w.elim
def zR:List T->Option (List Int)
 |[]=>some []
 |.int b::ts=>(zR ts).map (b:: ·)
 |_::_=>none
theorem xR:∀(ts:List T){vs:List V}{A:List Addr}{bs:List Int},Reps K cn H Z ts vs A->zR ts=some bs->vs=bs.map V.int
 |[],vs,A,bs,r,h=>by
  simp only[Reps]at r
  cases h
  exact r.1
 |t::ts,vs,A,bs,r,h=>by
  simp only[Reps]at r
  obtain⟨v,vs',B,C,rfl,rfl,r1,r2⟩:=r
  cases t with
  |int b=>
   simp only[zR]at h
   rw[Option.map_eq_some_iff]at h
   obtain⟨bs',h1,rfl⟩:=h
   rw[xR ts r2 h1,r1.int]
   rfl
  |_=>cases h
theorem vV:∀ns:List Int,zR (ns.map T.int)=some ns
 |[]=>rfl
 |n::ns=>by simp[zR,vV ns]
theorem ax0:∀ns:List Bool,af3 (ns.map T.bl)=some ns
 |[]=>rfl
 |n::ns=>by simp[af3,ax0 ns]
theorem dx3:∀ns:List Int,Reps K cn H Z (ns.map T.int) (ns.map V.int) []
 |[]=>by simp[Reps]
 |n::ns=>by
  simp only[List.map_cons,Reps]
  exact⟨_,_,[],[],rfl,rfl,jR _,dx3 ns⟩
def ds1:List Int->Int
 |[]=>0
 |n::ns=>ns.foldl (λa b=>if b>a then b else a) n
def dk1:List Int->Int
 |[]=>0
 |n::ns=>ns.foldl (λa b=>if b<a then b else a) n
theorem bn2:∀(n:Int)(ns:List Int),(ns.foldl (λa b=>if b>a then b else a) n∈n::ns)/\∀a∈n::ns,a<=ns.foldl (λa b=>if b>a then b else a) n
 |n,[]=>by simp
 |n,m::ns=>by
  simp only[List.foldl_cons]
  have ih:=bn2 (if m>n then m else n) ns
  refine⟨?_,λa ha=>?_⟩
  . rcases List.mem_cons.mp ih.1 with h|h
    . rw[h];split<;>simp
    . exact List.mem_cons_of_mem _ (List.mem_cons_of_mem _ h)
  . have h1:=ih.2 (if m>n then m else n) List.mem_cons_self
    rcases List.mem_cons.mp ha with rfl|ha
    . split at h1<;>rename_i hc
      . simp only[hc,if_true];omega
      . simp only[hc,if_false];exact h1
    . rcases List.mem_cons.mp ha with rfl|ha
      . split at h1<;>rename_i hc
        . simp only[hc,if_true];exact h1
        . simp only[hc,if_false];omega
      . exact ih.2 a (List.mem_cons_of_mem _ ha)
theorem bl2:∀(n:Int)(ns:List Int),(ns.foldl (λa b=>if b<a then b else a) n∈n::ns)/\∀a∈n::ns,ns.foldl (λa b=>if b<a then b else a) n<=a
 |n,[]=>by simp
 |n,m::ns=>by
  simp only[List.foldl_cons]
  have ih:=bl2 (if m<n then m else n) ns
  refine⟨?_,λa ha=>?_⟩
  . rcases List.mem_cons.mp ih.1 with h|h
    . rw[h];split<;>simp
    . exact List.mem_cons_of_mem _ (List.mem_cons_of_mem _ h)
  . have h1:=ih.2 (if m<n then m else n) List.mem_cons_self
    rcases List.mem_cons.mp ha with rfl|ha
    . split at h1<;>rename_i hc
      . simp only[hc,if_true];omega
      . simp only[hc,if_false];exact h1
    . rcases List.mem_cons.mp ha with rfl|ha
      . split at h1<;>rename_i hc
        . simp only[hc,if_true];exact h1
        . simp only[hc,if_false];omega
      . exact ih.2 a (List.mem_cons_of_mem _ ha)
def xA:List T->Res T
 |[.int i,.int j]=>.ok (.int (if j>i then j else i))
 |[.lst _ ts]=>match zR ts with
  |some (n::ns)=>.ok (.int (ds1 (n::ns)))
  |_=>.no
 |_=>.no
def uA:List T->Res T
 |[.int i,.int j]=>.ok (.int (if j<i then j else i))
 |[.lst _ ts]=>match zR ts with
  |some (n::ns)=>.ok (.int (dk1 (n::ns)))
  |_=>.no
 |_=>.no
theorem et4:uB K cn (do0 K) xA:=λE As H Z ts xs A Q zi r w=>by
 unfold xA at w
 split at w
 . next i j=>rw[r.ints2];exact .inl ⟨i,j,rfl,w.val zi (jR _)⟩
 . next o ts=>
   split at w
   . next n ns h=>
     obtain⟨v,rfl,rv⟩:=r.one1
     obtain⟨q,vs,C,rfl,hs,r',_⟩:=rv.lstSq
     have:=xR ts r' h
     subst this
     refine .inr ⟨q,n::ns,rfl,hs.sq,List.cons_ne_nil _ _,λM h1 h2=>?_⟩
     obtain⟨g1,g2⟩:=bn2 n ns
     have:M=ds1 (n::ns):=Int.le_antisymm (g2 M h1) (h2 _ g1)
     rw[this]
     exact w.val zi (jR _)
   . exact w.elim
 . exact w.elim
theorem eb5:uB K cn (dw0 K) uA:=λE As H Z ts xs A Q zi r w=>by
 unfold uA at w
 split at w
 . next i j=>rw[r.ints2];exact .inl ⟨i,j,rfl,w.val zi (jR _)⟩
 . next o ts=>
   split at w
   . next n ns h=>
     obtain⟨v,rfl,rv⟩:=r.one1
     obtain⟨q,vs,C,rfl,hs,r',_⟩:=rv.lstSq
     have:=xR ts r' h
     subst this
     refine .inr ⟨q,n::ns,rfl,hs.sq,List.cons_ne_nil _ _,λM h1 h2=>?_⟩
     obtain⟨g1,g2⟩:=bl2 n ns
     have:M=dk1 (n::ns):=Int.le_antisymm (h2 _ g1) (g2 M h1)
     rw[this]
     exact w.val zi (jR _)
   . exact w.elim
 . exact w.elim
def ay5(n:Int):List Int->List Int
 |[]=>[n]
 |m::ms=>if n<=m then n::m::ms else m::ay5 n ms
def zT:List Int->List Int
 |[]=>[]
 |n::ns=>ay5 n (zT ns)
theorem aw1(n:Int):∀ms,(ay5 n ms).Perm (n::ms)
 |[]=>List.Perm.refl _
 |m::ms=>by
  unfold ay5
  split
  . exact List.Perm.refl _
  . exact((aw1 n ms).cons m).trans (List.Perm.swap n m ms)
theorem yX:∀ns,(zT ns).Perm ns
 |[]=>List.Perm.refl _
 |n::ns=>(aw1 n _).trans ((yX ns).cons n)
theorem ay3(n:Int):∀ms:List Int,ms.Pairwise (· <= ·)->(ay5 n ms).Pairwise (· <= ·)
 |[],_=>by simp[ay5]
 |m::ms,h=>by
  unfold ay5
  rw[List.pairwise_cons]at h
  split
  . next hc=>
    rw[List.pairwise_cons]
    refine⟨λa ha=>?_,List.pairwise_cons.mpr h⟩
    rcases List.mem_cons.mp ha with rfl|ha
    . exact hc
    . exact Int.le_trans hc (h.1 a ha)
  . next hc=>
    rw[List.pairwise_cons]
    refine⟨λa ha=>?_,ay3 n ms h.2⟩
    have:=(aw1 n ms).mem_iff.mp ha
    rcases List.mem_cons.mp this with rfl|h'
    . omega
    . exact h.1 a h'
theorem wB:∀ns,(zT ns).Pairwise (· <= ·)
 |[]=>List.Pairwise.nil
 |n::ns=>ay3 n _ (wB ns)
theorem zV:∀{ms ns:List Int},ms.Perm ns->ms.Pairwise (· <= ·)->ns.Pairwise (· <= ·)->ms=ns
 |[],ns,p,_,_=>(List.Perm.nil_eq p)
 |m::ms,[],p,_,_=>absurd p.length_eq (by simp)
 |m::ms,n::ns,p,h1,h2=>by
  rw[List.pairwise_cons]at h1 h2
  have e:m=n:=by
   have a:m∈n::ns:=p.mem_iff.mp List.mem_cons_self
   have b:n∈m::ms:=p.mem_iff.mpr List.mem_cons_self
   rcases List.mem_cons.mp a with a|a
   . exact a
   . rcases List.mem_cons.mp b with b|b
     . exact b.symm
     . exact Int.le_antisymm (h1.1 n b) (h2.1 m a)
  subst e
  rw[zV ((List.perm_cons m).mp p) h1.2 h2.2]
def vG:List T->Res T
 |[.lst _ ts]=>match zR ts with
  |some ns=>if ns.length<64 then .ok (.lst true ((zT ns).map .int))else .no
  |none=>.no
 |_=>.no
theorem dm1:uB K cn (cc7 K) vG:=λE As H Z ts xs A Q zi r w=>by
 unfold vG at w
 split at w
 . next o ts=>
   split at w
   . next ns h=>
     split at w
     . next hl=>
       obtain⟨v,rfl,rv⟩:=r.one1
       obtain⟨q,vs,C,rfl,hs,r',_⟩:=rv.lstSq
       have:=xR ts r' h
       subst this
       refine⟨q,ns,rfl,hs.sq,hl,λl ms hl hp hs=>?_⟩
       have e:ms=zT ns:=zV (hp.trans (yX ns).symm) hs (wB ns)
       rw[e]
       exact w.newL zi (dx3 _) l hl
     . exact w.elim
   . exact w.elim
 . exact w.elim
def jQ:List T->Res T
 |[.lst _ ts]=>if bA ts=true then .ok (.lst true ts)else .no
 |[.tup ts]=>if bA ts=true then .ok (.lst true ts)else .no
 |_=>.no
theorem ep3:uB K cn (ca8 K) jQ:=λE As H Z ts xs A Q zi r w=>by
 unfold jQ at w
 split at w
 . next o ts=>
   split at w
   . next h=>
     obtain⟨v,rfl,rv⟩:=r.one1
     obtain⟨q,vs,C,rfl,hs,r',_⟩:=rv.lstSq
     exact⟨q,vs,rfl,.inl hs.sq,λl hl=>w.newL zi (r'.bareE h) l hl⟩
   . exact w.elim
 . next ts=>
   split at w
   . next h=>
     obtain⟨v,rfl,rv⟩:=r.one1
     obtain⟨q,vs,rfl,hs,r'⟩:=rv.tupS
     exact⟨q,vs,rfl,.inr hs,λl hl=>w.newL zi (r'.bareE h) l hl⟩
   . exact w.elim
 . exact w.elim
def dw8:T->List T->Res T
 |.str z,[.str y]=>.ok (.bl (Txt.startswith z y))
 |_,_=>.no
def ac0:List T->Option (List Str)
 |[]=>some []
 |.str b::ts=>(ac0 ts).map (b:: ·)
 |_::_=>none
theorem bk0:∀(ts:List T){vs:List V}{A:List Addr}{bs:List Str},Reps K cn H Z ts vs A->ac0 ts=some bs->vs=bs.map V.str
 |[],vs,A,bs,r,h=>by
  simp only[Reps]at r
  cases h
  exact r.1
 |t::ts,vs,A,bs,r,h=>by
  simp only[Reps]at r
  obtain⟨v,vs',B,C,rfl,rfl,r1,r2⟩:=r
  cases t with
  |str b=>
   simp only[ac0]at h
   rw[Option.map_eq_some_iff]at h
   obtain⟨bs',h1,rfl⟩:=h
   rw[bk0 ts r2 h1,r1.str]
   rfl
  |_=>cases h
theorem an2:∀ns:List Str,ac0 (ns.map T.str)=some ns
 |[]=>rfl
 |n::ns=>by simp[ac0,an2 ns]
def zQ:T->List T->Res T
 |.str z,[.lst _ ts]=>match ac0 ts with
  |some ys=>if(ys.map (·.length)).sum+ys.length*z.length<=16777216 then .ok (.str (Txt.join z ys))else .no
  |none=>.no
 |_,_=>.no
theorem er2:RMR K cn "str" (cq5 K) zQ:=λE As H Z t ts x xs A B Q zi rt r w=>by
 unfold zQ at w
 split at w
 . next z o ts=>
   split at w
   . next ys h=>
     split at w
     . next hz=>
       obtain⟨v,rfl,rv⟩:=r.one1
       obtain⟨q,vs,C,rfl,hs,r',_⟩:=rv.lstSq
       have:=bk0 ts r' h
       subst this
       rw[rt.str]
       exact⟨z,q,ys,rfl,rfl,hs.sq,hz,w.val zi (av1 _)⟩
     . exact w.elim
   . exact w.elim
 . exact w.elim
end
end TL
namespace TL
open PySem PySem.Spec PyProof.Rows L2
theorem mF(a:α)(f:α->Res β):(Res.ok a).bind f=f a:=rfl
theorem br6(P:Nat->Fr->Prop):∀(ts:List T)(k:Nat){ρ:Fr},P k ρ->(∀i t ρ,ts[i]?=some t->P (k+i) ρ->∃ρ1 ρ2,b t ρ=some ρ1/\(body ρ1=.nx ρ2\/body ρ1=.ct ρ2)/\P (k+i+1) ρ2)->∃ρ',dS b body ts ρ=.nx ρ'/\P (k+ts.length) ρ'
 |[],k,ρ,h0,_=>⟨ρ,rfl,h0⟩
 |t::ts,k,ρ,h0,hs=>by
  obtain⟨ρ1,ρ2,h1,h2,h3⟩:=hs 0 t ρ rfl h0
  obtain⟨ρ',h4,h5⟩:=br6 (b:=b) (body:=body) P ts (k+1) h3 (λi u ρ e p=>by
   have:=hs (i+1) u ρ (by simpa using e) (by rw[show k+(i+1)=k+1+i by omega];exact p)
   rw[show k+(i+1)+1=k+1+i+1 by omega]at this
   exact this)
  refine⟨ρ',?_,by rw[List.length_cons,show k+(ts.length+1)=k+1+ts.length by omega];exact h5⟩
  rcases h2 with h2|h2<;>simp only[dS,h1,h2,h4]
theorem ay6(P:Nat->Fr->Prop)(hs:∀m ρ,P m ρ->(c ρ=.ok false)\/(c ρ=.ok true/\∃ρ2 m',(body ρ=.nx ρ2\/body ρ=.ct ρ2)/\m'<m/\P m' ρ2)):∀(n m:Nat){ρ:Fr},P m ρ->m<n->∃ρ' m',qV c body n ρ=.nx ρ'/\P m' ρ'/\c ρ'=.ok false
 |0,m,ρ,_,hm=>by omega
 |n+1,m,ρ,h0,hm=>by
  rcases hs m ρ h0 with h|⟨h,ρ2,m',h2,hl,hp⟩
  . exact⟨ρ,m,by simp only[qV,h,Bool.false_eq_true,if_false],h0,h⟩
  . obtain⟨ρ',m'',h4,h5,h6⟩:=ay6 P hs n m' hp (by omega)
    refine⟨ρ',m'',?_,h5,h6⟩
    rcases h2 with h2|h2<;>simp only[qV,h,h2,if_true,h4]
def Go(P:Fr->Prop):bP->Prop
 |.nx ρ=>P ρ
 |.ct ρ=>P ρ
 |_=>False
def GoB(P:Fr->Prop)(body:Fr->bP):Option Fr->Prop
 |some ρ=>Go P (body ρ)
 |none=>False
theorem cu5:Go P (.nx ρ)=P ρ:=rfl
theorem cr4:Go P (.ct ρ)=P ρ:=rfl
theorem ap4:GoB P body (some ρ)=Go P (body ρ):=rfl
theorem iX(P:Nat->Fr->Prop)(h:dS b body ts ρ=o)(h0:P 0 ρ)(hs:∀i t ρ,ts[i]?=some t->P i ρ->GoB (P (i+1)) body (b t ρ)):∃ρ',o=.nx ρ'/\P ts.length ρ':=by
 obtain⟨ρ',h1,h2⟩:=br6 (b:=b) (body:=body) P ts 0 h0 (λi t ρ e p=>by
  have:=hs i t ρ e (by rw[Nat.zero_add]at p;exact p)
  rw[Nat.zero_add]
  cases e1:b t ρ with
  |none=>rw[e1]at this;exact this.elim
  |some ρ1=>
   rw[e1]at this
   have g:Go (P (i+1)) (body ρ1):=this
   cases e2:body ρ1 with
   |nx ρ2=>rw[e2]at g;exact⟨ρ1,ρ2,rfl,.inl e2,g⟩
   |ct ρ2=>rw[e2]at g;exact⟨ρ1,ρ2,rfl,.inr e2,g⟩
   |_=>rw[e2]at g;exact g.elim)
 rw[Nat.zero_add]at h2
 exact⟨ρ',by rw[<-h,h1],h2⟩
def ay7(P B:Fr->Prop)(R:T->Prop):bP->Prop
 |.nx ρ=>P ρ
 |.ct ρ=>P ρ
 |.bk ρ=>B ρ
 |.rt t=>R t
 |_=>False
def ak1(P B:Fr->Prop)(R:T->Prop)(body:Fr->bP):Option Fr->Prop
 |some ρ=>ay7 P B R (body ρ)
 |none=>False
theorem ah6(P:Nat->Fr->Prop)(B:Fr->Prop)(R:T->Prop):∀(ts:List T)(k:Nat){ρ:Fr},P k ρ->(∀i t ρ,ts[i]?=some t->P (k+i) ρ->ak1 (P (k+i+1)) B R body (b t ρ))->
 (∃ρ',dS b body ts ρ=.nx ρ'/\(P (k+ts.length) ρ'\/B ρ'))\/∃t,dS b body ts ρ=.rt t/\R t
 |[],k,ρ,h0,_=>.inl ⟨ρ,rfl,.inl h0⟩
 |t::ts,k,ρ,h0,hs=>by
  have h1:=hs 0 t ρ rfl h0
  have next:∀{ρ2:Fr},P (k+1) ρ2->(∃ρ',dS b body ts ρ2=.nx ρ'/\(P (k+(ts.length+1)) ρ'\/B ρ'))\/∃t,dS b body ts ρ2=.rt t/\R t:=by
   intro ρ2 p
   have:=ah6 (b:=b) (body:=body) P B R ts (k+1) p (λi u ρ e p=>by
    have:=hs (i+1) u ρ (by simpa using e) (by rw[show k+(i+1)=k+1+i by omega];exact p)
    rw[show k+(i+1)+1=k+1+i+1 by omega]at this
    exact this)
   rw[show k+1+ts.length=k+(ts.length+1) by omega]at this
   exact this
  rw[List.length_cons]
  simp only[dS]
  cases e1:b t ρ with
  |none=>rw[e1]at h1;exact h1.elim
  |some ρ1=>
   rw[e1]at h1
   have g:ay7 (P (k+0+1)) B R (body ρ1):=h1
   simp only
   cases e2:body ρ1 with
   |nx ρ2=>rw[e2]at g;exact next g
   |ct ρ2=>rw[e2]at g;exact next g
   |bk ρ2=>rw[e2]at g;exact .inl ⟨ρ2,rfl,.inr g⟩
   |rt t=>rw[e2]at g;exact .inr ⟨t,rfl,g⟩
   |_=>rw[e2]at g;exact g.elim
theorem bd2(P:Nat->Fr->Prop)(B:Fr->Prop)(R:T->Prop)(h:dS b body ts ρ=o)(h0:P 0 ρ)(hs:∀i t ρ,ts[i]?=some t->P i ρ->ak1 (P (i+1)) B R body (b t ρ)):
 (∃ρ',o=.nx ρ'/\(P ts.length ρ'\/B ρ'))\/∃t,o=.rt t/\R t:=by
 have:=ah6 (b:=b) (body:=body) P B R ts 0 h0 (λi t ρ e p=>by
  rw[Nat.zero_add]at p⊢
  exact hs i t ρ e p)
 rw[Nat.zero_add,h]at this
 exact this
def GoW(P:Fr->Prop)(body:Fr->bP)(ρ:Fr):Res Bool->Prop
 |.ok true=>Go P (body ρ)
 |.ok false=>True
 |_=>False
theorem cn6(P:Nat->Fr->Prop)(h:au1 c body ρ=o)(h0:P m ρ)(hm:m<10^12)(hs:∀m ρ,P m ρ->GoW (λρ2=>∃m',m'<m/\P m' ρ2) body ρ (c ρ)):∃ρ' m',o=.nx ρ'/\P m' ρ'/\c ρ'=.ok false:=by
 obtain⟨ρ',m',h1,h2,h3⟩:=ay6 (c:=c) (body:=body) P (λm ρ p=>by
  have g:=hs m ρ p
  cases e:c ρ with
  |ok k=>
   rw[e]at g
   cases k with
   |false=>exact .inl rfl
   |true=>
    have g':Go (λρ2=>∃m',m'<m/\P m' ρ2) (body ρ):=g
    refine .inr ⟨rfl,?_⟩
    cases e2:body ρ with
    |nx ρ2=>rw[e2]at g';obtain⟨m',q1,q2⟩:=g';exact⟨ρ2,m',.inl rfl,q1,q2⟩
    |ct ρ2=>rw[e2]at g';obtain⟨m',q1,q2⟩:=g';exact⟨ρ2,m',.inr rfl,q1,q2⟩
    |_=>rw[e2]at g';exact g'.elim
  |_=>rw[e]at g;exact g.elim) wN m h0 (Nat.lt_of_lt_of_le hm dl8)
 exact⟨ρ',m',by rw[<-h];exact h1,h2,h3⟩
theorem bm5(i j:Int):bR (.int i) (.int j)=.ok (.int (i+j)):=rfl
theorem bf8(a b:Str):bR (.str a) (.str b)=gate (a.length+b.length<=sizeLine) (.ok (.str (a++b))):=rfl
theorem aq7(o o':Bool)(xs ys:List T):bR (.lst o xs) (.lst o' ys)=gate ((bA xs&&bA ys)=true/\xs.length+ys.length<=sizeLine) (.ok (.lst true (xs++ys))):=rfl
theorem bg8(xs ys:List T):bR (.tup xs) (.tup ys)=gate ((bA xs&&bA ys)=true/\xs.length+ys.length<=sizeLine/\xs.isEmpty=false/\ys.isEmpty=false) (.ok (.tup (xs++ys))):=rfl
theorem bh6(i j:Int):dD (.int i) (.int j)=.ok (.int (i-j)):=rfl
theorem bj6(i j:Int):mL (.int i) (.int j)=gate (mulOk i j) (.ok (.int (i*j))):=rfl
theorem bg7(z:Str)(k:Int):mL (.str z) (.int k)=gate (-(2^63)<=k/\k<2^62/\z.length*k.toNat<=sizeLine) (.ok (.str (zX z k.toNat))):=rfl
theorem bs0(i j:Int):jJ (.int i) (.int j)=gate (xK i j) (.ok (.int (i/j))):=rfl
theorem bc5(i j:Int):cI (.int i) (.int j)=gate (0<j) (.ok (.int (i%j))):=rfl
theorem xO(i j:Int):ah1 (.int i) (.int j)=gate (ay0 i j) (.ok (.int (i^j.toNat))):=rfl
theorem cj5(i:Int):vP (.int i)=.ok (.int (-i)):=rfl
theorem ct3(i j:Int):ltT (.int i) (.int j)=.ok (.bl (decide (i<j))):=rfl
theorem cw4(i j:Int):qX (.int i) (.int j)=.ok (.bl (decide (i<=j))):=rfl
theorem co3(i j:Int):gtT (.int i) (.int j)=.ok (.bl (decide (j<i))):=rfl
theorem ca3(i j:Int):geT (.int i) (.int j)=.ok (.bl (decide (j<=i))):=rfl
theorem co5(a b:Bool):xV (.bl a) (.bl b)=.ok (.bl (a==b)):=rfl
theorem cg3:xV .non .non=.ok (.bl true):=rfl
theorem ce2(i:Int):xV (.int i) .non=.ok (.bl false):=rfl
theorem ck2(i:Str):xV (.str i) .non=.ok (.bl false):=rfl
theorem cm4(o:Bool)(i:List T):xV (.lst o i) .non=.ok (.bl false):=rfl
theorem ce4(i:List T):xV (.tup i) .non=.ok (.bl false):=rfl
theorem ag5:hV .non .non=.ok (.bl false):=rfl
theorem ae5(i:Int):hV (.int i) .non=.ok (.bl true):=rfl
theorem aq5(i:Str):hV (.str i) .non=.ok (.bl true):=rfl
theorem az4(o:Bool)(i:List T):hV (.lst o i) .non=.ok (.bl true):=rfl
theorem aw4(i:List T):hV (.tup i) .non=.ok (.bl true):=rfl
theorem ch3(i j:Int):eS (.int i) (.int j)=.ok (.bl (i==j)):=rfl
theorem cn2(i j:Str):eS (.str i) (.str j)=.ok (.bl (i==j)):=rfl
theorem cw5(i j:Bool):eS (.bl i) (.bl j)=.ok (.bl (i==j)):=rfl
theorem cb4(i j:Int):neT (.int i) (.int j)=.ok (.bl (!(i==j))):=rfl
theorem cn5(i j:Str):neT (.str i) (.str j)=.ok (.bl (!(i==j))):=rfl
theorem ct2(i j:Bool):neT (.bl i) (.bl j)=.ok (.bl (!(i==j))):=rfl
theorem ct5(n:Bool)(i j:Str):inT n (.str i) (.str j)=.ok (.bl (if n=true then !occ j i else occ j i)):=rfl
theorem cc3(o:Bool)(ts:List T)(n:Int):aR (.lst o ts) (.int n)=match atI ts n with|some t=>.ok t|none=>.no:=rfl
theorem az7(ts:List T)(n:Int):aR (.tup ts) (.int n)=match atI ts n with|some t=>.ok t|none=>.no:=rfl
theorem ci4(z:Str)(n:Int):aR (.str z) (.int n)=if z.length<=sizeLine then match atI z.cps.toList n with|some c=>.ok (.str ⟨#[c]⟩)|none=>.no else .no:=rfl
theorem dl4(o:Bool)(ts:List T)(lo hi:Option Int):oQ (.lst o ts) lo hi=if bA ts=true then .ok (.lst true (fH ts lo hi))else .no:=rfl
theorem dx0(ts:List T)(lo hi:Option Int):oQ (.tup ts) lo hi=if bA ts=true/\¬(HT.sIx ts.length 0 lo=0/\HT.sIx ts.length ts.length hi=ts.length)then .ok (.tup (fH ts lo hi))else .no:=rfl
theorem dw2(z:Str)(lo hi:Option Int):oQ (.str z) lo hi=if z.length<=sizeLine then .ok (.str (Txt.slice z lo hi))else .no:=rfl
theorem cs3(z:Str):eU [.str z]=if z.length<=sizeLine then .ok (.int z.length)else .no:=rfl
theorem bt4(o:Bool)(ts:List T):eU [.lst o ts]=.ok (.int ts.length):=rfl
theorem cs2(ts:List T):eU [.tup ts]=.ok (.int ts.length):=rfl
theorem ct4(i:Int):ax4 [.int i]=.ok (.int (if i<0 then -i else i)):=rfl
theorem ae1(i j:Int):ak3 [.int i,.int j]=gate (xK i j) (.ok (.tup [.int (i/j),.int (i%j)])):=rfl
theorem bn4(i:Int):vK [.int i,.ty "int"]=.ok (.bl true):=by with_unfolding_all rfl
theorem aa7(i:Int):vK [.int i,.ty "bool"]=.ok (.bl false):=by with_unfolding_all rfl
theorem bs4(i:Bool):vK [.bl i,.ty "bool"]=.ok (.bl true):=by with_unfolding_all rfl
theorem au7(i:Bool):vK [.bl i,.ty "int"]=.ok (.bl true):=by with_unfolding_all rfl
theorem bk4(i:List T):vK [.tup i,.ty "tuple"]=.ok (.bl true):=by with_unfolding_all rfl
theorem bo4(o:Bool)(i:List T):vK [.lst o i,.ty "list"]=.ok (.bl true):=by with_unfolding_all rfl
theorem cd3(i:Str):vK [.str i,.ty "str"]=.ok (.bl true):=by with_unfolding_all rfl
theorem bc6(i:Str):vK [.str i,.ty "int"]=.ok (.bl false):=by with_unfolding_all rfl
theorem at6(a o:Bool)(bs:List Bool):kU a [.lst o (bs.map .bl)]=.ok (.bl (if a=true then bs.any id else bs.all id)):=by
 simp only[kU,ax0]
theorem bu5(i j:Int):xA [.int i,.int j]=.ok (.int (if j>i then j else i)):=rfl
theorem bb5(i j:Int):uA [.int i,.int j]=.ok (.int (if j<i then j else i)):=rfl
theorem cg4(o:Bool)(n:Int)(ns:List Int):xA [.lst o ((n::ns).map .int)]=.ok (.int (ds1 (n::ns))):=by
 simp only[xA,vV]
theorem cr3(o:Bool)(n:Int)(ns:List Int):uA [.lst o ((n::ns).map .int)]=.ok (.int (dk1 (n::ns))):=by
 simp only[uA,vV]
theorem ar5(o:Bool)(ns:List Int):vG [.lst o (ns.map .int)]=if ns.length<64 then .ok (.lst true ((zT ns).map .int))else .no:=by
 simp only[vG,vV]
theorem bm6(o:Bool)(ts:List T):jQ [.lst o ts]=if bA ts=true then .ok (.lst true ts)else .no:=rfl
theorem bi8(ts:List T):jQ [.tup ts]=if bA ts=true then .ok (.lst true ts)else .no:=rfl
theorem az2(z y:Str):dw8 (.str z) [.str y]=.ok (.bl (Txt.startswith z y)):=rfl
theorem ai3(z:Str)(o:Bool)(ys:List Str):zQ (.str z) [.lst o (ys.map .str)]=if(ys.map (·.length)).sum+ys.length*z.length<=16777216 then .ok (.str (Txt.join z ys))else .no:=by
 simp only[zQ,an2]
theorem cu4(o:Bool)(ts:List T):kD (.lst o ts)=if bA ts=true then .ok ts else .no:=rfl
theorem cq2(ts:List T):kD (.tup ts)=if bA ts=true then .ok ts else .no:=rfl
theorem ci3(z:Str):kD (.str z)=.ok (z.cps.toList.map λc=>T.str ⟨#[c]⟩):=rfl
theorem cw3(ts:List T):uC (.lst false ts)=if bA ts=true then .ok ts else .no:=by simp only[uC,Bool.not_false,Bool.true_and]
theorem cu2(ts:List T):uC (.tup ts)=if bA ts=true then .ok ts else .no:=rfl
theorem cl3(z:Str):uC (.str z)=.ok (z.cps.toList.map λc=>T.str ⟨#[c]⟩):=rfl
theorem bq4(j:Int):lO [.int j]=gate (-(2^62)<=j/\j<2^62) (.ok (gZ 0 j.toNat)):=rfl
theorem cx5(i j:Int):cd5 [.int i,.int j]=gate (-(2^62)<=i/\i<2^62/\-(2^62)<=j/\j<2^62) (.ok (gZ i (j-i).toNat)):=rfl
theorem co2(b:Bool):xD (.bl b)=.ok b:=rfl
theorem cx4(b:Int):xD (.int b)=.ok (b !=0):=rfl
theorem ck4:xD .non=.ok false:=rfl
theorem cv2(o:Bool)(b:List T):xD (.lst o b)=.ok (!b.isEmpty):=rfl
theorem cv5(b:Bool):toB (.bl b)=.ok b:=rfl
theorem cj2(i:Int):toI (.int i)=.ok (some i):=rfl
theorem cn4(o:Bool)(ts:List T):db2 (some (-1)) (.lst o ts)=if bA ts=true then .ok (.lst true ts.reverse)else .no:=by
 simp only[db2,and_true]
theorem eK:∀{l:List α},(∀a∈l,d (ρ.set k (some (g a)))=.ok (f a))->cM (aI k) cK d ρ (l.map g)=.ok (l.map f)
 |[],_=>rfl
 |a::l,h=>by
  simp only[List.map_cons,cM,aI,cK,mF,if_true,h a List.mem_cons_self,eK (λu hu=>h u (List.mem_cons_of_mem _ hu))]
theorem ab7:∀{l:List α},(∀a∈l,c (ρ.set k (some (g a)))=.ok (p a)/\(p a=true->d (ρ.set k (some (g a)))=.ok (f a)))->cM (aI k) c d ρ (l.map g)=.ok ((l.filter p).map f)
 |[],_=>rfl
 |a::l,h=>by
  obtain⟨h1,h2⟩:=h a List.mem_cons_self
  have ih:=ab7 (k:=k) (c:=c) (d:=d) (ρ:=ρ) (g:=g) (f:=f) (p:=p) (l:=l) (λu hu=>h u (List.mem_cons_of_mem _ hu))
  cases hp:p a with
  |true=>simp only[List.map_cons,cM,aI,h1,hp,h2 hp,mF,if_true,List.filter_cons,ih]
  |false=>simp only[List.map_cons,cM,aI,h1,hp,mF,Bool.false_eq_true,if_false,List.filter_cons,ih]
theorem lF{lo:Int}{n i:Nat}{t:T}(h:(gZ lo n)[i]?=some t):i<n/\t=.int (lo+i):=by
 unfold gZ at h
 rw[List.getElem?_map]at h
 cases q:(List.range n)[i]? with
 |none=>rw[q]at h;cases h
 |some j=>
  rw[q]at h
  obtain⟨h1,h2⟩:=List.getElem?_eq_some_iff.mp q
  simp at h1 h2
  subst h2
  cases h
  exact⟨h1,rfl⟩
theorem fL(lo:Int)(n:Nat):(gZ lo n).length=n:=by simp[gZ]
theorem jZ{α:Type}{g:α->T}(h:∀a,bS (g a)=true):∀l:List α,bA (l.map g)=true
 |[]=>rfl
 |a::l=>by simp only[List.map_cons,bA,h a,jZ h l,Bool.and_self]
theorem vX{α:Type}{g:α->T}(h:∀a,frz (g a)=g a):∀l:List α,frzs (l.map g)=l.map g
 |[]=>rfl
 |a::l=>by simp only[List.map_cons,frzs,h a,vX h l]
theorem lK{α:Type}{g:α->T}(h:∀a,cG (g a)=true):∀l:List α,cT (l.map g)=true
 |[]=>rfl
 |a::l=>by simp only[List.map_cons,cT,h a,lK h l,Bool.and_self]
theorem jK(l:List Int):bA (l.map T.int)=true:=jZ (λ_=>rfl) l
theorem lG(l:List Int):frzs (l.map T.int)=l.map T.int:=vX (λ_=>rfl) l
theorem kJ(l:List Int):cT (l.map T.int)=true:=lK (λ_=>rfl) l
theorem jL(l:List Str):bA (l.map T.str)=true:=jZ (λ_=>rfl) l
theorem tV(l:List Str):frzs (l.map T.str)=l.map T.str:=vX (λ_=>rfl) l
theorem oK(l:List Str):cT (l.map T.str)=true:=lK (λ_=>rfl) l
theorem dt6(z:Str):z.length=z.cps.toList.length:=Array.length_toList.symm
end TL
namespace TL
open PySem PySem.Spec PyProof.Rows L2
section
variable {Jn : iO} {K : PySem.W.Frag} {cn : Str → Option Addr} {E : XK}
def gC(cs:List Str)(f:Str):T->Res T
 |.ins _ c ns ts=>if cs.contains c=true then match(ns.zip ts).lookup f with
  |some t=>.ok t
  |none=>.no else .no
 |_=>.no
def jU(K:PySem.W.Frag)(cn:Str->Option Addr)(cs:List Str)(f:Str):Prop:=∀c∈cs,∀C,cn c=some C->Cls K C/\NoAttr K C f
theorem Reps.lookup:∀(ns:List Str)(ts:List T){vs:List V}{A:List Addr},Reps K cn H Z ts vs A->(ns.zip ts).lookup f=some t->∃v B,(ns.zip vs).lookup f=some v/\Rep K cn H Z t v B
 |[],ts,_,_,_,e=>by simp at e
 |n::ns,[],_,_,_,e=>by simp at e
 |n::ns,u::ts,vs,A,r,e=>by
  simp only[Reps]at r
  obtain⟨v,r',B,C,rfl,rfl,h1,h2⟩:=r
  rw[List.zip_cons_cons,List.lookup_cons]at e⊢
  cases q:f==n with
  |true=>
   rw[q]at e
   cases e
   exact⟨v,B,rfl,h1⟩
  |false=>
   rw[q]at e
   exact Reps.lookup ns ts h2 e
theorem Rep.insS(r:Rep K cn H Z (.ins o c ns ts) v B):∃a C dx vs D,v=.ref a/\cn c=some C/\H a=some (.ins C dx (ns.zip vs))/\ns.length=vs.length/\Reps K cn H Z ts vs D:=by
 cases o with
 |true=>
  simp only[Rep]at r
  obtain⟨a,C,dx,vs,D,rfl,_,hc,e,l,r⟩:=r
  exact⟨a,C,dx,vs,D,rfl,hc,e,l,r⟩
 |false=>
  simp only[Rep]at r
  obtain⟨a,C,dx,vs,rfl,_,hc,e,_,l,r⟩:=r
  exact⟨a,C,dx,vs,[],rfl,hc,e,l,r⟩
theorem ex2(hf:jU K cn cs f)(ha:RB Jn K cn E ta a):RB Jn K cn E (dq4 K ta f) (fI (gC cs f) a):=λAs H Z ρ σ F Q w=>by
 unfold fI at w
 refine ha As H Z ρ σ F _ ?_
 cases e:a ρ with
 |ok t=>
  rw[e]at w
  intro v H1 Z1 B p
  simp only[Res.bind]at w
  unfold gC at w
  split at w
  . next o c ns ts=>
    split at w
    . next hc=>
      split at w
      . next t' h=>
        obtain⟨q,C,dx,vs,D,rfl,hC,eq,_,r⟩:=p.rep.insS
        obtain⟨v',B',e3,rv⟩:=Reps.lookup ns ts r h
        obtain⟨k1,k2⟩:=hf c (by simpa using hc) C hC
        exact⟨q,C,dx,_,v',rfl,eq,k1,k2,e3,w v' H1 Z1 B' ⟨p.same,p.zz,p.zn,p.zi,rv⟩⟩
      . exact w.elim
    . exact w.elim
  . exact w.elim
 |ex x=>rw[e]at w;exact w
 |no=>rw[e]at w;exact w
def gM(f:Str):List Str->Option Nat
 |[]=>none
 |n::ns=>if n=f then some 0 else(gM f ns).map (· +1)
theorem cc1:∀(ns:List Str)(vs:List V){k:Nat},ns.length=vs.length->gM f ns=some k->kR f y (ns.zip vs)=ns.zip (vs.set k y)
 |[],_,_,_,h=>by simp[gM]at h
 |n::ns,[],_,l,_=>by simp at l
 |n::ns,w::vs,k,l,h=>by
  unfold gM at h
  rw[List.zip_cons_cons,kR]
  by_cases q:n=f
  . rw[if_pos q]at h;cases h
    rw[if_pos q];rfl
  . rw[if_neg q,Option.map_eq_some_iff]at h
    obtain⟨k',h1,rfl⟩:=h
    rw[if_neg q,cc1 ns vs (by simpa using l) h1];rfl
theorem bk5:∀(ns:List Str)(vs:List V),ns.length=vs.length->gM f ns=none->kR f y (ns.zip vs)=(ns++[f]).zip (vs++[y])
 |[],[],_,_=>rfl
 |[],w::vs,l,_=>by simp at l
 |n::ns,[],l,_=>by simp at l
 |n::ns,w::vs,l,h=>by
  unfold gM at h
  rw[List.zip_cons_cons,kR]
  by_cases q:n=f
  . rw[if_pos q]at h;cases h
  . rw[if_neg q,Option.map_eq_none_iff]at h
    rw[if_neg q,bk5 ns vs (by simpa using l) h];rfl
def ea8(j:Nat)(cs:List Str)(f:Str)(d:Fr->Res (List Nat)):Fr->Res (List Nat):=λρ=>(d ρ).bind λp=>match ρ[j]? with
 |some (some t0)=>match eQ p t0 with
  |some (.ins o c ns ts)=>if(o&&cs.contains c)=true then match gM f ns with
   |some k=>if k<ts.length then .ok (p++[k])else .no
   |none=>.no else .no
  |_=>.no
 |_=>.no
def rX(j:Nat)(mv:List Nat)(cs:List Str)(f:Str)(e:Fr->Res T)(d:Fr->Res (List Nat)):Fr->bP:=λρ=>match e ρ with
 |.ok t=>match(kills mv ρ)[j]? with
  |some (some t0)=>match d (kills mv ρ)with
   |.ok p=>match eQ p t0 with
    |some (.ins o c ns us)=>if(o&&cs.contains c&&decide (ns.length<1000))=true then match gM f ns with
     |some k=>if k<us.length then aq4 j p (.ins true c ns (us.set k t)) (kills mv ρ)else .no
     |none=>aq4 j p (.ins true c (ns++[f]) (us++[t])) (kills mv ρ)
     else .no
    |_=>.no
   |.ex x=>.ex x
   |.no=>.no
  |_=>.no
 |.ex x=>.ex x
 |.no=>.no
theorem ey2(hf:jU K cn cs f)(he:RE Jn K cn E mv te e)(hd:RP Jn K cn E j to d):RS Jn K cn E (dr4 K to te f) (rX j mv cs f e d):=λAs H Z ρ σ F D w=>by
 unfold rX at w
 refine he As H Z ρ σ F _ ?_
 cases ee:e ρ with
 |ok t=>
  rw[ee]at w
  intro y H1 Z1 C p1
  simp only at w
  have F1:=(F.mo p1.mo).kills mv
  cases e1:(kills mv ρ)[j]? with
  |none=>rw[e1]at w;exact w.elim
  |some o=>
   rw[e1]at w
   cases o with
   |none=>exact w.elim
   |some t0=>
    obtain⟨v0,e2,r0⟩:=F1.sl.get e1
    simp only at w
    have ev1:Ev As H Z (fR mv As) H1 Z1:=⟨λb o q _=>p1.same b o q,λb hb=>.inl (fK hb),p1.zz,λb h=>(p1.zn b h).imp_right .inr,λb h=>p1.same.free h⟩
    refine hd (fR mv As) H1 Z1 (kills mv ρ) σ F1 t0 v0 e1 e2 r0 _ ?_
    cases ed:d (kills mv ρ)with
    |ok p=>
     rw[ed]at w
     intro u v B H2 Z2 m2 hn pl
     simp only[hn]at w
     split at w
     . next o c ns us hq=>
       cases hq
       split at w
       . next hc=>
         rw[Bool.and_eq_true,Bool.and_eq_true]at hc
         obtain⟨⟨rfl,hc⟩,hl⟩:=hc
         have hl:=of_decide_eq_true hl
         have q:=pl.rep
         simp only[Rep]at q
         obtain⟨a,C',dx,ws,C0,rfl,rfl,hC,ea,l,rs⟩:=q
         have rt:Rep K cn H2 Z2 t y C:=p1.rep.same m2.same m2.zz
         have F2:=F1.mo m2
         have lw:=Reps.length us rs
         obtain⟨k1,k2⟩:=hf c (by simpa using hc) C' hC
         refine⟨a,C',dx,_,rfl,ea,k1,k2,by rw[List.length_zip];omega,?_⟩
         have ndB:(a::C0).Nodup:=(lC F1.nd j).sublist pl.sub
         have cA:∀x∈C0,x∈(fR mv As).getD j []:=λx hx=>pl.sub.mem (List.mem_cons_of_mem _ hx)
         have cOut:=p1.out F
         have cz:∀x∈C,¬Z2 x:=λx hx z=>by
          rcases m2.zn x z with z|z
          . exact p1.bz x hx z
          . obtain⟨o,ho,_⟩:=p1.rep.dom t x hx
            rw[ho]at z;cases z
         cases ek:gM f ns with
         |none=>
          rw[ek]at w
          rw[bk5 ns ws l ek]
          refine bf0 (As:=As) (H:=H) (Z:=Z) (E:=E) F2 e1 e2 pl rfl rfl ea rfl (u':=.ins true c (ns++[f]) (us++[t])) (C:=C0++C) (λaC aZ=>?_) ?_ ?_ ?_ (ev1.trans m2.ev) ?_ w
          . simp only[Rep]
            exact⟨a,C',dx,ws++[y],C0++C,rfl,rfl,hC,fG,by simp[l],(Reps.append us rs (Reps.one rt)).upd ea rfl aC aZ⟩
          . rw[List.nodup_append]
            exact⟨(List.nodup_cons.mp ndB).2,p1.nd,λx hx z hz e=>by subst e;exact cOut x hz (bB (cA x hx))⟩
          . intro x hx
            rcases List.mem_append.mp hx with hx|hx
            . exact F2.nz x (bB (cA x hx))
            . exact cz x hx
          . intro x hx hA
            rcases List.mem_append.mp hx with hx|hx
            . exact hx
            . exact absurd hA (cOut x hx)
          . intro x hx
            rcases List.mem_append.mp hx with hx|hx
            . exact .inl (fK (bB (cA x hx)))
            . exact p1.inA x hx
         |some k=>
          rw[ek]at w
          simp only at w
          split at w
          . next hk=>
            rw[cc1 ns ws l ek]
            obtain⟨B1,Bo,B2,rfl,rs'⟩:=Reps.put rt us rs hk
            have i1:∀x∈B1,x∈B1++Bo++B2:=λx hx=>List.mem_append_left _ (List.mem_append_left _ hx)
            have i2:∀x∈B2,x∈B1++Bo++B2:=λx hx=>List.mem_append_right _ hx
            have nd1:=(List.nodup_cons.mp ndB).2
            rw[List.append_assoc,List.nodup_append]at nd1
            obtain⟨n1,n2,n3⟩:=nd1
            rw[List.nodup_append]at n2
            refine bf0 (As:=As) (H:=H) (Z:=Z) (E:=E) F2 e1 e2 pl rfl rfl ea rfl (u':=.ins true c ns (us.set k t)) (C:=B1++C++B2) (λaC aZ=>?_) ?_ ?_ ?_ (ev1.trans m2.ev) ?_ w
            . simp only[Rep]
              exact⟨a,C',dx,ws.set k y,B1++C++B2,rfl,rfl,hC,fG,by simp[l],rs'.upd ea rfl aC aZ⟩
            . rw[List.append_assoc,List.nodup_append]
              refine⟨n1,?_,λx hx z hz e=>?_⟩
              . rw[List.nodup_append]
                exact⟨p1.nd,n2.2.1,λx hx z hz e=>by subst e;exact cOut x hx (bB (cA x (i2 x hz)))⟩
              . subst e
                rcases List.mem_append.mp hz with hz|hz
                . exact cOut x hz (bB (cA x (i1 x hx)))
                . exact n3 x hx x (List.mem_append_right _ hz) rfl
            . intro x hx
              rcases List.mem_append.mp hx with hx|hx
              . rcases List.mem_append.mp hx with hx|hx
                . exact F2.nz x (bB (cA x (i1 x hx)))
                . exact cz x hx
              . exact F2.nz x (bB (cA x (i2 x hx)))
            . intro x hx hA
              rcases List.mem_append.mp hx with hx|hx
              . rcases List.mem_append.mp hx with hx|hx
                . exact i1 x hx
                . exact absurd hA (cOut x hx)
              . exact i2 x hx
            . intro x hx
              rcases List.mem_append.mp hx with hx|hx
              . rcases List.mem_append.mp hx with hx|hx
                . exact .inl (fK (bB (cA x (i1 x hx))))
                . exact p1.inA x hx
              . exact .inl (fK (bB (cA x (i2 x hx))))
          . exact w.elim
       . exact w.elim
     . exact w.elim
    |ex x=>rw[ed]at w;exact WpX.ev w ev1
    |no=>rw[ed]at w;exact w
 |ex x=>rw[ee]at w;exact w
 |no=>rw[ee]at w;exact w
def spI(K:PySem.W.Frag)(cn:Str->Option Addr)(c:Str)(n:Nat)(G:List T->Res T):Sp:=λvs H Q E=>vs.length=n+1/\∃x C dx us ts Z,vs=.ref x::us/\cn c=some C/\H x=some (.ins C dx [])/\¬Z x/\(∀a,Z a->H a≠none)/\Reps K cn H Z ts us []/\
 match G ts with
 |.ok t=>∀H' Z' B,Ev [[x]] H Z [B] H' Z'->Rep K cn H' Z' t (.ref x) B->B.Nodup->(∀b∈B,¬Z' b)->(∀a,Z' a->H' a≠none)->Q .non H'
 |.ex e=>WpX K cn E [[x]] H Z e
 |.no=>False
theorem da9(hc:cn c=some C)(ha:yI Jn K cn E ta a):RE Jn K cn E [] (cy2 C (spI K cn c n G) [] E' ta) (bE n G a):=λAs H Z ρ σ F Q w=>by
 unfold bE at w
 refine ha As H Z ρ σ F _ ?_
 cases e:a ρ with
 |ok ts=>
  rw[e]at w
  intro vs H1 Z1 B m r1 x dx hx hdx hne
  simp only[Res.bind]at w
  split at w
  . next hn=>
    have hs:Same H1 (L2.upd (L2.upd H1 dx (.own x)) x (.ins C dx [])):=λb u q=>by
     rw[cR (iM q hx),cR (iM q hdx)];exact q
    refine⟨by simp[Reps.length ts r1,hn],x,C,dx,vs,frzs ts,(λa=>Z1 a\/a∈B),by simp,hc,by rw[fG],λh=>?_,λa h=>?_,(Reps.frz ts r1 (λa h=>.inl h) (λa h=>.inr h)).same hs (λ_ h=>h),?_⟩
    . rcases h with h|h
      . exact m.zi x h hx
      . obtain⟨o,q,_⟩:=Reps.dom ts r1 x h
        rw[hx]at q
        cases q
    . intro q
      have q':=hs.free q
      rcases h with h|h
      . exact m.zi a h q'
      . obtain⟨o,q2,_⟩:=Reps.dom ts r1 a h
        rw[q2]at q'
        cases q'
    cases e2:G (frzs ts)with
    |ok t=>
     rw[e2]at w
     intro H2 Z2 C2 ev r2 nd bz zi2
     refine⟨rfl,?_⟩
     simp only at w
     have sm:Same H1 H2:=λb u q=>ev.keep b u (hs b u q) (by simpa using iM q hx)
     have bn:∀b∈C2,H1 b=none:=λb hb=>by
      rcases ev.own b (by simpa using hb)with q|q
      . have:b=x:=by simpa using q
        rw[this];exact hx
      . exact hs.free q
     split at w
     . next hcl=>
       rw[Bool.or_eq_true]at hcl
       by_cases hcl':cG t=true
       . refine w _ H2 Z1 C2 ⟨m.same.trans sm,m.zz,λa h=>m.zn a h,λa h q=>m.zi a h (sm.free q),Rep.any t hcl' r2,nd,λb hb z=>m.zi b z (bn b hb),λb hb=>.inl (m.same.free (bn b hb))⟩
       . have hno:=hcl.resolve_left hcl'
         have hB:=Reps.bare ts hno r1
         subst hB
         refine w _ H2 Z2 C2 ⟨m.same.trans sm,λa h=>ev.zz a (.inl (m.zz a h)),λa h=>?_,zi2,r2,nd,bz,λb hb=>.inl (m.same.free (bn b hb))⟩
         rcases ev.zn a h with(h|h)|h|h
         . exact m.zn a h
         . cases h
         . have:a=x:=by simpa using h
           rw[this];exact .inr (m.same.free hx)
         . exact .inr (m.same.free (hs.free h))
     . exact w.elim
    |ex x=>rw[e2]at w;exact w.elim
    |no=>rw[e2]at w;exact w.elim
  . exact w.elim
 |ex x=>rw[e]at w;exact w
 |no=>rw[e]at w;exact w
def jG:bP->Res T
 |.nx ρ=>match ρ[0]? with
  |some (some t)=>.ok t
  |_=>.no
 |.ex x=>.ex x
 |_=>.no
theorem dq9 {c : Str} {P : Program} {w : World} {mg : Str → Option Value} {base : Heap} {x qual : Str} {st : Stmt} {f : Addr} {fd : FuncData} {N ps : List Str} {k : Nat} {d : Fr → bP} (F : Fun K x qual st f fd) (S : aY N ps (aO st))
    (hbody : ∀ (y : Addr) (cdv : Value) (A : Around) (outer : List Env) (s : Shared) (H : Hp) (E : XK), Room k (A.deeper (envOfC qual (aO st) s.heap.objs.size f cdv)) →
      ∃ t, PSs (mK kA P w K mg base N qual (aO st) f cdv A outer s H E).nox (dO st) t ∧ RS [(0, .ref y)] K cn E t d) {n : Nat} {G : List T → Res T} (hn : ps.length = n + 1) (hG : ∀ ts, G ts = jG (d (cD N.length (.ins true c [] [] :: ts)))) : FnOk P w K mg base kA (k + 1) f fd ps (spI K cn c n G) := by
  have eG : G = fun ts => jG (d (cD N.length (.ins true c [] [] :: ts))) := funext hG
  subst eG
  refine F.ok S (fun vs H Q E h => by rw [hn]; exact h.1) fun cdv A outer s H vs Q E hr h => ?_
  obtain ⟨hl, y, C, dx, us, ts, Z, rfl, hC, hy, hZ, zi, r, w⟩ := h
  obtain ⟨t, hp, ht⟩ := hbody y cdv A outer s H E hr
  refine ⟨t, hp, ?_⟩
  have lt := Reps.length ts r
  have ry : Rep K cn H Z (.ins true c [] []) (.ref y) [y] := by
    simp only [Rep, Reps]
    exact ⟨y, C, dx, [], [], rfl, rfl, hC, hy, rfl, rfl, rfl⟩
  let m := N.length - (ts.length + 1)
  have sl : Slots K cn H Z (cD N.length (.ins true c [] [] :: ts)) (L2.start N (.ref y :: us)) ([y] :: List.replicate (ts.length + m) []) := by
    unfold cD L2.start
    refine ⟨some (.ref y), us.map some ++ List.replicate m none, [y], _, ?_, rfl, ⟨_, rfl, ry⟩, ?_⟩
    · simp only [List.map_cons, List.length_cons, lt, List.cons_append]; rfl
    · exact ad2 ts r
  have fl : ([y] :: List.replicate (ts.length + m) []).flatten = [y] := by rw [List.flatten_cons, lJ]; rfl
  have F0 : Frm [(0, .ref y)] K cn H Z (cD N.length (.ins true c [] [] :: ts)) (L2.start N (.ref y :: us)) ([y] :: List.replicate (ts.length + m) []) :=
    ⟨sl, by rw [fl]; simp, by rw [fl]; intro a ha; have : a = y := by simpa using ha
                              rw [this]; exact hZ, zi, fun p hp => by
      rw [List.mem_singleton] at hp
      subst hp
      rfl⟩
  refine ht _ H Z _ _ F0 _ ?_
  cases ed : d (cD N.length (.ins true c [] [] :: ts)) with
  | nx ρ =>
    simp only [ed, jG] at w
    intro σ' As' H' Z' F' ev
    cases e0 : ρ[0]? with
    | none => rw [e0] at w; exact w.elim
    | some o =>
      rw [e0] at w
      cases o with
      | none => exact w.elim
      | some t0 =>
        simp only at w
        obtain ⟨v, e1, r1⟩ := F'.sl.get e0
        have e2 := F'.pn (0, .ref y) (List.mem_singleton.mpr rfl)
        simp only at e2
        rw [e1] at e2
        cases e2
        refine w H' Z' (As'.getD 0 []) ⟨fun a o h q => ev.keep a o h (by rw [fl]; simpa using q), fun a ha => ?_, ev.zz, fun a h => ?_, ev.dom⟩ r1 (lC F'.nd 0) (fun b hb => F'.nz b (bB hb)) F'.zi
        · have q := ev.own a (bB (i := 0) (by simpa using ha))
          rw [fl] at q
          simpa using q
        · have q := ev.zn a h
          rw [fl] at q
          simpa using q
  | ex e =>
    simp only [ed, jG] at w
    exact WpX.ev w ⟨fun _ _ q _ => q, fun a ha => (by rw [fl] at ha; exact .inl (by simpa using ha)), fun _ h => h, fun _ h => .inl h, fun _ h => h⟩
  | rt t => simp only [ed, jG] at w
  | bk ρ => simp only [ed, jG] at w
  | rm ρ t => simp only [ed, jG] at w
  | ct ρ => simp only [ed, jG] at w
  | no => simp only [ed, jG] at w
end
end TL
namespace L2
open PySem PySem.Spec PyProof.Rows
structure kT (P:Program) (w:World) (K:PySem.W.Frag) (mg:Str->Option Value) (base:Heap) (k:Nat) (C:Addr) (m:Str) (sp:Sp):Prop where
 ex:∃f fd ps,Cls K C/\de2 K C m f/\FnOk P w K mg base kA k f fd ps sp/\Binds K fd ps []
structure Mak (P:Program) (w:World) (K:PySem.W.Frag) (mg:Str->Option Value) (base:Heap) (k:Nat) (x:Str) (C:Addr) (sp:Sp):Prop where
 ex:∃f fd ps,Mk K C f/\FnOk P w K mg base kA k f fd ps sp/\mg x=some (.ref C)/\Binds K fd ps []
def bu6(tab:List (Addr×Sp))(m:Str)(ta:TE)(t:TA):TE:=λσ H Q=>ta σ H λx H1=>∃a C dx fs sp,x=.ref a/\H1 a=some (.ins C dx fs)/\(C,sp)∈tab/\fs.lookup m=none/\t σ H1 λvs H2=>sp (x::vs) H2 Q E0
section
variable {X : Cx}
theorem dn4(he:PE X o ta)(hT:∀q∈tab,kT X.prog X.w X.K X.mg X.base k q.1 m q.2)(hr:Room k X.A)(ha:PA X (e::es) t)
 (hst:starEach (e::es) X.env=(false,eval e X.env)::starEach es X.env:=by rfl)(hpl:(backTo pos (starEach es X.env)).any (·.1)=false:=by rfl)
 (ht:eval (.Call (.Attribute o m apos) (e::es) [] pos) X.env=(do
  let ov<-eval o X.env
  standAt apos.atName
  let(f,first)<-holding [ov] (getMethod ov m pl)
  callWith pos f first (backTo pos (starEach (e::es) X.env)) (backToKw pos (keywordEach [] X.env))):=by rfl):
 PE X (.Call (.Attribute o m apos) (e::es) [] pos) (bu6 tab m ta t):=by
 intro pins s σ H Q I h
 refine PySem.W.methodCall_KW (pl:=pl) (cH (he s σ H _ I h) λu s1 ⟨x,H1,I1,rx,a,C,dx,fs,sp,ex,ea,hq,l,q⟩=>?_) ht
 subst ex
 obtain rfl:u=Value.ref a:=rx
 obtain⟨f,fd,ps,c,hm,F,hb⟩:=(hT _ hq).ex
 refine aq6 I1 ea c hm l ?_
 refine PySem.W.callWith_K (first:=[.ref a]) (h₀:=X.base) I.ok.mod.kin hm.kp (cH (ha pins s1 σ H1 _ I1 q) λus s2 ⟨vs,H2,I2,r,q2⟩=>⟨I2.kIn,?_⟩) hst hpl
 exact ad7 (us:=.ref a::us) (vs:=.ref a::vs) F hr hb .nil au6 I2 (.cons rfl r) (by rw[List.append_nil];exact q2)
theorem bj2(he:PE X o ta)(hT:∀q∈tab,kT X.prog X.w X.K X.mg X.base k q.1 m q.2)(hr:Room k X.A)
 (ht:eval (.Call (.Attribute o m apos) [] [] pos) X.env=(do
  let ov<-eval o X.env
  standAt apos.atName
  let(f,first)<-holding [ov] (getMethod ov m pl)
  callWith pos f first (backTo pos (starEach [] X.env)) (backToKw pos (keywordEach [] X.env))):=by rfl):
 PE X (.Call (.Attribute o m apos) [] [] pos) (bu6 tab m ta au5):=by
 intro pins s σ H Q I h
 refine PySem.W.methodCall_KW (pl:=pl) (cH (he s σ H _ I h) λu s1 ⟨x,H1,I1,rx,a,C,dx,fs,sp,ex,ea,hq,l,q⟩=>?_) ht
 subst ex
 obtain rfl:u=Value.ref a:=rx
 obtain⟨f,fd,ps,c,hm,F,hb⟩:=(hT _ hq).ex
 refine aq6 I1 ea c hm l ?_
 exact PySem.W.callWith_K0 (first:=[.ref a]) I1.kIn hm.kp (ad7 (us:=[.ref a]) (vs:=[.ref a]) F hr hb .nil au6 I1 (.cons rfl .nil) q)
theorem qK(d:Mak X.prog X.w X.K X.mg X.base k x C sp)(hr:Room (k+1) X.A)(ha:PA X (e::es) t)(hg:Gl X x:=by rfl)
 (hdb:(x==("__debug__":Str))=false:=by decide)(he:starEach (e::es) X.env=(false,eval e X.env)::starEach es X.env:=by rfl)(hpl:(backTo pos (starEach es X.env)).any (·.1)=false:=by rfl):
 PE X (.Call (.Name x p) (e::es) [] pos) (cy2 C sp [] E0 t):=by
 obtain⟨f,fd,ps,M,F,hm,hb⟩:=d.ex
 exact dp8 M F hr hg hm hb .nil au6 ha hdb he hpl
end
end L2
namespace TL
open PySem PySem.Spec PyProof.Rows L2
section
variable {Jn : iO} {K : PySem.W.Frag} {cn : Str → Option Addr} {E : XK}
def tF(n:Nat)(G:List T->Res T)(ts:List T):Res T:=if ts.length=n then match G (frzs ts)with
 |.ok t=>if(cG t||bA ts)=true then .ok t else .no
 |_=>.no else .no
theorem ba5(m:Mo H Z H1 Z1)(r1:Reps K cn H1 Z1 ts vs B)(w:WpE K cn E As H Z [] Q (tF n G ts)):bN K cn n G vs H1 Q E':=by
 unfold tF at w
 split at w
 . next hn=>
   refine⟨by rw[Reps.length ts r1,hn],frzs ts,(λa=>Z1 a\/a∈B),λa h=>?_,Reps.frz ts r1 (λa h=>.inl h) (λa h=>.inr h),?_⟩
   . rcases h with h|h
     . exact m.zi a h
     . obtain⟨o,q,_⟩:=Reps.dom ts r1 a h
       rw[q]
       exact(λz=>nomatch z)
   cases e2:G (frzs ts)with
   |ok t=>
    rw[e2]at w
    intro v H2 Z2 C p
    simp only at w
    split at w
    . next hc=>
      rw[Bool.or_eq_true]at hc
      have bn:∀b∈C,H1 b=none:=λb hb=>(p.bn b hb).resolve_right (λ⟨i,hi,_⟩=>by cases hi)
      by_cases hcl:cG t=true
      . refine w v H2 Z1 C ⟨m.same.trans p.same,m.zz,λa h=>m.zn a h,λa h=>?_,Rep.any t hcl p.rep,p.nd,λb hb z=>?_,λb hb=>.inl (m.same.free (bn b hb))⟩
        . intro q
          exact m.zi a h (p.same.free q)
        . exact m.zi b z (bn b hb)
      . have hno:=hc.resolve_left hcl
        have hB:=Reps.bare ts hno r1
        subst hB
        refine w v H2 Z2 C ⟨m.same.trans p.same,λa h=>p.zz a (.inl (m.zz a h)),λa h=>?_,p.zi,p.rep,p.nd,p.bz,λb hb=>.inl (m.same.free (bn b hb))⟩
        rcases p.zn a h with(h|h)|h
        . exact m.zn a h
        . cases h
        . exact .inr (m.same.free h)
    . exact w.elim
   |ex x=>rw[e2]at w;exact w.elim
   |no=>rw[e2]at w;exact w.elim
 . exact w.elim
theorem ah4:∀(ns:List Str)(vs:List V),gM f ns=none->(ns.zip vs).lookup f=none
 |[],_,_=>by simp
 |n::ns,[],_=>by simp
 |n::ns,w::vs,h=>by
  unfold gM at h
  rw[List.zip_cons_cons,List.lookup_cons]
  by_cases q:n=f
  . rw[if_pos q]at h;cases h
  . rw[if_neg q,Option.map_eq_none_iff]at h
    rw[show(f==n)=false from by rw[beq_eq_false_iff_ne];exact λz=>q z.symm]
    exact ah4 ns vs h
def mR(n:Nat)(m:Str)(tabs:List (Str×(List T->Res T)))(o:Fr->Res T)(r:Fr->Res (List T)):Fr->Res T:=λρ=>(o ρ).bind λt=>match t with
 |.ins _ c ns _=>match gM m ns with
  |none=>match tabs.lookup c with
   |some G=>(r ρ).bind λts=>tF n G (t::ts)
   |none=>.no
  |some _=>.no
 |_=>.no
def at5(K:PySem.W.Frag)(cn:Str->Option Addr)(n:Nat)(tabs:List (Str×(List T->Res T)))(tab:List (Addr×Sp)):Prop:=∀c G C,tabs.lookup c=some G->cn c=some C->(C,bN K cn n G)∈tab
theorem dh3(hT:at5 K cn n tabs tab)(ho:RB Jn K cn E to o)(ha:yI Jn K cn E ta a):RE Jn K cn E [] (bu6 tab m to ta) (mR n m tabs o a):=λAs H Z ρ σ F Q w=>by
 unfold mR at w
 refine ho As H Z ρ σ F _ ?_
 cases e:o ρ with
 |ok t=>
  rw[e]at w
  intro v H1 Z1 B p
  simp only[Res.bind]at w
  split at w
  . next ow c ns us=>
    split at w
    . next hm=>
      split at w
      . next G hG=>
        obtain⟨q,C,dx,vs,D,rfl,hC,eq,_,r⟩:=p.rep.insS
        refine⟨q,C,dx,_,bN K cn n G,rfl,eq,hT c G C hG hC,ah4 ns vs hm,ha As H1 Z1 ρ σ (F.mo p.mo) _ ?_⟩
        cases e2:a ρ with
        |ok ts=>
         rw[e2]at w
         intro ws H2 Z2 D2 m2 r2
         refine ba5 (As:=As) (E:=E) (p.mo.trans m2) (ts:=.ins ow c ns us::ts) (B:=B++D2) ?_ w
         simp only[Reps]
         exact⟨_,ws,B,D2,rfl,rfl,p.rep.same m2.same m2.zz,r2⟩
        |ex x=>rw[e2]at w;exact WpX.ev w p.mo.ev
        |no=>rw[e2]at w;exact w
      . exact w.elim
    . exact w.elim
  . exact w.elim
 |ex x=>rw[e]at w;exact w
 |no=>rw[e]at w;exact w
end
end TL
namespace L2
open PySem PySem.Spec PyProof.Rows
section
variable {X : Cx} (K : PySem.W.Frag)
end
end L2
namespace TL
open PySem PySem.Spec PyProof.Rows L2
section
variable {Jn : iO} {K : PySem.W.Frag} {cn : Str → Option Addr} {E : XK} {As : List (List Addr)} {H : Hp} {Z : Addr → Prop} {Q : VK}
def eo0:List T->Res T
 |[.lst _ ts]=>if bA ts=true then .ok (.tup ts)else .no
 |[.tup ts]=>if bA ts=true then .ok (.tup ts)else .no
 |_=>.no
end
end TL
namespace L2
open PySem PySem.Spec PyProof.Rows
section
variable {X : Cx}
def du5:TS:=λ_ _ _=>False
theorem mJ{st:Stmt}:PS X st du5:=λ_ _ _ _ _ _ h=>h.elim
def cz1:V->List V->Hp->VK->Prop:=λx vs H Q=>∃l xs i y,x=.ref l/\vs=[.int i,y]/\H l=some (.lst xs)/\0<=i/\i.toNat<=xs.length/\xs.length<sizeLine/\Q .non (upd H l (.lst (xs.take i.toNat++y::xs.drop i.toNat)))
def bz5(K:PySem.W.Frag)(n:Nat):V->List V->Hp->VK->Prop:=λx vs H Q=>∃p ys y,x=.ref p/\vs=[y]/\SqL K H p ys/\∃(es:List Bool)(j:Nat),es.length=ys.length/\(∀(j:Nat) z e,ys[j]?=some z->es[j]?=some e->EqD K H n z y e)/\es[j]?=some true/\(∀m,m<j->es[m]?=some false)/\Q (.int j) H
def di2(K:PySem.W.Frag)(n:Nat):R2:=λx y H Q=>rNe x y H Q\/(∃p q b,x=.ref p/\y=.ref q/\EqD K H n x y b/\Q (.bl (!b)) H)
theorem ei2(hu:X.A.units+n<cLine):OpR X (compareOp .NotEq) (di2 X.K n):=by
 intro pins s σ H x y v u Q I rx ry h
 rcases h with h|⟨p,q,b,rfl,rfl,h,hq⟩
 . exact eu5 s σ H x y v u Q I rx ry h
 . cases rx
   cases ry
   have bQ:EP X pins σ Q (.bool (!b)) s:=⟨.bl (!b),H,I,rfl,hq⟩
   cases n with
   |zero=>exact absurd h.1 (λz=>by cases z)
   |succ n=>
    rcases h with⟨h1,_,_⟩|⟨p,q,xs,ys,e1,e2,s1,s2,h⟩|⟨p,q,xs,ys,e1,e2,s1,s2,es,hl,he,rfl⟩
    . exact absurd h1 (λz=>by cases z)
    . cases e1
      cases e2
      obtain⟨its,r1,p1,_⟩:=I.list s1
      obtain⟨jts,r2,p2,_⟩:=I.list s2
      have l1:=r1.length
      have l2:=r2.length
      rcases h with⟨hne,rfl⟩|⟨heq,es,hl,he,rfl⟩
      . exact SeqAt.RcNeAt.lists_lengths p1.isList p2.isList (by simp only[List.size_toArray,bne_iff_ne,ne_eq];omega) (by omega) _ _ _ _ bQ
      . refine SeqAt.RcNeAt.lists (e:=λj=>es.getD j true) p1.isList p2.isList (by simp only[List.size_toArray];omega) (by omega) (λj h1 h2=>?_) _ _ _ _ ?_
        . simp only[List.size_toArray]at h1 h2
          simp only[List.getElem_toArray]
          obtain⟨x,ex,rx⟩:=gJ r1 h1
          obtain⟨y,ey,ry⟩:=gJ r2 h2
          have hj:j<es.length:=by omega
          have eg:es.getD j true=es[j]:=by rw[List.getD_eq_getElem?_getD,List.getElem?_eq_getElem hj];rfl
          rw[eg]
          exact nN I n (by show X.A.units+1+n<cLine;omega) rx ry (he j x y es[j] ex ey (List.getElem?_eq_getElem hj))
        . rw[List.size_toArray,show its.length=es.length by omega,sE]
          exact bQ
    . cases e1
      cases e2
      obtain⟨its,r1,p1,_⟩:=I.tuple s1
      obtain⟨jts,r2,p2,_⟩:=I.tuple s2
      have l1:=r1.length
      have l2:=r2.length
      refine SeqAt.RcNeAt.tuples (e:=λj=>es.getD j true) (show s.heap.IsTuple _ its.toArray from p1) (show s.heap.IsTuple _ jts.toArray from p2) (by omega) (λj h1 h2=>?_) _ _ _ _ ?_
      . simp only[List.size_toArray]at h1 h2
        simp only[List.getElem_toArray]
        obtain⟨x,ex,rx⟩:=gJ r1 h1
        obtain⟨y,ey,ry⟩:=gJ r2 h2
        have hj:j<es.length:=by omega
        have eg:es.getD j true=es[j]:=by rw[List.getD_eq_getElem?_getD,List.getElem?_eq_getElem hj];rfl
        rw[eg]
        exact nN I n (by show X.A.units+1+n<cLine;omega) rx ry (he j x y es[j] ex ey (List.getElem?_eq_getElem hj))
      . simp only[List.size_toArray]
        rw[show min its.length jts.length=es.length by omega,sE,<-l1,<-l2]
        exact bQ
theorem qQ(K:PySem.W.Frag)(hr:Room k X.A)(hn:n<=60:=by decide)(hK:X.K=K:=by rfl):OpR X (compareOp .NotEq) (di2 K n):=by
 subst hK
 exact ei2 (Nat.lt_of_le_of_lt (Nat.add_le_add_left (Nat.le_trans hn (by decide)) _) hr.units)
theorem cr8:MtM X "list.insert" cz1:=by
 intro pins s σ H x vs v us Q I rx rv h
 obtain⟨l,xs,i,y,rfl,rfl,hH,h0,h1,hz,q⟩:=h
 cases rx
 obtain⟨u,u',rfl,ru,ru'⟩:=rv.two
 obtain⟨t,rfl⟩:=ru
 obtain⟨z,its,n,r,hl,e⟩:=I.lstM hH
 have hfit:¬(!Builtin.List.listFitsIndex i)=true:=by
  rw[fitsIndex_both (by omega) (by have:xs.length<2^62:=Nat.lt_trans hz (by decide);omega)]
  decide
 refine call_meets F.slot_list_insert ⟨_,e,rfl⟩ F.entry_list_insert (F.args_list_insert_3 _ _ _) (AutoSeq1.list_insert_list_int_val_1 l its.toArray n i t u' hfit (by rw[List.size_toArray];omega)) ⟨e,?_⟩
 refine⟨.non,_,I.lset (its':=its.take i.toNat++u'::its.drop i.toNat) hH e ?_ ((r.take i.toNat).append (.cons ru' (r.drop i.toNat))) ?_,rfl,q⟩
 . have hn:¬i<0:=by omega
   simp only[hn,if_false,List.size_toArray,Nat.min_eq_left (show i.toNat<=its.length by omega)]
   apply Array.toList_inj.mp
   simp[List.take_append,List.drop_eq_nil_of_le]
   exact List.take_of_length_le (by simp)
 . simp
   omega
theorem da1(hu:X.A.units+n+1<cLine):MtR X "list.index" (bz5 X.K n):=by
 intro pins s σ H x vs v us Q I rx rv h
 obtain⟨p,ys,y,rfl,rfl,hq,es,j,hl,he,hj,hno,q⟩:=h
 cases rx
 obtain⟨u,rfl,ru⟩:=rv.one
 obtain⟨its,r,pl,hz⟩:=I.list hq
 have l1:=r.length
 obtain⟨f,hf,_⟩:=ap7 I r hl he
 have at_:∀(m:Nat)(hm:m<its.length) b,es[m]?=some b->f its[m]=b:=λm hm b eb=>by
  obtain⟨z,ez,rz⟩:=gJ r hm
  obtain⟨z',rz',d⟩:=hf its[m] (List.getElem_mem hm)
  cases rz.inj rz'
  exact EqD.det I n _ _ _ _ d (he m z b ez eb)
 have hjl:j<its.length:=by
  have:=(List.getElem?_eq_some_iff.mp hj).1
  omega
 obtain⟨⟨oc,od,odt,osl⟩,n0,ho,hc,hd,hdt⟩:=pl
 simp only at hc hd hdt
 subst hc hd hdt
 refine call_meets F.slot_list_index ⟨_,ho,rfl⟩ F.entry_list_index (F.args_list_index_2 _ _) (SeqAt.list_indexAt p its.toArray n0 none osl u f j (by simpa using hjl) ?_ ?_ ?_) ⟨ho,λy hy=>?_,?_⟩
 . have:j<2^62:=Nat.lt_of_lt_of_le hjl (by rw[<-l1];exact Nat.le_trans hz (by decide))
   omega
 . simpa using at_ j hjl true hj
 . intro m hm hmj
   simpa using at_ m (by simpa using hm) false (hno m hmj)
 . obtain⟨z,rz,d⟩:=hf y (by simpa using hy)
   exact nN I n (by show X.A.units+1+n<cLine;omega) rz ru d
 . exact⟨.int j,H,I.tok _,⟨_,rfl⟩,q⟩
end
end L2
namespace TL
open PySem PySem.Spec PyProof.Rows L2
section
variable {Jn : iO} {K : PySem.W.Frag} {cn : Str → Option Addr} {E : XK}
def mQ:Fr->bP:=λ_=>.no
theorem dq7:RS Jn K cn E du5 mQ:=λ_ _ _ _ _ _ _ w=>w.elim
def di3(K:PySem.W.Frag)(cn:Str->Option Addr)(r:V->List V->Hp->VK->Prop)(f:List T->List T->Option (List T)):Prop:=
 ∀(H:Hp)(Z:Addr->Prop)(a:Addr)(us ts us':List T)(ws vs:List V)(C0 C:List Addr),H a=some (.lst ws)->Reps K cn H Z us ws C0->Reps K cn H Z ts vs C->(C0++C).Nodup->f us ts=some us'->
  ∃ws' D,Reps K cn H Z us' ws' D/\D.Nodup/\(∀x∈D,x∈C0\/x∈C)/\∀Q:VK,(∀y,Q y (L2.upd H a (.lst ws')))->r (.ref a) vs H Q
def ai2(j:Nat)(mv:List Nat)(f:List T->List T->Option (List T))(d:Fr->Res (List Nat))(e:Fr->Res (List T)):Fr->bP:=λρ=>match ρ[j]? with
 |some (some t0)=>match d ρ with
  |.ok p=>match eQ p t0 with
   |some (.lst true us)=>match e ρ with
    |.ok ts=>match f us ts with
     |some us'=>yW j p us' (kills mv ρ)
     |none=>.no
    |.ex x=>.ex x
    |.no=>.no
   |_=>.no
  |.ex x=>.ex x
  |.no=>.no
 |_=>.no
theorem eh0(hr:di3 K cn r f)(hd:RP Jn K cn E j to d)(he:RA Jn K cn E mv ta e)(hj:mv.contains j=false:=by rfl):RS Jn K cn E (cf4 (tBM K "list" r to ta)) (ai2 j mv f d e):=λAs H Z ρ σ F D w=>by
 unfold ai2 at w
 cases e1:ρ[j]? with
 |none=>rw[e1]at w;exact w.elim
 |some o=>
  rw[e1]at w
  cases o with
  |none=>exact w.elim
  |some t0=>
   obtain⟨v0,e2,r0⟩:=F.sl.get e1
   refine hd As H Z ρ σ F t0 v0 e1 e2 r0 _ ?_
   simp only at w
   cases ed:d ρ with
   |ok p=>
    rw[ed]at w
    intro u v B H1 Z1 m1 hn pl
    simp only[hn]at w
    split at w
    . next us hq=>
      cases hq
      have q:=pl.rep
      simp only[Rep]at q
      obtain⟨a,ws,C0,rfl,rfl,ea,rs⟩:=q
      refine⟨.inl ⟨rfl,ws,SqL.of ea⟩,he As H1 Z1 ρ σ (F.mo m1) _ ?_⟩
      cases ee:e ρ with
      |ok ts=>
       rw[ee]at w
       intro vs H2 Z2 C p2
       simp only at w
       cases ef:f us ts with
       |none=>rw[ef]at w;exact w.elim
       |some us'=>
        rw[ef]at w
        simp only at w
        have pl2:=pl.mo p2.mo.same p2.mo.zz
        have ea2:=p2.mo.same _ _ ea
        have rs2:=rs.same p2.mo.same p2.mo.zz
        have m2:=m1.trans p2.mo
        have F2:=(F.mo m2).kills mv
        have gD:(fR mv As).getD j []=As.getD j []:=zG mv hj As
        have pl3:Plug K cn H2 Z2 t0 v0 ((fR mv As).getD j []) p (.lst true us) (.ref a) (a::C0):=by rw[gD];exact pl2
        have ndB:(a::C0).Nodup:=(lC F.nd j).sublist pl.sub
        have c0A:∀x∈C0,x∈As.getD j []:=λx hx=>pl.sub.mem (List.mem_cons_of_mem _ hx)
        have cOut:∀x∈C,x∉(fR mv As).flatten:=λx hx hA=>by
         rcases p2.bn x hx with z|⟨i,hi,z⟩
         . obtain⟨o,ho,_⟩:=(F.mo m1).sl.dom x (fK hA)
           rw[ho]at z;cases z
         . exact tJ F.nd hi z hA
        have c0In:∀x∈C0,x∈(fR mv As).flatten:=λx hx=>bB (i:=j) (by rw[gD];exact c0A x hx)
        have ndC:(C0++C).Nodup:=by
         rw[List.nodup_append]
         exact⟨(List.nodup_cons.mp ndB).2,p2.nd,λx hx y hy e=>by subst e;exact cOut x hy (c0In x hx)⟩
        obtain⟨ws',D',r',nd',in',hQ⟩:=hr H2 Z2 a us ts us' ws vs C0 C ea2 rs2 p2.rep ndC ef
        refine hQ _ λ_=>?_
        refine bs7 (As:=As) (H:=H) (Z:=Z) (E:=E) F2 (by rw[ap2 mv hj];exact e1) e2 pl3 rfl rfl ea2 (us':=us') (ws':=ws') (C:=D') r' nd' ?_ ?_ ?_ ?_ w
        . intro x hx
          rcases in' x hx with hx|hx
          . exact F2.nz x (c0In x hx)
          . exact p2.bz x hx
        . intro x hx hA
          rcases in' x hx with hx|hx
          . exact hx
          . exact absurd hA (cOut x hx)
        . exact⟨λb o q _=>m2.same b o q,λb hb=>.inl (fK hb),m2.zz,λb h=>(m2.zn b h).imp_right .inr,λb h=>m2.same.free h⟩
        . intro x hx
          rcases in' x hx with hx|hx
          . exact .inl (bB (c0A x hx))
          . rcases p2.bn x hx with z|⟨i,hi,z⟩
            . exact .inr (m1.same.free z)
            . exact .inl (bB z)
      |ex x=>rw[ee]at w;exact WpX.ev w m1.ev
      |no=>rw[ee]at w;exact w.elim
    . exact w.elim
   |ex x=>rw[ed]at w;exact w
   |no=>rw[ed]at w;exact w
def ao5(us:List T):List T->Option (List T)
 |[.lst true zs]=>if us.length+zs.length<=sizeLine then some (us++zs)else none
 |_=>none
def av9(us:List T):List T->Option (List T)
 |[.int i,t]=>if 0<=i/\i.toNat<=us.length/\us.length<sizeLine then some (us.take i.toNat++t::us.drop i.toNat)else none
 |_=>none
def dn0(_:List T):List T->Option (List T)
 |[]=>some []
 |_=>none
theorem ec5:di3 K cn ca1 ao5:=λH Z a us ts us' ws vs C0 C ha r0 r1 nd h=>by
 unfold ao5 at h
 split at h
 . next zs=>
   split at h
   . next hl=>
     cases h
     simp only[Reps]at r1
     obtain⟨v,r',B1,C1,rfl,rfl,ra,rfl,rfl⟩:=r1
     simp only[Rep]at ra
     obtain⟨b,zs',B,rfl,rfl,eb,rz⟩:=ra
     simp only[List.append_nil]at nd⊢
     refine⟨ws++zs',C0++B,Reps.append us r0 rz,nd.sublist ((List.sublist_cons_self b B).append_left C0),λx hx=>(List.mem_append.mp hx).imp_right (List.mem_cons_of_mem _),λQ hQ=>⟨a,b,ws,zs',rfl,rfl,ha,eb,?_,hQ _⟩⟩
     rw[Reps.length us r0,Reps.length zs rz]
     exact hl
   . cases h
 . cases h
theorem Reps.split:∀(n:Nat)(us:List T){ws:List V}{C:List Addr},Reps K cn H Z us ws C->∃C1 C2,C=C1++C2/\Reps K cn H Z (us.take n) (ws.take n) C1/\Reps K cn H Z (us.drop n) (ws.drop n) C2
 |0,us,ws,C,r=>⟨[],C,rfl,by simp[Reps],by simpa using r⟩
 |n+1,[],ws,C,r=>by
  simp only[Reps]at r
  obtain⟨rfl,rfl⟩:=r
  exact⟨[],[],rfl,by simp[Reps],by simp[Reps]⟩
 |n+1,t::us,ws,C,r=>by
  simp only[Reps]at r
  obtain⟨v,r',B1,B2,rfl,rfl,h1,h2⟩:=r
  obtain⟨C1,C2,rfl,a1,a2⟩:=Reps.split n us h2
  refine⟨B1++C1,C2,by simp,?_,by simpa using a2⟩
  simp only[List.take_succ_cons,Reps]
  exact⟨v,r'.take n,B1,C1,rfl,rfl,h1,a1⟩
theorem er4:di3 K cn cz1 av9:=λH Z a us ts us' ws vs C0 C ha r0 r1 nd h=>by
 unfold av9 at h
 split at h
 . next i t=>
   split at h
   . next hl=>
     cases h
     obtain⟨h0,h1,h2⟩:=hl
     simp only[Reps]at r1
     obtain⟨v,r',B1,D1,rfl,rfl,ra,v2,r2,B2,D2,rfl,rfl,rb,rfl,rfl⟩:=r1
     simp only[Rep]at ra
     obtain⟨rfl,rfl⟩:=ra
     obtain⟨C1,C2,rfl,a1,a2⟩:=Reps.split i.toNat us r0
     simp only[List.append_nil,List.nil_append]at nd⊢
     have pm:(C1++(B2++C2)).Perm ((C1++C2)++B2):=by
      rw[List.append_assoc]
      exact List.Perm.append_left C1 List.perm_append_comm
     refine⟨ws.take i.toNat++v2::ws.drop i.toNat,C1++(B2++C2),Reps.append _ a1 ?_,pm.nodup_iff.mpr nd,λx hx=>List.mem_append.mp (pm.mem_iff.mp hx),λQ hQ=>⟨a,ws,i,v2,rfl,rfl,ha,h0,?_,?_,hQ _⟩⟩
     . simp only[Reps]
       exact⟨v2,ws.drop i.toNat,B2,C2,rfl,rfl,rb,a2⟩
     . rw[Reps.length us r0];exact h1
     . rw[Reps.length us r0];exact h2
   . cases h
 . cases h
def frz1:T->T
 |.lst o xs=>.lst o (frzs xs)
 |t=>t
def zO(d:Fr->Res T):Fr->Res T:=λρ=>(d ρ).bind λt=>.ok (frz1 t)
theorem RE.frz1(h:RE Jn K cn E [] te d):RE Jn K cn E [] te (zO d):=λAs H Z ρ σ F Q w=>h As H Z ρ σ F Q (by
 unfold zO at w
 cases e:d ρ with
 |ok t=>
  rw[e]at w
  intro v H' Z' B p
  simp only[Res.bind]at w
  cases t with
  |lst o xs=>
   cases o with
   |true=>
    have q:=p.rep
    simp only[Rep]at q
    obtain⟨a,vs,C,rfl,rfl,ea,rs⟩:=q
    have hC:∀x∈C,H x=none:=λx hx=>(p.bn x (List.mem_cons_of_mem _ hx)).resolve_right (λ⟨i,hi,_⟩=>by cases hi)
    refine w (.ref a) H' (λx=>Z' x\/x∈C) [a] ⟨p.same,λx z=>.inl (p.zz x z),λx z=>?_,λx z=>?_,?_,by simp,λb hb=>?_,λb hb=>?_⟩
    . rcases z with z|z
      . exact p.zn x z
      . exact .inr (hC x z)
    . rcases z with z|z
      . exact p.zi x z
      . obtain⟨o,q,_⟩:=Reps.dom xs rs x z
        rw[q]
        exact(λz=>nomatch z)
    . simp only[TL.frz1,Rep]
      exact⟨a,vs,[],rfl,rfl,ea,Reps.frz xs rs (λ_ z=>.inl z) (λ_ z=>.inr z)⟩
    . have hb:b=a:=by simpa using hb
      subst hb
      rintro(z|z)
      . exact p.bz b List.mem_cons_self z
      . exact(List.nodup_cons.mp p.nd).1 z
    . have hb:b=a:=by simpa using hb
      subst hb
      exact p.bn b List.mem_cons_self
   |false=>
    have q:=p.rep
    simp only[Rep]at q
    obtain⟨a,vs,rfl,rfl,ea,rs⟩:=q
    refine w (.ref a) H' Z' [] ⟨p.same,p.zz,p.zn,p.zi,?_,List.nodup_nil,eH,eH⟩
    simp only[TL.frz1,Rep]
    exact⟨a,vs,rfl,trivial,ea,Reps.frz xs rs (λ_ z=>z) eH⟩
  |_=>exact w v H' Z' B p
 |ex x=>rw[e]at w;exact w
 |no=>rw[e]at w;exact w)
def qE(t u:T):Res T:=if aa0 t=true/\aa0 u=true then match oO cX t u with
 |some b=>.ok (.bl (!b))
 |none=>.no
 else neT t u
theorem ep5:oJ K cn (di2 K cX) qE:=λE As H Z t u x y A B Q zi rt ru w=>by
 unfold qE at w
 split at w
 . next hs=>
   obtain⟨a,rfl⟩:=rt.seqRef hs.1
   obtain⟨b,rfl⟩:=ru.seqRef hs.2
   cases e:oO cX t u with
   |none=>rw[e]at w;exact w.elim
   |some k=>
    rw[e]at w
    exact .inr ⟨a,b,k,rfl,rfl,bb7 cX t u rt ru e,WpE.bl w zi⟩
 . exact .inl (ee7 E As H Z t u x y A B Q zi rt ru w)
def zL:List Bool->Option Nat
 |[]=>none
 |true::_=>some 0
 |false::bs=>(zL bs).map (· +1)
theorem ch1:∀(bs:List Bool){j:Nat},zL bs=some j->bs[j]?=some true/\∀m,m<j->bs[m]?=some false
 |[],_,h=>by cases h
 |true::bs,j,h=>by cases h;exact⟨rfl,λm hm=>by omega⟩
 |false::bs,j,h=>by
  simp only[zL]at h
  cases e:zL bs with
  |none=>rw[e]at h;cases h
  |some k=>
   rw[e]at h
   cases h
   obtain⟨h1,h2⟩:=ch1 bs e
   refine⟨by simpa using h1,λm hm=>?_⟩
   cases m with
   |zero=>rfl
   |succ m=>
    have hm:m+1<k+1:=hm
    simpa using h2 m (by omega)
def xU:T->List T->Res T
 |.lst _ us,[t]=>match sD t us with
  |some es=>match zL es with
   |some j=>.ok (.int j)
   |none=>.no
  |none=>.no
 |_,_=>.no
theorem dj9:RMR K cn "list" (bz5 K cX) xU:=λE As H Z t ts x xs A B Q zi rt r w=>by
 unfold xU at w
 split at w
 . next o us t=>
   obtain⟨a,vs,C,rfl,s,rs,_⟩:=rt.lstSq
   simp only[Reps]at r
   obtain⟨v,r',B1,C1,rfl,rfl,ra,rfl,rfl⟩:=r
   cases e:sD t us with
   |none=>rw[e]at w;exact w.elim
   |some es=>
    rw[e]at w
    simp only at w
    cases e2:zL es with
    |none=>rw[e2]at w;exact w.elim
    |some j=>
     rw[e2]at w
     obtain⟨h1,h2⟩:=ch1 es e2
     obtain⟨g1,g2⟩:=ah3 ra us rs e
     exact⟨a,vs,v,rfl,rfl,s.sq,es,j,g1,g2,h1,h2,w.val zi (jR _)⟩
 . exact w.elim
end
end TL
namespace L2
open PySem PySem.Spec PyProof.Rows
inductive DRows (w:World):List DictEntry->List (Str×Value)->Prop
 |nil:DRows w [] []
 |cons {x:Str} {t:Tok} {v:Value} {es:List DictEntry} {kvs:List (Str×Value)}:DRows w es kvs->DRows w (⟨hashStr w x,.str x t,v⟩::es) ((x,v)::kvs)
structure DicK (w:World) (K:PySem.W.Frag) (a:Addr) (kvs:List (Str×Value)):Prop where
 ex:∃o es ep,K.lookup a=some o/\o.ExactDict/\o.data=.dict es ep/\DRows w es.toList kvs
 nd:(kvs.map (·.1)).Nodup
 sm:(a==sysModules)=false
theorem DRows.keys:∀{es:List DictEntry}{kvs:List (Str×Value)},DRows w es kvs->(∀e∈es,∃k,(strKind P w).is k e.key=true/\e.hash=(strKind P w).hash k)/\Pairs (strKind P w) es kvs
 |_,_,.nil=>⟨λe h=>(nomatch h),.nil⟩
 |_,_,@DRows.cons _ x t v es kvs r=>by
  obtain⟨h1,h2⟩:=DRows.keys (P:=P) r
  refine⟨λe he=>?_,.cons (strKind_is P w x t) rfl h2⟩
  rcases List.mem_cons.mp he with rfl|he
  . exact⟨x,strKind_is P w x t,rfl⟩
  . exact h1 e he
theorem DicK.dictOf{P:Program}{w:World}{K:PySem.W.Frag}{a:Addr}{kvs:List (Str×Value)}{h:Heap}(D:DicK w K a kvs)(X:K.In h):h.DictOf (strKind P w) a kvs:=by
 obtain⟨o,es,ep,l,x,d,r⟩:=D.ex
 obtain⟨h1,h2⟩:=DRows.keys (P:=P) r
 exact⟨o,es,ep,X a o l,x,d,λe he=>h1 e (by simpa using he),h2,D.nd⟩
theorem xF : ∀ (kvs : List (Str × Value)), valueAt kvs x = kvs.lookup x
  | [] => rfl
  | (y, v) :: kvs => by
    unfold valueAt
    rw [List.find?_cons, List.lookup_cons]
    by_cases e : y = x
    · subst e; simp
    · have e1 : (x == y) = false := by simpa using Ne.symm e
      have e2 : decide ((y, v).1 = x) = false := decide_eq_false e
      rw [e1, e2]
      exact xF kvs
structure yY (w:World) (K:PySem.W.Frag) (mg:Str->Option Value) (d:Str) (kvs:List (Str×Value)):Prop where
 ex:∃a,mg d=some (.ref a)/\DicK w K a kvs
def di5(kvs:List (Str×Value))(ty:TE):TE:=λσ H Q=>ty σ H λy H1=>∃x u v,y=.str x/\kvs.lookup x=some u/\RelV v u/\Q v H1
def ej4(neg:Bool)(kvs:List (Str×Value))(ty:TE):TE:=λσ H Q=>ty σ H λy H1=>∃x,y=.str x/\Q (.bl (if neg=true then !(kvs.lookup x).isSome else(kvs.lookup x).isSome)) H1
theorem ds5(r:RelV (.str x) u):(strKind P w).is x u=true:=by
 obtain⟨t,rfl⟩:=r
 exact strKind_is P w x t
def cf2(i:Expr):Prop:=∀ov iv,subscripted i false ov iv=operate [ov,iv] (getItem ov iv)
theorem dz7{prog:Program}{w:World}{A:Around}{E:Value->Shared->Prop}{s:Shared}{env:Env}{value slice:Expr}{pos:Pos}{T id:String}{Q:Value->Shared->Prop}
 (hl:typeLookup (.type T) "__getitem__"=pure (some (.builtin id)))(hs:cf2 slice)
 (h:wpAny (model prog w) A (eval value env) (λo s₁=>wpAny (model prog w) A (eval slice env) (λi s₂=>s₂.TypeIs o T/\wpAny (model prog w) A (getItem o i) Q E s₂) E s₁) E s):
 wpAny (model prog w) A (eval (.Subscript value slice pos) env) Q E s:=by
 refine Subscript_ (wpAny_mono h (λo s₁ h₁=>wpAny_mono h₁ (λi s₂ h₂=>?_) λ_ _ x=>x) λ_ _ x=>x)
 obtain⟨hT,h₂⟩:=h₂
 unfold subscriptTail
 refine wpAny_bind ?_
 rw[getitemInPython_of_ne hT.not_modules]
 refine wpAny_bind (wpAny_specialOf hT hl ?_)
 have bQ:wpAny (model prog w) A (subscripted slice false o i) (λr s₃=>wpAny (model prog w) A (letTemporaryGo value o r>>=λ_=>pure r) Q E s₃) E s₂:=by
  rw[hs o i]
  exact wpAny_operating (wpAny_mono h₂ (λr s₃ h₃=>wpAny_bind (wpAny_letTemporaryGo (wpAny_pure h₃))) λ_ _ x=>x)
 first
  |exact wpAny_pure (wpAny_bind bQ)
  |exact wpAny_bind (wpAny_pure (wpAny_bind bQ))
  |exact wpAny_bind bQ
section
variable {X : Cx}
theorem cr1(hD:yY X.w X.K X.mg d kvs)(hi:PE X i ty)(hg:Gl X d)(hdb:(d==("__debug__":Str))=false)(hs:cf2 i)(I:Inv X pins σ H s)
 (h:ty σ H W)(hW:∀y H1,W y H1->∃x u,y=.str x/\kvs.lookup x=some u/\∀s1,Inv X pins σ H1 s1->R u s1):wpAny (model X.prog X.w) X.A (eval (.Subscript (.Name d p) i pos) X.env) R X.xe s:=by
 obtain⟨a,hm,D⟩:=hD.ex
 refine dz7 PySem.F.slot_dict_getitem.lookup hs (xZ I hg hm ?_ hdb)
 refine cH (hi s σ H _ I h) λiv s2 ⟨y,H2,I2,ry,q⟩=>?_
 obtain⟨x,u,ey,el,q2⟩:=hW y H2 q
 subst ey
 have dd:=D.dictOf (P:=X.prog) I2.kIn
 exact⟨dd.typeIs,wpAny_getItem_of (ds5 ry) dd.mapOf (by rw[xF];exact el) (q2 _ (I2.tok _))⟩
theorem vH(hD:yY X.w X.K X.mg d kvs)(hi:PE X i ty)(hg:Gl X d:=by rfl)(hdb:(d==("__debug__":Str))=false:=by decide)(hs:cf2 i:=by intro _ _;rfl):PE X (.Subscript (.Name d p) i pos) (di5 kvs ty):=by
 intro pins s σ H Q I h
 refine cr1 hD hi hg hdb hs I h λy H1 ⟨x,u,v,ey,el,rv,q⟩=>⟨x,u,ey,el,λs1 I1=>⟨v,H1,I1,rv,q⟩⟩
theorem cf9{d:Str}{kvs:List (Str×Value)}{i:Expr}{ty:TE}{p:Pos}(hD:yY X.w X.K X.mg d kvs)(hi:PE X i ty)(hg:Gl X d:=by rfl)(hdb:(d==("__debug__":Str))=false:=by decide):PC X .NotIn i (.Name d p) (ej4 true kvs ty):=by
 intro pins s σ H Q I h
 obtain⟨a,hm,D⟩:=hD.ex
 refine cH (hi s σ H _ I h) λiv s2 ⟨y,H2,I2,ry,x,ey,q⟩=>xZ I2 hg hm ?_ hdb
 subst ey
 have dd:=D.dictOf (P:=X.prog) I2.kIn
 exact wpAny_notIn_of (ds5 ry) D.sm dd.mapOf ⟨.bl (!(valueAt kvs x).isSome),H2,I2.tok _,rfl,by rw[xF];exact q⟩
def cv6(tab:List (Str×Sp))(ty:TE)(ta:TA):TE:=λσ H Q=>ty σ H λy H1=>∃z sp,y=.str z/\(z,sp)∈tab/\ta σ H1 λvs H2=>sp vs H2 Q E0
structure dk2 (P:Program) (w:World) (K:PySem.W.Frag) (mg:Str->Option Value) (base:Heap) (k:Nat) (d:Str) (tab:List (Str×Sp)):Prop where
 ex:∃kvs,yY w K mg d kvs/\∀q∈tab,∃f fd ps,kvs.lookup q.1=some (.ref f)/\FnOk P w K mg base kA k f fd ps q.2/\Binds K fd ps []/\PySem.W.keepIn K (.ref f)=true
theorem db4(hD:dk2 X.prog X.w X.K X.mg X.base k d tab)(hr:Room k X.A)(hi:PE X i ty)(ha:PA X (e::es) t)(hg:Gl X d:=by rfl)(hdb:(d==("__debug__":Str))=false:=by decide)(hs:cf2 i:=by intro _ _;rfl)
 (hst:starEach (e::es) X.env=(false,eval e X.env)::starEach es X.env:=by rfl)(hpl:(backTo pos (starEach es X.env)).any (·.1)=false:=by rfl):PE X (.Call (.Subscript (.Name d p) i p2) (e::es) [] pos) (cv6 tab ty t):=by
 obtain⟨kvs,D,hT⟩:=hD.ex
 intro pins s σ H Q I h
 refine Call_ (cr1 D hi hg hdb hs I h λy H1 ⟨z,sp,ey,hq,q⟩=>?_)
 obtain⟨f,fd,ps,el,F,hb,hk⟩:=hT _ hq
 refine⟨z,.ref f,ey,el,λs1 I1=>?_⟩
 refine PySem.W.callWith_K (first:=[]) (h₀:=X.base) I.ok.mod.kin hk (cH (ha pins s1 σ H1 _ I1 q) λus s2 ⟨vs,H2,I2,r,q2⟩=>⟨I2.kIn,?_⟩) hst hpl
 exact ad7 (us:=us) (vs:=vs) F hr hb .nil au6 I2 r (by rw[List.append_nil];exact q2)
def df6:List V->Hp->VK->Prop:=λxs H Q=>(∃i,xs=[.int i]/\i.natAbs.log2<1920/\Q (.str (toString i)) H)\/∃x,xs=[.str x]/\Q (.str x) H
theorem cj8:CallR X (.type "str") df6:=by
 intro pins s σ H xs us Q I r h
 rcases h with h|⟨x,rfl,q⟩
 . exact ba6 s σ H xs us Q I r h
 . obtain⟨u,rfl,t,rfl⟩:=ax6 r
   exact PySem.P.str_of_str ⟨.str _,H,I,⟨_,rfl⟩,q⟩
def dp5(K:PySem.W.Frag):List V->Hp->VK->Prop:=λxs H Q=>(∃x T tx b,xs=[x,.ty T]/\TyN K H x tx/\gQ tx T b/\Q (.bl b) H)\/∃T,xs=[.non,.ty T]/\(T="int"\/T="bool"\/T="str"\/T="list"\/T="tuple")/\Q (.bl false) H
theorem jY(K:PySem.W.Frag)(hK:X.K=K:=by rfl):CallR X (.builtin "isinstance") (dp5 K):=by
 subst hK
 intro pins s σ H xs us Q I r h
 rcases h with h|⟨T,rfl,hT,q⟩
 . exact de4 s σ H xs us Q I r h
 . obtain⟨u,v,rfl,rx,rT⟩:=r.two
   obtain rfl:v=Value.type T:=rT
   obtain rfl:u=Value.none:=rx
   have fin2:EP X pins σ Q (.bool false) {s with toks:=s.toks+1}:=⟨.bl false,H,I.tok _,rfl,q⟩
   rcases hT with rfl|rfl|rfl|rfl|rfl
   . exact IsiPair.NoneType_int fin2
   . exact IsiPair.NoneType_bool fin2
   . exact IsiPair.NoneType_str fin2
   . exact IsiPair.NoneType_list fin2
   . exact IsiPair.NoneType_tuple fin2
theorem fX(K:PySem.W.Frag)(he:PE X e ta)(hb:attributeBase e f X.env (eval e X.env)=eval e X.env:=by rfl)(hK:X.K=K:=by rfl):PE X (.Attribute e f pos) (dq4 K ta f):=by
 subst hK
 exact et2 he hb
theorem nY(K:PySem.W.Frag)(ha:PE X o ta)(hv:PE X value tv)(hs:swapsWith value (some (.Attribute o f pos')) pos.line X.env=pure false:=by rfl)(hK:X.K=K:=by rfl):PS X (.Assign [.Attribute o f pos'] value pos) (dr4 K ta tv f):=by
 subst hK
 exact ef4 ha hv hs
theorem cl1(K:PySem.W.Frag)(hm:X.mg "zip"=none)(ha:PA X [a,b] ta)(hg:Gl X "zip":=by rfl)(hs:starEach [a,b] X.env=[(false,eval a X.env),(false,eval b X.env)]:=by rfl)(hs2:starEach [b] X.env=[(false,eval b X.env)]:=by rfl)(hK:X.K=K:=by rfl):
 PI X (.Tuple es n tpos) (.Call (.Name "zip" p) [a,b] [] pos) (dq2 K ta):=by
 subst hK
 exact eh1 hg hm ha hs hs2
theorem dd3(K:PySem.W.Frag)(hm:X.mg "enumerate"=none)(ha:PA X [a] ta)(hg:Gl X "enumerate":=by rfl)(hs:starEach [a] X.env=[(false,eval a X.env)]:=by rfl)(hK:X.K=K:=by rfl):
 PI X (.Tuple es n tpos) (.Call (.Name "enumerate" p) [a] [] pos) (ch4 K ta):=by
 subst hK
 exact dc9 hg hm ha hs
theorem ce7(K:PySem.W.Frag)(hr:Room k X.A)(hn:n<=60:=by decide)(hK:X.K=K:=by rfl):MtR X "list.index" (bz5 K n):=by
 subst hK
 exact da1 (Nat.lt_of_le_of_lt (by omega) hr.units)
end
structure lW (K:PySem.W.Frag) (C:Addr) (m qual:Str) (st:Stmt):Prop where
 ex:∃f fd,de2 K C m f/\Fun K m qual st f fd
structure vL (K:PySem.W.Frag) (mg:Str->Option Value) (x:Str) (C:Addr) (qual:Str) (st:Stmt):Prop where
 ex:∃f fd,Mk K C f/\Fun K "__init__" qual st f fd
 mg:mg x=some (.ref C)
theorem db9{K:PySem.W.Frag}{C f:Addr}{m qual:Str}{st:Stmt}{oc:Value}{od an:Option Addr}{osl:Array (Option Value)}{kV doc pm cdv ct:Value}(a:PySem.W.findIn K (.ref C) m=some (some (.ref f)))(b:PySem.W.isFn K (.ref f)=true)
 (l:K.lookup f=some ⟨oc,od,.func (PySem.W.fnOf m qual (jM st) (dO st) (aO st) .none kV doc pm an cdv ct),osl⟩)(c:PySem.W.codeIn K cdv qual=true)(k:PySem.W.keepIn K (.ref f)=true):lW K C m qual st:=
 ⟨f,_,⟨a,b,k⟩,aj6 l c k⟩
theorem dh7{K:PySem.W.Frag}{h:Heap}{mg:Str->Option Value}(X:K.In h)(G:h.Ns mainGlobals mg){x:Str}{C f:Addr}{qual:Str}{st:Stmt}{oc:Value}{od an:Option Addr}{osl:Array (Option Value)}{kV doc pm cdv ct:Value}(g:PySem.W.nsIn K mainGlobals x=some (some (.ref C)))
 (mk:PySem.W.makesIn K C=true)(a:PySem.W.findIn K (.ref C) "__init__"=some (some (.ref f)))(b:PySem.W.isFn K (.ref f)=true)(kc:PySem.W.keepIn K (.ref C)=true)
 (l:K.lookup f=some ⟨oc,od,.func (PySem.W.fnOf "__init__" qual (jM st) (dO st) (aO st) .none kV doc pm an cdv ct),osl⟩)(c:PySem.W.codeIn K cdv qual=true)(k:PySem.W.keepIn K (.ref f)=true):vL K mg x C qual st:=
 ⟨⟨f,_,⟨mk,a,b,kc⟩,aj6 l c k⟩,PySem.W.mg_of X G g⟩
theorem dt9{K:PySem.W.Frag}{C:Addr}(a:PySem.W.plainGet K C Str.empty=true)(b:PySem.W.hasDictIn K C=true)(c:PySem.W.plainOver K C=true)(d:PySem.W.findIn K (.ref C) "__setattr__"=some (some (.builtin "object.__setattr__"))):Cls K C:=⟨a,b,c,d⟩
theorem at9{w:World}{K:PySem.W.Frag}{h:Heap}{mg:Str->Option Value}(X:K.In h)(G:h.Ns mainGlobals mg){d:Str}{a:Addr}{es:Array DictEntry}{ep:Nat}{kvs:List (Str×Value)}(g:PySem.W.nsIn K mainGlobals d=some (some (.ref a)))
 (l:K.lookup a=some ⟨.type "dict",none,.dict es ep,#[]⟩)(r:DRows w es.toList kvs)(nd:(kvs.map (·.1)).Nodup)(sm:(a==sysModules)=false):yY w K mg d kvs:=
 ⟨a,PySem.W.mg_of X G g,⟨_,es,ep,l,⟨rfl,rfl,rfl⟩,rfl,r⟩,nd,sm⟩
end L2
namespace TL
open PySem PySem.Spec PyProof.Rows L2
section
variable {Jn : iO} {K : PySem.W.Frag} {cn : Str → Option Addr} {E : XK}
def GD(K:PySem.W.Frag)(cn:Str->Option Addr)(kts:List (Str×T))(kvs:List (Str×Value)):Prop:=Paired (λ(p:Str×T)(q:Str×Value)=>p.1=q.1/\∃v,RelV v q.2/\∀H Z,Rep K cn H Z p.2 v []) kts kvs
theorem GD.lookup(g:GD K cn kts kvs)(z:Str):match kts.lookup z with
 |some t=>∃u v,kvs.lookup z=some u/\RelV v u/\∀H Z,Rep K cn H Z t v []
 |none=>kvs.lookup z=none:=by
 unfold GD at g
 induction g with
 |nil=>rfl
 |@cons a b l1 l2 h _ ih=>
  obtain⟨x,t⟩:=a
  obtain⟨y,u⟩:=b
  obtain⟨rfl,v,rv,r⟩:=h
  rw[List.lookup_cons,List.lookup_cons]
  by_cases e:(z==x)=true
  . rw[e];exact⟨u,v,rfl,rv,r⟩
  . rw[Bool.not_eq_true]at e
    rw[e]
    exact ih
def wD(kts:List (Str×T)):T->Res T
 |.str z=>match kts.lookup z with
  |some t=>.ok t
  |none=>.no
 |_=>.no
def bl6(neg:Bool)(kts:List (Str×T)):T->Res T
 |.str z=>.ok (.bl (if neg=true then !(kts.lookup z).isSome else(kts.lookup z).isSome))
 |_=>.no
theorem dj7(g:GD K cn kts kvs)(ha:RB Jn K cn E ty a):RE Jn K cn E [] (di5 kvs ty) (fI (wD kts) a):=λAs H Z ρ σ F Q w=>by
 unfold fI at w
 refine ha As H Z ρ σ F _ ?_
 cases e:a ρ with
 |ok t=>
  rw[e]at w
  intro v H1 Z1 B p
  simp only[Res.bind]at w
  cases t with
  |str z=>
   have hz:=p.rep.str
   subst hz
   have gl:=g.lookup z
   simp only[wD]at w
   cases el:kts.lookup z with
   |none=>rw[el]at w;exact w.elim
   |some t=>
    rw[el]at w gl
    obtain⟨u,v,hl,rv,r⟩:=gl
    exact⟨z,u,v,rfl,hl,rv,WpE.val (WpE.mo F w p.mo) p.zi (r _ _)⟩
  |_=>exact w.elim
 |ex x=>rw[e]at w;exact w
 |no=>rw[e]at w;exact w
theorem dw7(g:GD K cn kts kvs)(ha:RB Jn K cn E ty a):RE Jn K cn E [] (ej4 neg kvs ty) (fI (bl6 neg kts) a):=λAs H Z ρ σ F Q w=>by
 unfold fI at w
 refine ha As H Z ρ σ F _ ?_
 cases e:a ρ with
 |ok t=>
  rw[e]at w
  intro v H1 Z1 B p
  simp only[Res.bind]at w
  cases t with
  |str z=>
   have hz:=p.rep.str
   subst hz
   have gl:=g.lookup z
   have es:(kvs.lookup z).isSome=(kts.lookup z).isSome:=by
    cases el:kts.lookup z with
    |none=>rw[el]at gl;rw[show kvs.lookup z=none from gl];rfl
    |some t=>rw[el]at gl;obtain⟨u,v,hl,_⟩:=gl;rw[hl];rfl
   refine⟨z,rfl,?_⟩
   rw[es]
   exact WpE.bl (WpE.mo F w p.mo) p.zi
  |_=>exact w.elim
 |ex x=>rw[e]at w;exact w
 |no=>rw[e]at w;exact w
def yQ(n:Nat)(tabs:List (Str×(List T->Res T)))(i:Fr->Res T)(r:Fr->Res (List T)):Fr->Res T:=λρ=>(i ρ).bind λt=>match t with
 |.str z=>match tabs.lookup z with
  |some G=>(r ρ).bind λts=>tF n G ts
  |none=>.no
 |_=>.no
def dy5(K:PySem.W.Frag)(cn:Str->Option Addr)(n:Nat)(tabs:List (Str×(List T->Res T))):List (Str×Sp):=tabs.map λp=>(p.1,bN K cn n p.2)
theorem aa8 : ∀ {l : List (Str × α)}, l.lookup z = some a → (z, a) ∈ l
  | [], h => by cases h
  | (y, b) :: l, h => by
    rw [List.lookup_cons] at h
    by_cases e : (z == y) = true
    · rw [e] at h
      cases h
      have : z = y := by simpa using e
      subst this
      exact List.mem_cons_self
    · rw [Bool.not_eq_true] at e
      rw [e] at h
      exact List.mem_cons_of_mem _ (aa8 h)
theorem dv0(hi:RB Jn K cn E ty i)(ha:yI Jn K cn E ta a):RE Jn K cn E [] (cv6 (dy5 K cn n tabs) ty ta) (yQ n tabs i a):=λAs H Z ρ σ F Q w=>by
 unfold yQ at w
 refine hi As H Z ρ σ F _ ?_
 cases e:i ρ with
 |ok t=>
  rw[e]at w
  intro v H1 Z1 B p
  simp only[Res.bind]at w
  cases t with
  |str z=>
   have hz:=p.rep.str
   subst hz
   simp only at w
   cases el:tabs.lookup z with
   |none=>rw[el]at w;exact w.elim
   |some G=>
    rw[el]at w
    refine⟨z,bN K cn n G,rfl,List.mem_map.mpr ⟨(z,G),aa8 el,rfl⟩,?_⟩
    refine ha As H1 Z1 ρ σ (F.mo p.mo) _ ?_
    simp only at w
    cases e2:a ρ with
    |ok ts=>
     rw[e2]at w
     intro vs H2 Z2 B2 m2 r2
     exact ba5 (p.mo.trans m2) r2 w
    |ex x=>rw[e2]at w;exact WpX.ev w p.mo.ev
    |no=>rw[e2]at w;exact w.elim
  |_=>exact w.elim
 |ex x=>rw[e]at w;exact w
 |no=>rw[e]at w;exact w
noncomputable def wM:List T->Res T
 |[.int i]=>gate (i.natAbs.log2<1920) (.ok (.str (toString i)))
 |[.str x]=>.ok (.str x)
 |_=>.no
theorem ej2:uB K cn df6 wM:=λE As H Z ts xs A Q zi r w=>by
 unfold wM at w
 split at w
 . next i=>
   obtain⟨v,rfl,rv⟩:=r.one1
   have:=rv.int
   subst this
   obtain⟨h,w⟩:=w.gate
   exact .inl ⟨i,rfl,h,w.val zi (av1 _)⟩
 . next x=>
   obtain⟨v,rfl,rv⟩:=r.one1
   have:=rv.str
   subst this
   exact .inr ⟨x,rfl,w.val zi (av1 _)⟩
 . exact w.elim
def jH:List T->Res T
 |[.non,.ty n]=>if(n="int"\/n="bool"\/n="str"\/n="list"\/n="tuple")then .ok (.bl false)else .no
 |ts=>vK ts
theorem ek4:uB K cn (dp5 K) jH:=λE As H Z ts xs A Q zi r w=>by
 unfold jH at w
 split at w
 . next n=>
   obtain⟨v,u,B,C,rfl,rfl,rv,ru⟩:=r.two2
   have:=rv.non
   subst this
   simp only[Rep]at ru
   obtain⟨rfl,rfl⟩:=ru
   split at w
   . next hn=>exact .inr ⟨n,rfl,hn,WpE.bl w zi⟩
   . exact w.elim
 . exact .inl (eg5 E As H Z _ xs A Q zi r w)
inductive TupR:List T->List Value->Prop
 |nil:TupR [] []
 |str {x:Str} {t:Tok} {ts:List T} {us:List Value}:TupR ts us->TupR (.str x::ts) (.str x t::us)
 |int {x:Int} {t:Tok} {ts:List T} {us:List Value}:TupR ts us->TupR (.int x::ts) (.int x t::us)
theorem TupR.vals(h:TupR ts us):∃vs,Vals vs us/\∀H Z,Reps K cn H Z ts vs []:=by
 induction h with
 |nil=>exact⟨[],.nil,λ_ _=>Reps.nil⟩
 |@str x t ts us _ ih=>
  obtain⟨vs,h1,h2⟩:=ih
  refine⟨.str x::vs,.cons ⟨t,rfl⟩ h1,λH Z=>?_⟩
  simp only[Reps]
  exact⟨_,_,[],[],rfl,rfl,av1 x,h2 H Z⟩
 |@int x t ts us _ ih=>
  obtain⟨vs,h1,h2⟩:=ih
  refine⟨.int x::vs,.cons ⟨t,rfl⟩ h1,λH Z=>?_⟩
  simp only[Reps]
  exact⟨_,_,[],[],rfl,rfl,jR x,h2 H Z⟩
theorem kQ(l:K.lookup a=some ⟨.type "tuple",oc,.seq us.toArray n,sl⟩)(r:TupR ts us)(hz:us.length<=sizeLine):
 (x,T.tup ts).1=(x,Value.ref a).1/\∃v,RelV v (x,Value.ref a).2/\∀H Z,Rep K cn H Z (x,T.tup ts).2 v []:=by
 obtain⟨vs,h1,h2⟩:=r.vals (K:=K) (cn:=cn)
 refine⟨rfl,.ref a,rfl,λH Z=>?_⟩
 simp only[Rep]
 exact⟨a,vs,rfl,.inr ⟨_,us.toArray,n,l,rfl,rfl,by simpa using hz,by simpa using h1⟩,h2 H Z⟩
theorem eW{P:Program}{w:World}{mg:Str->Option Value}{base:Heap}{C:Addr}{m qual:Str}{st:Stmt}{N ps:List Str}{k:Nat}{d:Fr->bP}(F:lW K C m qual st)(c:Cls K C)(S:aY N ps (aO st))
 (hb:∀(kV doc pm:Value)(an:Option Addr)(cdv ct:Value)(us:List Value),us.length=ps.length->bindArgs (PySem.W.fnOf m qual (jM st) (dO st) (aO st) .none kV doc pm an cdv ct) ⟨us,[]⟩=pure (ps.zip us))
 (hbody:∀(f:Addr)(cdv:Value)(A:Around)(outer:List Env)(s:Shared)(H:Hp)(E:XK),Room k (A.deeper (envOfC qual (aO st) s.heap.objs.size f cdv))->
  ∃t,PSs (mK kA P w K mg base N qual (aO st) f cdv A outer s H E).nox (dO st) t/\RS [] K cn E t d){n:Nat}{G:List T->Res T}(hn:ps.length=n)(hG:∀ts,G ts=bQ (d (cD N.length ts))){k':Nat}(hk:k+1<=k'):kT P w K mg base k' C m (bN K cn n G):=by
 obtain⟨f,fd,M,F⟩:=F.ex
 exact⟨f,fd,ps,c,M,(by0 F S (λcdv A outer s H E hr=>hbody f cdv A outer s H E hr) hn hG).mono hk,F.binds hb⟩
theorem jT{P:Program}{w:World}{mg:Str->Option Value}{base:Heap}{x c:Str}{C:Addr}{qual:Str}{st:Stmt}{N ps:List Str}{k:Nat}{d:Fr->bP}(F:vL K mg x C qual st)(S:aY N ps (aO st))
 (hb:∀(kV doc pm:Value)(an:Option Addr)(cdv ct:Value)(us:List Value),us.length=ps.length->bindArgs (PySem.W.fnOf "__init__" qual (jM st) (dO st) (aO st) .none kV doc pm an cdv ct) ⟨us,[]⟩=pure (ps.zip us))
 (hbody:∀(f y:Addr)(cdv:Value)(A:Around)(outer:List Env)(s:Shared)(H:Hp)(E:XK),Room k (A.deeper (envOfC qual (aO st) s.heap.objs.size f cdv))->
  ∃t,PSs (mK kA P w K mg base N qual (aO st) f cdv A outer s H E).nox (dO st) t/\RS [(0,.ref y)] K cn E t d){n:Nat}{G:List T->Res T}(hn:ps.length=n+1)(hG:∀ts,G ts=jG (d (cD N.length (.ins true c [] []::ts)))):Mak P w K mg base (k+1) x C (spI K cn c n G):=by
 obtain⟨f,fd,M,F'⟩:=F.ex
 exact⟨f,fd,ps,M,dq9 F' S (λy cdv A outer s H E hr=>hbody f y cdv A outer s H E hr) hn hG,F.mg,F'.binds hb⟩
end
end TL
namespace L2
open PySem PySem.Spec PyProof.Rows
theorem dp4:bootBuiltins "set"=some (.type "set"):=by decide+kernel
def ao6(ss:List Str):Nat:=(lP (λi=>ss.getD i Str.empty) ss.length).length
def cs1(K:PySem.W.Frag):List V->Hp->VK->Prop:=λxs H Q=>∃p ss,xs=[.ref p]/\SqL K H p (ss.map V.str)/\ss.length<=1000/\Q (.int (ao6 ss)) H
section
variable {X : Cx}
theorem ck7(K:PySem.W.Frag)(hm:X.mg "len"=none)(hm2:X.mg "set"=none)(ha:PA X [e] t)(hc:X.calm=true:=by rfl)(hg:Gl X "len":=by rfl)(hg2:Gl X "set":=by rfl)(he:starEach [e] X.env=[(false,eval e X.env)]:=by rfl)(hK:X.K=K:=by rfl):
 PE X (.Call (.Name "len" p) [.Call (.Name "set" p2) [e] [] pos2] [] pos) (tCB (cs1 K) t):=by
 subst hK
 intro pins s σ H Q I h
 refine wpAny_Call_Name_kw (nI I hg hm boot_len ?_)
 refine PyProof.Rows.callWith_builtin1 (PyProof.Rows.args_cons ?_) rfl rfl
 refine wpAny_Call_Name_kw (nI I hg2 hm2 dp4 ?_)
 refine PyProof.Rows.callWith_type1 (cH (ha pins s σ H _ I h) λus s1 ⟨vs,H1,I1,r1,q1⟩=>?_) he rfl
 obtain⟨l,ss,rfl,hq,hl,q⟩:=q1
 cases r1 with
 |cons r rr=>
  cases rr
  cases r
  obtain⟨its,rv,pl,_⟩:=I1.list hq
  have e1:its.length=ss.length:=by have:=rv.length;simpa using this.symm
  refine bj3 (val:=λi=>ss.getD i Str.empty) (I.ok.hd hc) pl.isList (λi v hv=>?_) (by rw[List.size_toArray,e1];unfold scanBound;omega) λh' tk hS kk=>PyProof.Rows.args_nil ?_
  . have hi:i<its.length:=by
     have:=(Array.getElem?_eq_some_iff.mp hv).1
     simpa using this
    obtain⟨x,ex,rx⟩:=gJ rv hi
    have ev:v=its[i]:=by
     have:=(Array.getElem?_eq_some_iff.mp hv).2
     simpa using this.symm
    rw[List.getElem?_map]at ex
    cases eg:ss[i]? with
    |none=>rw[eg]at ex;cases ex
    |some z=>
     rw[eg]at ex
     cases ex
     obtain⟨t,et⟩:=rx
     refine⟨t,?_⟩
     rw[ev,et,List.getD_eq_getElem?_getD,eg]
     rfl
  . have I2:Inv X pins σ H1 {s1 with heap:=h',toks:=tk}:=I1.kept λb u eb=>kk b u (Heap.lt_size eb) eb
    obtain⟨o,es,ep,tb,ho,hx,hd,_,_,hs,hf,hn⟩:=hS
    refine call_len_set ho hx hd hf (by have:es.size<4096:=hs;omega) ?_
    refine⟨.int (ao6 ss),H1,I2.tok _,⟨tk+1,?_⟩,q⟩
    rw[hn,List.size_toArray,e1]
    rfl
end
end L2
namespace TL
open PySem PySem.Spec PyProof.Rows L2
section
variable {Jn : iO} {K : PySem.W.Frag} {cn : Str → Option Addr} {E : XK}
def xX:List T->Res T
 |[.lst _ ts]=>match ac0 ts with
  |some ss=>if ss.length<=1000 then .ok (.int (ao6 ss))else .no
  |none=>.no
 |_=>.no
theorem dl2:uB K cn (cs1 K) xX:=λE As H Z ts xs A Q zi r w=>by
 unfold xX at w
 split at w
 . next o ts=>
   obtain⟨v,rfl,rv⟩:=r.one1
   obtain⟨a,vs,C,rfl,s,rs,_⟩:=rv.lstSq
   split at w
   . next ss hs=>
     split at w
     . next hl=>
       have:=bk0 ts rs hs
       subst this
       exact⟨a,ss,rfl,s.sq,hl,w.val zi (jR _)⟩
     . exact w.elim
   . exact w.elim
 . exact w.elim
theorem al7:∀(l acc:List Str),(acc++l).Nodup->l.foldl sT acc=acc++l
 |[],acc,_=>by simp
 |x::l,acc,h=>by
  have hx:x∉acc:=λhx=>by
   rw[List.nodup_append]at h
   exact h.2.2 x hx x List.mem_cons_self rfl
  have hs:sT acc x=acc++[x]:=by
   unfold sT
   rw[if_neg]
   intro q
   rw[List.any_eq_true]at q
   obtain⟨y,hy,e⟩:=q
   have:y=x:=by simpa using e
   subst this
   exact hx hy
  rw[List.foldl_cons,hs,al7 l (acc++[x]) (by simpa using h)]
  simp
theorem co4(l:List Str):(List.range l.length).map (λi=>l.getD i Str.empty)=l:=by
 apply List.ext_getElem?
 intro i
 by_cases h:i<l.length
 . rw[List.getElem?_map,List.getElem?_range h,List.getElem?_eq_getElem h]
   simp[List.getD_eq_getElem?_getD,List.getElem?_eq_getElem h]
 . rw[List.getElem?_eq_none (by simpa using h),List.getElem?_eq_none (by omega)]
theorem bi9(h:ss.Nodup):ao6 ss=ss.length:=by
 unfold ao6 lP
 rw[co4,al7 ss [] (by simpa using h)]
 simp
theorem dz1{ss:List Str}(o:Bool)(h:ss.Nodup)(hl:ss.length<=1000):xX [.lst o (ss.map .str)]=.ok (.int ss.length):=by
 simp only[xX,an2,if_pos hl,bi9 h]
end
end TL
namespace TL
open PySem PySem.Spec PyProof.Rows L2
section
variable {P : Program} {w : World} {K : PySem.W.Frag} {cn : Str → Option Addr} {mg : Str → Option Value} {base : Heap} {k n : Nat}
theorem jI:jU K cn [] f:=λ_ h=>nomatch h
theorem bK(h:cn c=some C)(k:Cls K C)(n:NoAttr K C f)(r:jU K cn cs f):jU K cn (c::cs) f:=λd hd D hD=>by
 rcases List.mem_cons.mp hd with rfl|hd
 . rw[h]at hD
   cases hD
   exact⟨k,n⟩
 . exact r d hd D hD
theorem au4:at5 K cn n [] []:=λc G C h=>by cases h
theorem eX(h:cn c=some C)(r:at5 K cn n tabs tab):at5 K cn n ((c,G)::tabs) ((C,bN K cn n G)::tab):=λd G' D hl hD=>by
 rw[List.lookup_cons]at hl
 by_cases e:(d==c)=true
 . rw[e]at hl
   cases hl
   have:d=c:=by simpa using e
   subst this
   rw[h]at hD
   cases hD
   exact List.mem_cons_self
 . rw[Bool.not_eq_true]at e
   rw[e]at hl
   exact List.mem_cons_of_mem _ (r d G' D hl hD)
theorem av5:∀q∈([]:List (Addr×Sp)),kT P w K mg base k q.1 m q.2:=eH
theorem eV(h:kT P w K mg base k C m sp)(r:∀q∈tab,kT P w K mg base k q.1 m q.2):∀q∈(C,sp)::tab,kT P w K mg base k q.1 m q.2:=λq hq=>by
 rcases List.mem_cons.mp hq with rfl|hq
 . exact h
 . exact r q hq
def MD(P:Program)(w:World)(K:PySem.W.Frag)(mg:Str->Option Value)(base:Heap)(k:Nat)(kvs:List (Str×Value))(tab:List (Str×Sp)):Prop:=∀q∈tab,∃f fd ps,kvs.lookup q.1=some (.ref f)/\FnOk P w K mg base kA k f fd ps q.2/\Binds K fd ps []/\PySem.W.keepIn K (.ref f)=true
theorem ds3:MD P w K mg base k kvs []:=eH
theorem lI(e:kvs.lookup z=mg x)(d:dQ P w K mg base j x ps sp)(h:j<=k)(r:MD P w K mg base k kvs tab):MD P w K mg base k kvs ((z,sp)::tab):=λq hq=>by
 rcases List.mem_cons.mp hq with rfl|hq
 . obtain⟨f,fd,F,hm,hk,hb⟩:=d.ex
   exact⟨f,fd,ps,e.trans hm,F.mono h,hb,hk⟩
 . exact r q hq
theorem dp9(D:yY w K mg d kvs)(r:MD P w K mg base k kvs tab):dk2 P w K mg base k d tab:=⟨kvs,D,r⟩
end
end TL
namespace L2
open PySem PySem.Spec PyProof.Rows
theorem ej5{K:PySem.W.Frag}{h:Heap}{mg:Str->Option Value}{kvs:List (Str×Value)}{z x:Str}{u:Value}(X:K.In h)(G:h.Ns mainGlobals mg)(a:PySem.W.nsIn K mainGlobals x=some (some u))(e:kvs.lookup z=some u):kvs.lookup z=mg x:=e.trans (PySem.W.mg_of X G a).symm
end L2
namespace TL
open PySem PySem.Spec PyProof.Rows L2
theorem ds0(h1:-(2^64)<i)(h2:i<2^64):mulOk i j:=.inl ⟨h1,h2⟩
theorem br0(h1:-(2^64)<j)(h2:j<2^64):mulOk i j:=.inr (.inl ⟨h1,h2⟩)
theorem al9(i:Int):jH [.int i,.ty "int"]=.ok (.bl true):=bn4 i
theorem bg0(i:Int):jH [.int i,.ty "bool"]=.ok (.bl false):=aa7 i
theorem aq9(i:Bool):jH [.bl i,.ty "bool"]=.ok (.bl true):=bs4 i
theorem ba0(i:Bool):jH [.bl i,.ty "int"]=.ok (.bl true):=au7 i
theorem am9(i:List T):jH [.tup i,.ty "tuple"]=.ok (.bl true):=bk4 i
theorem aw9(o:Bool)(i:List T):jH [.lst o i,.ty "list"]=.ok (.bl true):=bo4 o i
theorem bi0:jH [.non,.ty "bool"]=.ok (.bl false):=by with_unfolding_all rfl
theorem ak9:jH [.non,.ty "int"]=.ok (.bl false):=by with_unfolding_all rfl
theorem bz4(i:Int):wM [.int i]=gate (i.natAbs.log2<1920) (.ok (.str (toString i))):=rfl
theorem bw4(x:Str):wM [.str x]=.ok (.str x):=rfl
theorem bg5(i j:Int):qE (.int i) (.int j)=.ok (.bl (!(i==j))):=rfl
theorem bo7(i j:Str):qE (.str i) (.str j)=.ok (.bl (!(i==j))):=rfl
theorem bo6(i j:Bool):qE (.bl i) (.bl j)=.ok (.bl (!(i==j))):=rfl
theorem ar9(o:Bool)(ts:List T):eo0 [.lst o ts]=if bA ts=true then .ok (.tup ts)else .no:=rfl
end TL
namespace TL
open PySem L2
theorem ah5(h:n<=100000):(n<=sizeLine)=True:=eq_true (Nat.le_trans h (by decide))
theorem av4(h:n<=100000):(n<sizeLine)=True:=eq_true (Nat.lt_of_le_of_lt h (by decide))
theorem sG{m:Int}(h:0<=m):∃k:Nat,m=k:=⟨m.toNat,by omega⟩
end TL
namespace TL
open PySem L2
theorem cl4(h1:0<j)(h2:j<1073741824):xK i j:=⟨h1,h2⟩
theorem cj4(h1:0<=j)(h2:j<=1000000)(h3:i.natAbs<2^64):ay0 i j:=⟨h1,h2,h3⟩
end TL
namespace L2
open PySem
theorem ea6(h:PySem.W.findIn K (.ref C) f=some none):NoAttr K C f:=h
end L2
namespace L2
open PySem PySem.Spec PyProof.Rows
section
variable {X : Cx}
theorem bt2(r:Vals xs its):∀k:Nat,Vals (List.replicate k xs).flatten (List.replicate k its).flatten
 |0=>Paired.nil
 |k+1=>by
  rw[List.replicate_succ,List.replicate_succ,List.flatten_cons,List.flatten_cons]
  exact r.append (bt2 r k)
theorem bv4(its:List Value):∀(k:Nat)(acc:List Value),List.foldl (λx1 x2=>x1++x2) acc.toArray (List.replicate k its.toArray)=(acc++(List.replicate k its).flatten).toArray
 |0,acc=>by simp
 |k+1,acc=>by
  rw[List.replicate_succ,List.foldl_cons,List.replicate_succ,List.flatten_cons]
  have e:acc.toArray++its.toArray=(acc++its).toArray:=by simp
  rw[e,bv4 its k,List.append_assoc]
theorem cr7(its:List Value)(k:Nat):List.foldl (λx1 x2=>x1++x2) #[] (List.replicate (if its.toArray.isEmpty=true then 0 else k) its.toArray)=((List.replicate k its).flatten).toArray:=by
 cases its with
 |nil=>
  have e:(List.replicate k ([]:List Value)).flatten=[]:=by
   induction k with
   |zero=>rfl
   |succ k ih=>rw[List.replicate_succ,List.flatten_cons,ih];rfl
  rw[e]
  simp
 |cons v its=>
  have e:=bv4 (v::its) k []
  simp only[List.nil_append]at e
  simpa using e
def dt5(K:PySem.W.Frag):R2:=λx y H Q=>∃l xs k,x=.ref l/\y=.int k/\SqS K H l xs/\-(2^63)<=k/\k<2^63/\xs.length*k.toNat<=2^24/\∀p,H p=none->Q (.ref p) (upd H p (.lst (List.replicate k.toNat xs).flatten))
theorem cj1(K:PySem.W.Frag)(hK:X.K=K:=by rfl):OpR X (binaryOp .Mult) (dt5 K):=by
 subst hK
 intro pins s σ H x y v u Q I rx ry h
 obtain⟨l,xs,k,rfl,rfl,hH,h1,h2,hz,q⟩:=h
 cases rx
 obtain⟨t,rfl⟩:=ry
 obtain⟨its,n,r,e,_⟩:=I.listS hH
 have hl:=r.length
 have hs:its.toArray.size*k.toNat<=2^24:=by rw[List.size_toArray,<-hl];exact hz
 refine wpAny_binaryOp_repeat_ref (T:="list") (U:="int") (by decide) ⟨_,e,rfl⟩ (λs'=>typeIs_int s' k t) noFill_list_mul F.fills_int_mul F.slot_int_rmul repeat_list F.slot_int_index.lookup
  (call_meets F.slot_int_rmul (typeIs_int s k t) F.entry_int_rmul (F.args_int_rmul_2 _ _) (int___rmul___int_list k t l its.toArray n) ⟨e,rfl,⟨_,e,rfl⟩,call_meets F.slot_list_mul ⟨_,e,rfl⟩ F.entry_list_mul (F.args_list_mul_2 _ _)
   (AutoListH.list___mul___list_int_3 l its.toArray n k t (by simp[Builtin.List.listFitsIndex];omega) (by omega) (by simp[Builtin.List.listTooLong,sizeLine];simpa using hs)) ⟨e,?_⟩⟩)
 rw[cr7]
 refine⟨.ref _,_,I.lnew (t':=s.toks) (bt2 r k.toNat) ?_,rfl,q _ I.fresh⟩
 have hm:∀(m:Nat),(List.replicate m xs).flatten.length=m*xs.length:=by intro m;simp
 have hn:=sizeLine_eq
 rw[hm,Nat.mul_comm]
 omega
end
end L2
namespace TL
open PySem L2
section
variable {K : PySem.W.Frag} {cn : Str → Option Addr}
noncomputable def uI:T->T->Res T
 |.lst _ xs,.int k=>gate (bA xs=true/\-(2^63)<=k/\k<2^63/\xs.length*k.toNat<=2^24) (.ok (.lst true (List.replicate k.toNat xs).flatten))
 |_,_=>.no
theorem be2(r:Reps K cn H Z xs vs []):∀k:Nat,Reps K cn H Z (List.replicate k xs).flatten (List.replicate k vs).flatten []
 |0=>Reps.nil
 |k+1=>by
  rw[List.replicate_succ,List.replicate_succ,List.flatten_cons,List.flatten_cons]
  exact Reps.append xs r (be2 r k)
theorem dv9:oJ K cn (dt5 K) uI:=λE As H Z t u x y A B Q zi rt ru w=>by
 unfold uI at w
 split at w
 . next o xs k=>
   obtain⟨h,w⟩:=w.gate
   obtain⟨a,vs,C,rfl,hs,r1,_⟩:=rt.lstSq
   rw[ru.int]
   exact⟨a,vs,k,rfl,rfl,hs,h.2.1,h.2.2.1,by rw[Reps.length xs r1];exact h.2.2.2,λp hp=>w.newL zi (be2 (r1.bareE h.1) k.toNat) p hp⟩
 . exact w.elim
def da3(us:List T):List T->Option (List T)
 |[.int i]=>if 0<=i/\i.toNat<us.length/\us.length<=sizeLine then some (us.eraseIdx i.toNat)else none
 |_=>none
end
end TL
namespace TL
open PySem PySem.Spec PyProof.Rows L2
section
variable {Jn : iO} {K : PySem.W.Frag} {cn : Str → Option Addr} {E : XK}
theorem eq4{mv mw L:List Nat}{te:TE}{tr:TA}{a:Fr->Res T}{r:Fr->Res (List T)}(ha:RE Jn K cn E mv te a)(hr:RA Jn K cn E mw tr r)(e:mv++mw=L)(hd:(mv.all λi=>!mw.contains i)=true):RA Jn K cn E L (vC te tr) (aD a r):=e▸dm9 ha hr hd
theorem ex0{ks ls L:List Nat}{n:Nat}{g:TG}{gs:TGs}{b:T->Fr->Option Fr}{bs:List T->Fr->Option Fr}(h1:RG Jn K cn ks g b)(h2:RGs Jn K cn ls n gs bs)(e:ks++ls=L):RGs Jn K cn L (n+1) (cc5 g gs) (aX b bs):=e▸df3 h1 h2
end
end TL
namespace TL
open PySem PySem.Spec PyProof.Rows L2
section
variable {Jn : iO} {K : PySem.W.Frag} {cn : Str → Option Addr} {E : XK}
theorem Slots.keep(hz:∀a,Z a->Z' a):∀{ρ:Fr}{σ:St}{As:List (List Addr)},Slots K cn H Z ρ σ As->(∀a o,H a=some o->(a∈As.flatten\/Z a\/rC o=true)->H' a=some o)->Slots K cn H' Z' ρ σ As
 |[],_,_,h,_=>h
 |o::ρ,_,_,h,k=>by
  obtain⟨w,σ',A,As',rfl,rfl,h1,h2⟩:=h
  refine⟨w,σ',A,As',rfl,rfl,?_,Slots.keep hz h2 λa o q c=>k a o q (c.imp_left λc=>by rw[List.flatten_cons,List.mem_append];exact .inr c)⟩
  cases o with
  |none=>exact h1
  |some t=>
   obtain⟨v,e,r⟩:=h1
   exact⟨v,e,Rep.keep t r (λa o q c=>k a o q (c.imp_left λc=>by rw[List.flatten_cons,List.mem_append];exact .inl c)) hz⟩
def an3(d:Fr->Res T):Fr->bP:=λρ=>match d ρ with
 |.ok t=>if bS t=true then .rm ρ t else .no
 |.ex x=>.ex x
 |.no=>.no
theorem dg9(he:RB Jn K cn E te d):RS Jn K cn E (dh2 te) (an3 d):=λAs H Z ρ σ F D w=>by
 unfold an3 at w
 refine he As H Z ρ σ F _ ?_
 cases e:d ρ with
 |ok t=>
  rw[e]at w
  intro v H1 Z1 B p
  simp only at w
  split at w
  . next hn=>
    have hB:=Rep.bare t hn p.rep
    subst hB
    exact w v σ As H1 Z1 (F.mo p.mo) p.mo.ev p.rep
  . exact w.elim
 |ex x=>rw[e]at w;exact w
 |no=>rw[e]at w;exact w
def spM(K:PySem.W.Frag)(cn:Str->Option Addr)(G:T->T->T->Res (T×T×T)):Sp:=λvs H Q _=>∃v0 v1 v2,vs=[v0,v1,v2]/\∃t0 t1 t2 Z B1 B2,(∀a,Z a->H a≠none)/\Rep K cn H Z t0 v0 []/\Rep K cn H Z t1 v1 B1/\Rep K cn H Z t2 v2 B2/\(B1++B2).Nodup/\(∀a∈B1++B2,¬Z a)/\
 ∃t u1 u2,G t0 t1 t2=.ok (t,u1,u2)/\∀v H' Z' C1 C2,Ev [B1,B2] H Z [C1,C2] H' Z'->Rep K cn H' Z' t v []->Rep K cn H' Z' u1 v1 C1->Rep K cn H' Z' u2 v2 C2->(C1++C2).Nodup->Q v H'
def ag1:bP->Res (T×T×T)
 |.nx ρ=>match ρ[1]?,ρ[2]? with
  |some (some a),some (some b)=>.ok (.non,a,b)
  |_,_=>.no
 |.rm ρ t=>match ρ[1]?,ρ[2]? with
  |some (some a),some (some b)=>.ok (t,a,b)
  |_,_=>.no
 |_=>.no
theorem dk4 {P : Program} {w : World} {mg : Str → Option Value} {base : Heap} {x qual : Str} {st : Stmt} {f : Addr} {fd : FuncData} {N ps : List Str} {k : Nat} {d : Fr → bP} (F : Fun K x qual st f fd) (S : aY N ps (aO st))
    (hbody : ∀ (v1 v2 : V) (cdv : Value) (A : Around) (outer : List Env) (s : Shared) (H : Hp) (E : XK), Room k (A.deeper (envOfC qual (aO st) s.heap.objs.size f cdv)) →
      ∃ t, PSs (mK kA P w K mg base N qual (aO st) f cdv A outer s H E).nox (dO st) t ∧ RS [(1, v1), (2, v2)] K cn E t d) {G : T → T → T → Res (T × T × T)} (hn : ps.length = 3) (hG : ∀ t0 t1 t2, G t0 t1 t2 = ag1 (d (cD N.length [t0, t1, t2]))) : FnOk P w K mg base kA (k + 1) f fd ps (spM K cn G) := by
  refine F.ok S (fun vs H Q E h => by obtain ⟨_, _, _, rfl, _⟩ := h; rw [hn]; rfl) fun cdv A outer s H vs Q E hr h => ?_
  obtain ⟨v0, v1, v2, rfl, t0, t1, t2, Z, B1, B2, zi, r0, r1, r2, nd, nz, t, u1, u2, eg, w⟩ := h
  obtain ⟨tt, hp, ht⟩ := hbody v1 v2 cdv A outer s H E hr
  refine ⟨tt, hp, ?_⟩
  let m := N.length - 3
  have sl : Slots K cn H Z (cD N.length [t0, t1, t2]) (L2.start N [v0, v1, v2]) ([] :: B1 :: B2 :: List.replicate m []) := by
    unfold cD L2.start
    exact ⟨some v0, _, [], _, rfl, rfl, ⟨_, rfl, r0⟩, some v1, _, B1, _, rfl, rfl, ⟨_, rfl, r1⟩, some v2, _, B2, _, rfl, rfl, ⟨_, rfl, r2⟩, ac1 m⟩
  have fl : ([] :: B1 :: B2 :: List.replicate m []).flatten = B1 ++ B2 := by rw [List.flatten_cons, List.flatten_cons, List.flatten_cons, lJ]; simp
  have fl2 : ∀ C1 C2 : List Addr, [C1, C2].flatten = C1 ++ C2 := fun C1 C2 => by simp
  have F0 : Frm [(1, v1), (2, v2)] K cn H Z (cD N.length [t0, t1, t2]) (L2.start N [v0, v1, v2]) ([] :: B1 :: B2 :: List.replicate m []) :=
    ⟨sl, by rw [fl]; exact nd, by rw [fl]; exact nz, zi, fun p hp => by
      rcases List.mem_cons.mp hp with rfl | hp
      · rfl
      · rw [List.mem_singleton] at hp
        subst hp
        rfl⟩
  refine ht _ H Z _ _ F0 _ ?_
  rw [hG] at eg
  have done : ∀ {ρ : Fr} {σ' : St} {As' : List (List Addr)} {H' : Hp} {Z' : Addr → Prop} {v : V}, Frm [(1, v1), (2, v2)] K cn H' Z' ρ σ' As' → Ev ([] :: B1 :: B2 :: List.replicate m []) H Z As' H' Z' → Rep K cn H' Z' t v [] → ρ[1]? = some (some u1) → ρ[2]? = some (some u2) → Q v H' := by
    intro ρ σ' As' H' Z' v F' ev rv e1 e2
    obtain ⟨x1, s1, q1⟩ := F'.sl.get e1
    obtain ⟨x2, s2, q2⟩ := F'.sl.get e2
    have p1 := F'.pn (1, v1) (List.mem_cons_self)
    have p2 := F'.pn (2, v2) (List.mem_cons_of_mem _ (List.mem_singleton.mpr rfl))
    simp only at p1 p2
    rw [s1] at p1
    rw [s2] at p2
    cases p1
    cases p2
    refine w v H' Z' _ _ ⟨fun a o h q => ev.keep a o h (by rw [fl]; rw [fl2] at q; exact q), fun a ha => ?_, ev.zz, fun a h => ?_, ev.dom⟩ rv q1 q2 ?_
    · rw [fl2, List.mem_append] at ha
      have q := ev.own a (ha.elim bB bB)
      rw [fl] at q
      rw [fl2]
      exact q
    · have q := ev.zn a h
      rw [fl] at q
      rw [fl2]
      exact q
    · rw [List.nodup_append]
      refine ⟨lC F'.nd 1, lC F'.nd 2, fun a ha b hb e => ?_⟩
      subst e
      have := vW F'.nd ha hb
      cases this
  cases ed : d (cD N.length [t0, t1, t2]) with
  | nx ρ =>
    rw [ed] at eg
    intro σ' As' H' Z' F' ev
    simp only [ag1] at eg
    split at eg
    · next a b e1 e2 =>
      cases eg
      exact done F' ev (by simp [Rep]) e1 e2
    · cases eg
  | rm ρ t' =>
    rw [ed] at eg
    intro v σ' As' H' Z' F' ev rv
    simp only [ag1] at eg
    split at eg
    · next a b e1 e2 =>
      cases eg
      exact done F' ev rv e1 e2
    · cases eg
  | rt t => rw [ed] at eg; cases eg
  | ex x => rw [ed] at eg; cases eg
  | bk ρ => rw [ed] at eg; cases eg
  | ct ρ => rw [ed] at eg; cases eg
  | no => rw [ed] at eg; cases eg
theorem ch8{P:Program}{w:World}{mg:Str->Option Value}{base:Heap}{x:Str}{st:Stmt}{N ps:List Str}{k:Nat}{d:Fr->bP}(F:dW K mg x st)(S:aY N ps (aO st))
 (hb:∀(kV doc pm:Value)(an:Option Addr)(cdv ct:Value)(us:List Value),us.length=ps.length->bindArgs (PySem.W.fnOf x x (jM st) (dO st) (aO st) .none kV doc pm an cdv ct) ⟨us,[]⟩=pure (ps.zip us))
 (hbody:∀(v1 v2:V)(f:Addr)(cdv:Value)(A:Around)(outer:List Env)(s:Shared)(H:Hp)(E:XK),Room k (A.deeper (envOfC x (aO st) s.heap.objs.size f cdv))->
  ∃t,PSs (mK kA P w K mg base N x (aO st) f cdv A outer s H E).nox (dO st) t/\RS [(1,v1),(2,v2)] K cn E t d){G:T->T->T->Res (T×T×T)}(hn:ps.length=3)(hG:∀t0 t1 t2,G t0 t1 t2=ag1 (d (cD N.length [t0,t1,t2]))):dQ P w K mg base (k+1) x ps (spM K cn G):=by
 obtain⟨f,fd,F,hm⟩:=F.ex
 exact⟨f,fd,dk4 F S (λv1 v2 cdv A outer s H E hr=>hbody v1 v2 f cdv A outer s H E hr) hn hG,hm,F.kp,F.binds hb⟩
def aw6(G:T->T->T->Res (T×T×T))(j0 j1 j2:Nat)(ρ:Fr):Option (T×T×T):=match ρ[j0]? with
 |some (some t0)=>match ρ[j1]? with
  |some (some t1)=>match ρ[j2]? with
   |some (some t2)=>match G (frz t0) t1 t2 with
    |.ok (t,u1,u2)=>if(cG t&&bS t&&cG u1&&cG u2)=true then some (t,u1,u2)else none
    |_=>none
   |_=>none
  |_=>none
 |_=>none
def yP(i j0 j1 j2:Nat)(G:T->T->T->Res (T×T×T)):Fr->bP:=λρ=>match aw6 G j0 j1 j2 ρ with
 |some (t,u1,u2)=>.nx (((ρ.set j1 (some u1)).set j2 (some u2)).set i (some t))
 |none=>.no
theorem bi2{α:Type}{l:List α}{i:Nat}{x:α}(h:l[i]?=some x):l.set i x=l:=by
 apply List.ext_getElem?
 intro j
 by_cases e:i=j
 . subst e
   rw[List.getElem?_set_self',h]
   rfl
 . rw[List.getElem?_set_ne e]
theorem dg1{i j0 j1 j2:Nat}{G:T->T->T->Res (T×T×T)}(h01:j0≠j1)(h02:j0≠j2)(h12:j1≠j2)(hJ:uK Jn i=true)(h1:uK Jn j1=true)(h2:uK Jn j2=true):RS Jn K cn E (ae9 (cz4 (spM K cn G) (vC (af2 j0) (vC (af2 j1) (vC (af2 j2) au5)))) (ad3 i)) (yP i j0 j1 j2 G):=λAs H Z ρ σ F D w=>by
 unfold yP at w
 cases ec:aw6 G j0 j1 j2 ρ with
 |none=>rw[ec]at w;exact w.elim
 |some q=>
  obtain⟨t,u1,u2⟩:=q
  rw[ec]at w
  unfold aw6 at ec
  split at ec
  . next t0 e0=>
    split at ec
    . next t1 e1=>
      split at ec
      . next t2 e2=>
        split at ec
        . next t' u1' u2' eG=>
          split at ec
          . next hc=>
            cases ec
            simp only[Bool.and_eq_true]at hc
            obtain⟨⟨⟨ct,nt⟩,c1⟩,c2⟩:=hc
            obtain⟨v0,s0,r0⟩:=F.sl.get e0
            obtain⟨v1,s1,r1⟩:=F.sl.get e1
            obtain⟨v2,s2,r2⟩:=F.sl.get e2
            have inF:∀{j:Nat}{a:Addr},a∈As.getD j []->a∈As.flatten:=λh=>bB h
            have dA:∀a∈As.flatten,H a≠none:=λa ha=>by obtain⟨o,q,_⟩:=F.sl.dom a ha;rw[q];exact λz=>nomatch z
            refine⟨v0,s0,v1,s1,v2,s2,v0,v1,v2,rfl,frz t0,t1,t2,(λa=>Z a\/a∈As.getD j0 []),As.getD j1 [],As.getD j2 [],λa h=>h.elim (F.zi a) λh=>dA a (inF h),Rep.frz t0 r0 (λa h=>.inl h) (λa h=>.inr h),r1.same (Same.refl _) (λa h=>.inl h),r2.same (Same.refl _) (λa h=>.inl h),?_,?_,t,u1,u2,eG,?_⟩
            . rw[List.nodup_append]
              refine⟨lC F.nd j1,lC F.nd j2,λa ha b hb e=>?_⟩
              subst e
              exact h12 (vW F.nd ha hb)
            . intro a ha z
              rw[List.mem_append]at ha
              rcases z with z|z
              . exact F.nz a (ha.elim inF inF) z
              . rcases ha with ha|ha
                . exact h01 (vW F.nd z ha)
                . exact h02 (vW F.nd z ha)
            . intro v H' Z' C1 C2 ev rt q1 q2 ndC
              have fl2:∀C1 C2:List Addr,[C1,C2].flatten=C1++C2:=λC1 C2=>by simp
              show D.nx (σ.set i (some v)) H'
              have F1:=(F.kill j1).kill j2
              have out:∀a∈((As.set j1 []).set j2 []).flatten,a∈As.flatten/\a∉As.getD j1 []/\a∉As.getD j2 []:=λa ha=>by
               have m1:a∈(As.set j1 []).flatten:=(eD ha).elim (λq=>nomatch q) id
               have m0:a∈As.flatten:=(eD m1).elim (λq=>nomatch q) id
               refine⟨m0,λh=>?_,λh=>?_⟩
               . exact tJ (mv:=[j1]) F.nd (List.mem_singleton.mpr rfl) h m1
               . refine tJ (mv:=[j2]) (F.kill j1).nd (List.mem_singleton.mpr rfl) (i:=j2) ?_ ha
                 rw[List.getD_eq_getElem?_getD,List.getElem?_set_ne h12,<-List.getD_eq_getElem?_getD]
                 exact h
              have kp:∀a o,H a=some o->(a∈((As.set j1 []).set j2 []).flatten\/Z a\/rC o=true)->H' a=some o:=λa o q c=>ev.keep a o q λhx=>by
               rw[fl2,List.mem_append]at hx
               rcases c with c|c|c
               . exact hx.elim (out a c).2.1 (out a c).2.2
               . exact F.nz a (hx.elim inF inF) c
               . obtain⟨o',q',c'⟩:=F.sl.dom a (hx.elim inF inF)
                 rw[q]at q'
                 cases q'
                 rw[c]at c'
                 cases c'
              have dom':∀a,H a≠none->H' a≠none:=λa h q=>h (ev.dom a q)
              have F2:Frm Jn K cn H' Z ((ρ.set j1 none).set j2 none) σ ((As.set j1 []).set j2 []):=⟨F1.sl.keep (λ_ h=>h) kp,F1.nd,F1.nz,λa h=>dom' a (F.zi a h),F1.pn⟩
              have own:∀a∈C1++C2,(a∈As.getD j1 []\/a∈As.getD j2 [])\/H a=none:=λa ha=>by
               have q:=ev.own a (by rw[fl2];exact ha)
               rw[fl2,List.mem_append]at q
               exact q
              have cz:∀a∈C1++C2,¬Z a:=λa ha z=>by
               rcases own a ha with q|q
               . exact F.nz a (q.elim inF inF) z
               . exact F.zi a z q
              have co:∀a∈C1++C2,a∉((As.set j1 []).set j2 []).flatten:=λa ha hm=>by
               rcases own a ha with q|q
               . exact q.elim (out a hm).2.1 (out a hm).2.2
               . exact dA a (out a hm).1 q
              rw[List.nodup_append]at ndC
              have F3:=F2.set (Rep.any u1 c1 q1) ndC.1 (λb hb=>cz b (List.mem_append_left _ hb)) j1 (λb hb hm=>absurd hm (co b (List.mem_append_left _ hb))) h1
              have F4:=F3.set (Rep.any u2 c2 q2) ndC.2.1 (λb hb=>cz b (List.mem_append_right _ hb)) j2 (λb hb hm=>by
               rcases eD hm with q|q
               . exact absurd rfl (ndC.2.2 b q b hb)
               . exact absurd q (co b (List.mem_append_right _ hb))) h2
              have F5:=F4.set (Rep.any t ct rt) List.nodup_nil eH i eH hJ
              have eσ:((σ.set j1 (some v1)).set j2 (some v2))=σ:=by rw[bi2 s1,bi2 s2]
              rw[eσ]at F5
              have eρ:((((ρ.set j1 none).set j2 none).set j1 (some u1)).set j2 (some u2))=(ρ.set j1 (some u1)).set j2 (some u2):=by
               rw[List.set_comm _ _ h12,List.set_set,List.set_comm _ _ (Ne.symm h12),List.set_set]
              rw[eρ]at F5
              refine w _ _ H' Z F5 ⟨λa o q n=>ev.keep a o q λhx=>?_,λa ha=>?_,λ_ h=>h,λ_ h=>.inl h,ev.dom⟩
              . rw[fl2,List.mem_append]at hx
                exact n (hx.elim inF inF)
              . rcases eD ha with q|q
                . cases q
                . rcases eD q with q|q
                  . rcases own a (List.mem_append_right _ q)with q|q
                    . exact .inl (q.elim inF inF)
                    . exact .inr q
                  . rcases eD q with q|q
                    . rcases own a (List.mem_append_left _ q)with q|q
                      . exact .inl (q.elim inF inF)
                      . exact .inr q
                    . exact .inl (out a q).1
          . cases ec
        . cases ec
      . cases ec
    . cases ec
  . cases ec
end
end TL
namespace L2
open PySem PySem.Spec PyProof.Rows
section
variable {X : Cx}
def dg6(K:PySem.W.Frag):List V->Hp->VK->Prop:=λxs H Q=>∃(p:Addr)(ns:List Int),xs=[.ref p]/\SqL K H p (ns.map V.int)/\Q (.int ns.sum) H
theorem cy9(K:PySem.W.Frag)(hc:X.calm=true:=by rfl)(hK:X.K=K:=by rfl):CallR X (.builtin "sum") (dg6 K):=by
 subst hK
 intro pins s σ H xs us Q I r h
 obtain⟨p,ns,rfl,hp,q⟩:=h
 obtain⟨u,rfl,ru⟩:=r.one
 obtain rfl:u=Value.ref p:=ru
 obtain⟨its,rv,pl,_⟩:=I.list hp
 have hi:IntsAre its ns:=uP rv
 have hl:=pl.isList
 obtain⟨zs,e⟩:=hi.allInts.items
 have hns:ns=zs.toList.map (·.1):=by rw[<-hi.numsOf,<-nums_intItems,<-e]
 rw[e]at hl
 refine sum_intListG (I.ok.hd hc) hl λh' tk t' hk=>?_
 have es:preSum (numAt zs) zs.size=ns.sum:=by
  rw[preSum_eq,List.take_of_length_le (by simp),<-hns]
 rw[es]
 exact⟨.int _,H,I.kept hk,⟨t',rfl⟩,q⟩
def bx7:List V->Hp->VK->Prop:=λxs H Q=>∃n:Int,xs=[.int n]/\0<=n/\n<=16777216/\∀l,H l=none->Q (.ref l) (upd H l (.lst ((List.range n.toNat).map λi=>V.int (i:Nat))))
theorem al4:∀{xs:List V}{us:List Value},xs.length=us.length->(∀(j:Nat) x u,xs[j]?=some x->us[j]?=some u->RelV x u)->Vals xs us
 |[],[],_,_=>.nil
 |x::xs,u::us,h,k=>.cons (k 0 x u rfl rfl) (al4 (by simpa using h) λj y v e1 e2=>k (j+1) y v (by simpa using e1) (by simpa using e2))
theorem cy4(hm:X.mg "list"=none)(hm2:X.mg "range"=none)(ha:PA X [e] t)(hc:X.calm=true:=by rfl)(hg:Gl X "list":=by rfl)(hg2:Gl X "range":=by rfl)(he:starEach [e] X.env=[(false,eval e X.env)]:=by rfl):
 PE X (.Call (.Name "list" p) [.Call (.Name "range" p2) [e] [] pos2] [] pos) (tCB bx7 t):=by
 intro pins s σ H Q I h
 refine wpAny_Call_Name_kw (nI I hg hm iT ?_)
 refine PyProof.Rows.callWith_type1 (PyProof.Rows.args_cons ?_) rfl rfl
 refine wpAny_Call_Name_kw (nI I hg2 hm2 boot_range ?_)
 refine PyProof.Rows.callWith_type1 (cH (ha pins s σ H _ I h) λus s1 ⟨vs,H1,I1,r1,q1⟩=>?_) he rfl
 obtain⟨n,rfl,h0,h1,q⟩:=q1
 cases r1 with
 |cons r rr=>
  cases rr
  obtain⟨tk,rfl⟩:=r
  refine call_range_1 (PyProof.Rows.args_nil ?_)
  have ers:Builtin.Range.rangeSize 0 n 1=((n.toNat:Nat):Int):=by rw[rangeSize_one];split<;>omega
  refine call_list_range (I.ok.hd hc) (IsRange.new ..) (small_one (by omega) (by omega) (by omega) (by omega)) ers (by omega) λh' tk' acc c' hk ho hi=>?_
  have I2:=I1.kept (t':=s1.toks+1+1) (h':=s1.heap.push {cls:=Value.type "range",data:=.fields #[Value.int 0 s1.toks,Value.int n tk,Value.int 1 (s1.toks+1)]}) λb ob q=>Heap.get?_push_of_some _ q
  refine⟨.ref _,_,I2.laid (t':=tk') (o:=.lst ((List.range n.toNat).map λi=>V.int (i:Nat))) hk (Nat.le_refl _) ?_,rfl,q _ (I2.hok.fresh (Nat.le_refl _))⟩
  obtain⟨hs,hv⟩:=hi
  refine⟨by rw[List.length_map,List.length_range];unfold sizeLine;omega,acc.toList,c',al4 (by rw[List.length_map,List.length_range,Array.length_toList,hs]) λj x u e1 e2=>?_,by simpa using ho⟩
  rw[List.getElem?_map]at e1
  cases eg:(List.range n.toNat)[j]? with
  |none=>rw[eg]at e1;cases e1
  |some i=>
   rw[eg]at e1
   cases e1
   have hj:i=j:=by
    have:=List.getElem?_eq_some_iff.mp eg
    obtain⟨hl,e⟩:=this
    rw[List.getElem_range]at e
    exact e.symm
   subst hj
   obtain⟨tt,et⟩:=hv i u (by rw[<-Array.getElem?_toList];exact e2)
   rw[et]
   exact⟨tt,by simp⟩
end
end L2
namespace TL
open PySem L2
section
variable {K : PySem.W.Frag} {cn : Str → Option Addr}
def bd5:List T->Res T
 |[.lst _ ts]=>match zR ts with
  |some ns=>.ok (.int ns.sum)
  |none=>.no
 |_=>.no
theorem ez4:uB K cn (dg6 K) bd5:=λE As H Z ts xs A Q zi r w=>by
 unfold bd5 at w
 split at w
 . next o ts=>
   split at w
   . next ns h=>
     obtain⟨v,rfl,rv⟩:=r.one1
     obtain⟨q,vs,C,rfl,hs,r',_⟩:=rv.lstSq
     have:=xR ts r' h
     subst this
     exact⟨q,ns,rfl,hs.sq,w.val zi (jR _)⟩
   . exact w.elim
 . exact w.elim
noncomputable def at7:List T->Res T
 |[.int n]=>gate (0<=n/\n<=16777216) (.ok (.lst true (((List.range n.toNat).map Int.ofNat).map .int)))
 |_=>.no
theorem eo2:uB K cn bx7 at7:=λE As H Z ts xs A Q zi r w=>by
 unfold at7 at w
 split at w
 . next n=>
   by_cases g:0<=n/\n<=16777216
   . rw[jA g]at w
     rw[r.ints1]
     refine⟨n,rfl,g.1,g.2,λl hl=>?_⟩
     have:=w.newL zi (dx3 _) l hl
     rw[List.map_map]at this
     exact this
   . unfold gate at w
     rw[if_neg g]at w
     exact w.elim
 . exact w.elim
theorem cj3(o:Bool)(ns:List Int):bd5 [.lst o (ns.map .int)]=.ok (.int ns.sum):=by
 simp only[bd5,vV]
theorem bi5(n:Int):at7 [.int n]=gate (0<=n/\n<=16777216) (.ok (.lst true (((List.range n.toNat).map Int.ofNat).map .int))):=rfl
end
end TL

set_option maxHeartbeats 4000000
open TL
local macro_rules | `(tactic| walk_at "gt") => `(tactic| first | assumption | exact ds0 (by decide) (by decide) | exact br0 (by decide) (by decide) | exact cl4 (by decide) (by decide) | exact cj4 (by decide) (by decide) (by decide) | decide | omega | (refine And.intro ?_ ?_; omega; omega))
local macro_rules | `(tactic| walk_at "ev") => `(tactic| simp (disch := walk_at "gt") only [jA,ah5,av4,aP,bF,bI,cP,cv4,iN,bM,aq1,cg2,aB,dC,aQ,aE,fI,nM,oX,dv4,yZ,dIf,bD,eJ,fF,gY,mY,eY,cQ,aD,aJ,bZ,bE,dBM,qM,iL,gU,gS,gN,dR,cK,aj5,df1,cp4,kills,aI,eI,aX,eO,bQ,cD,mF,cY,frz,frzs,bS,bA,cG,cT,ay2,yA,jK,lG,kJ,jL,tV,oK,iA,ad5,eQ,jP,yW,GoW,ay7,ak1,bm5,bf8,aq7,bg8,bh6,bj6,bg7,bs0,bc5,xO,cj5,ct3,cw4,co3,ca3,co5,cg3,ce2,ck2,cm4,ce4,ag5,ae5,aq5,az4,aw4,ch3,cn2,cw5,cb4,cn5,ct2,ct5,cc3,az7,ci4,dl4,dx0,dw2,cs3,bt4,cs2,ct4,ae1,bn4,aa7,bs4,au7,bk4,bo4,cd3,bc6,at6,bu5,bb5,cg4,cr3,ar5,bm6,bi8,az2,ai3,cu4,cq2,ci3,cw3,cu2,cl3,bq4,cx5,co2,cx4,ck4,cv2,cv5,cj2,cn4,ar1,cu5,cr4,ap4,
 al9,bg0,aq9,ba0,am9,aw9,bi0,ak9,bz4,bw4,bg5,bo7,bo6,fI,wD,bl6,al5,ap9,ab0,zO,frz1,jG,mQ,ai2,ao5,av9,dn0,da3,uI,an3,ag1,cj3,bi5,rX,aq4,tF,yQ,ar9,List.length_map,Option.map_some,Option.isSome_some,List.isEmpty_cons,List.isEmpty_nil,Option.isSome_none,List.map_cons,List.map_nil,List.length_cons,List.length_nil,List.replicate_succ,List.replicate_zero,List.cons_append,List.nil_append,List.set_cons_zero,List.set_cons_succ,List.getElem?_cons_zero,List.getElem?_cons_succ,Nat.reduceAdd,Nat.reduceSub,Bool.not_true,Bool.not_false,Bool.and_true,Bool.true_and,Bool.and_false,Bool.false_and,Bool.or_true,Bool.true_or,Bool.or_false,Bool.false_or,if_true,if_false,Bool.false_eq_true,reduceIte,reduceCtorEq,decide_true,decide_false,and_self,and_true,true_and,Bool.and_self, *])
namespace Nk24
open PySem L2 TL
noncomputable section
def dM(i:Nat):Stmt:=PySem.Challenge.pw_inkyears_k24_whole_dating_or_ring.main.body.getD i (.Pass ⟨0,0,0,0⟩)
abbrev kt_NUMBERS:List (Str×T):=[("dark",.tup [.int 0,.int 1000000]),("place",.tup [.int 1,.int 100]),("year",.tup [.int (-4000),.int 4000]),("later",.tup [.int 0,.int 300]),("gap",.tup [.int (-300),.int 300])]
abbrev kt_PARTS:List (Str×T):=[("ink",.tup [.str "letter",.str "ink",.str "dark",.str "dark"]),("reign",.tup [.str "letter",.str "reign",.str "place"]),("under",.tup [.str "letter",.str "reign"]),("between",.tup [.str "letter",.str "year",.str "year"]),("after",.tup [.str "letter",.str "letter"]),("same",.tup [.str "letter",.str "letter"]),("within",.tup [.str "letter",.str "letter",.str "later"]),("apart",.tup [.str "letter",.str "letter",.str "gap",.str "gap"])]
def uF:Fr->bP:=
 (aP (cP (bD (aE ltT (aB 1) (bZ eU (aD (aB 0) aJ)))) (bI [] (aQ (aE aR (aB 0) (aB 1)))) bM)
 (bI [] (dC (.int 0))))
def jF:List T->Res T:=λts=>bQ (uF (cD 2 ts))
def sW:Fr->bP:=
 (aP (bF [] (eY (aD (dC (.str "a")) (aD (dC (.str "ab")) (aD (dC (.str "abc")) (aD (dC (.str "b")) (aD (dC (.str "ba")) (aD (dC (.str "zzzzzzzz")) (aD (dC (.str "zzzzzzzy")) (aD (dC (.str "q")) aJ))))))))) (aI 1))
 (bI [] (aE bR (qM oQ (aB 1) (iL (aE cI (aB 0) (dC (.int 8)))) gU) (qM oQ (aB 1) gU (iL (aE cI (aB 0) (dC (.int 8))))))))
def tG:List T->Res T:=λts=>bQ (sW (cD 2 ts))
def sX:Fr->bP:=
 (aP (bF [] (aE bR (aE bR (aE cI (aB 0) (dC (.int 1000000021))) (aE mL (dC (.int 4099)) (aB 1))) (dC (.int 77))) (aI 0))
 (aP (bF [] (bZ ak3 (aD (aE cI (aE mL (aB 0) (dC (.int 30011))) (dC (.int 2140000027))) (aD (dC (.int 46133)) aJ))) (eI (aX (aI 2) (aX (aI 3) eO))))
 (aP (bF [] (aE bR (aE bR (aE bR (aE mL (aB 2) (aB 3)) (aE mL (dC (.int 6007)) (aB 2))) (aE mL (dC (.int 271)) (aB 3))) (aB 1)) (aI 4))
 (bI [] (aE cI (aE mL (aB 4) (aE bR (aE cI (aB 4) (dC (.int 1009))) (dC (.int 7919)))) (dC (.int 1700000009)))))))
def eT:List T->Res T:=λts=>bQ (sX (cD 5 ts))
def sP:Fr->bP:=
 (aP (bF [] (aE cI (bE 2 jF (aD (aB 0) (aD (dC (.int 0)) aJ))) (aE ah1 (dC (.int 10)) (dC (.int 15)))) (aI 2))
 (aP (bF [] (aQ (aE aR (eY (aD (dC (.int 0)) (aD (dC (.int 1)) (aD (dC (.int 3)) (aD (dC (.int 8)) (aD (dC (.int 20)) (aD (dC (.int 20)) (aD (dC (.int 60)) (aD (dC (.int 300)) aJ))))))))) (aE cI (aB 2) (dC (.int 8))))) (aI 3))
 (aP (bF [] (aQ (aE aR (eY (aD (fI vP (dC (.int 3000))) (aD (aE dD (dC (.int 3000)) (aB 3)) (aD (fI vP (dC (.int 10))) (aD (dC (.int 1400)) aJ))))) (aE cI (aE jJ (aB 2) (dC (.int 8))) (dC (.int 4))))) (aI 4))
 (aP (bF [] (qM oQ (bE 1 tG (aD (aE jJ (aB 2) (dC (.int 32))) aJ)) gU (iL (aE bR (dC (.int 1)) (aE cI (aE jJ (aB 2) (dC (.int 256))) (aB 1))))) (aI 5))
 (aP (bF [] (eY aJ) (aI 6))
 (aP (iN (gN lO (aD (aE bR (dC (.int 2)) (aE cI (bE 2 eT (aD (aB 2) (aD (dC (.int 6)) aJ))) (dC (.int 5)))) aJ)) (aI 7) (aP (bF [] (aE bR (dC (.int 400)) (aE cI (aE jJ (aB 2) (dC (.int 2048))) (dC (.int 9)))) (aI 8))
 (aP (bF [] (eY (aD (aQ (aB 8)) aJ)) (aI 9))
 (aP (iN (gN lO (aD (aE cI (bE 2 eT (aD (aB 2) (aD (aB 7) aJ))) (aE aR (eY (aD (dC (.int 12)) (aD (dC (.int 60)) aJ))) (aE jJ (aE cI (aE jJ (aB 2) (dC (.int 18432))) (dC (.int 4))) (dC (.int 3))))) aJ)) (aI 10) (aP (bF [] (bZ xA (aD (dC (.int 0)) (aD (aE dD (aB 8) (aE cI (bE 2 eT (aD (aB 2) (aD (aE bR (aE mL (dC (.int 10)) (aB 10)) (aB 7)) aJ))) (dC (.int 13)))) aJ))) (aI 8))
 (iA 9 [] cY (aQ (aB 8)))))
 (iA 6 [9] cY (cQ (aD (aQ (aE aR (eY (aD (dC (.str "oak")) (aD (dC (.str "soot")) (aD (dC (.str "oa")) (aD (dC (.str "ink")) (aD (dC (.str "oakoak")) (aD (dC (.str "s")) aJ))))))) (aB 7))) (aD (aB 9) aJ))))))))
 (aP (bF [] (aE bR (aE dD (aB 4) (dC (.int 5))) (aE cI (bE 2 eT (aD (aB 2) (aD (dC (.int 3)) aJ))) (aE bR (aB 3) (dC (.int 9))))) (aI 11))
 (aP (bF [] (eY (aD (cQ (aD (dC (.str "ann")) (aD (aQ (aB 11)) (aD (aE bR (dC (.int 1)) (aE cI (bE 2 eT (aD (aB 2) (aD (dC (.int 4)) aJ))) (dC (.int 30)))) aJ)))) (aD (cQ (aD (dC (.str "anna")) (aD (aE bR (aB 11) (dC (.int 3))) (aD (aE bR (dC (.int 1)) (aE cI (bE 2 eT (aD (aB 2) (aD (dC (.int 5)) aJ))) (dC (.int 100)))) aJ)))) aJ))) (aI 12))
 (aP (iN (gN lO (aD (aE cI (bE 2 eT (aD (aB 2) (aD (dC (.int 7)) aJ))) (dC (.int 7))) aJ)) (aI 7) (aP (bF [] (aE dD (aE bR (aB 11) (aE cI (bE 2 eT (aD (aB 2) (aD (aE bR (dC (.int 8)) (aB 7)) aJ))) (dC (.int 9)))) (dC (.int 4))) (aI 11))
 (ai2 12 [] av9 cY (aD (dC (.int 1)) (aD (cQ (aD (aQ (aE aR (eY (aD (dC (.str "an")) (aD (dC (.str "b")) (aD (dC (.str "annab")) (aD (dC (.str "zz")) (aD (dC (.str "nn")) (aD (dC (.str "a")) aJ))))))) (aB 7))) (aD (aQ (aB 11)) (aD (aE bR (dC (.int 1)) (aE cI (bE 2 eT (aD (aB 2) (aD (aE bR (dC (.int 14)) (aB 7)) aJ))) (dC (.int 60)))) aJ)))) aJ)))))
 (bI [5,6,12] (cQ (aD (aQ (aB 4)) (aD (aE bR (aB 4) (aB 3)) (aD (aB 5) (aD (aB 6) (aD (aB 12) aJ))))))))))))))))
def tE:List T->Res T:=λts=>bQ (sP (cD 13 ts))
def wU:Fr->bP:=
 (aP (bF [] (aE cI (bZ ax4 (aD (aB 0) aJ)) (aE ah1 (dC (.int 10)) (dC (.int 60)))) (aI 2))
 (aP (bF [] (eY aJ) (aI 3))
 (aP (iN (gN lO (aD (aB 1) aJ)) (aI 4) (cP (mY (bD (aE ltT (aB 0) (dC (.int 0)))) (bD (aE geT (aB 0) (aE ah1 (dC (.int 10)) (dC (.int 18)))))) (aP (iA 3 [] cY (aE cI (aB 2) (dC (.int 10007))))
 (bF [] (aE jJ (aB 2) (dC (.int 10007))) (aI 2))) (iA 3 [] cY (bE 2 eT (aD (aE bR (bE 2 eT (aD (aB 0) (aD (aB 4) aJ))) (aB 0)) (aD (aB 4) aJ))))))
 (bI [3] (aB 3)))))
def qA:List T->Res T:=λts=>bQ (wU (cD 5 ts))
def rA:Fr->bP:=
 (bI [] (dR [2] (gS kD (bE 2 qA (aD (aB 0) (aD (bZ eU (aD (aE aR (aB 1) (dC (.int 2))) aJ)) aJ)))) (aI 2) cK (aE bR (aE aR (aB 1) (dC (.int 0))) (aE cI (aB 2) (aE bR (aE dD (aE aR (aB 1) (dC (.int 1))) (aE aR (aB 1) (dC (.int 0)))) (dC (.int 1)))))))
def qI:List T->Res T:=λts=>bQ (rA (cD 3 ts))
def uR:Fr->bP:=
 (aP (bF [] (eY (aD (aQ (aE aR (aE aR (aB 1) (dC (.int 2))) (aB 2))) (aD (aQ (aE aR (aE aR (aB 1) (dC (.int 2))) (aB 3))) aJ))) (aI 4))
 (aP (cP (mY (bD (aE eS (aB 2) (aB 3))) (bD (aE eS (aE cI (aE aR (aB 0) (dC (.int 2))) (dC (.int 2))) (dC (.int 0))))) (aP (bF [] (aE bR (aE dD (aE aR (aB 1) (dC (.int 0))) (dC (.int 30))) (aE cI (aE aR (aB 0) (dC (.int 3))) (aE bR (aE dD (aE aR (aB 1) (dC (.int 1))) (aE aR (aB 1) (dC (.int 0)))) (dC (.int 61))))) (aI 5))
 (aP (bF [] (aE bR (aB 5) (aE cI (aE aR (aB 0) (dC (.int 4))) (dC (.int 40)))) (aI 6))
 (bI [] (cQ (aD (dC (.str "between")) (aD (aE bR (qM oQ (aB 4) gU (iL (dC (.int 1)))) (eY (aD (aQ (aB 5)) (aD (aQ (aB 6)) aJ)))) (aD (cQ (aD (aQ (aB 2)) aJ)) (aD (cQ (aD (aQ (aB 5)) (aD (aQ (aB 6)) aJ))) aJ)))))))) bM)
 (aP (bF [] (aE dD (aE cI (aE aR (aB 0) (dC (.int 3))) (dC (.int 601))) (dC (.int 300))) (aI 5))
 (aP (bF [] (bZ uA (aD (dC (.int 300)) (aD (aE bR (aB 5) (aE cI (aE aR (aB 0) (dC (.int 4))) (dC (.int 40)))) aJ))) (aI 6))
 (bI [] (cQ (aD (dC (.str "apart")) (aD (aE bR (aB 4) (eY (aD (aQ (aB 5)) (aD (aQ (aB 6)) aJ)))) (aD (cQ (aD (aQ (aB 2)) (aD (aQ (aB 3)) aJ))) (aD (cQ (aD (aQ (aB 5)) (aD (aQ (aB 6)) aJ))) aJ))))))))))
def rE:List T->Res T:=λts=>bQ (uR (cD 7 ts))
def qY:Fr->bP:=
 (aP (bF [] (aQ (aE aR (aE aR (aB 1) (dC (.int 2))) (aB 2))) (aI 4))
 (aP (bF [] (aE jJ (aB 0) (dC (.int 4))) (aI 5))
 (aP (cP (bD (aE eS (aE cI (aB 0) (dC (.int 4))) (dC (.int 0)))) (aP (bF [] (aQ (aE aR (aE aR (aB 1) (dC (.int 3))) (aE cI (aB 5) (bZ eU (aD (aE aR (aB 1) (dC (.int 3))) aJ))))) (eI (aX (aI 6) (aX (aI 7) eO))))
 (aP (bF [] (aE cI (aE jJ (aB 5) (dC (.int 2))) (dC (.int 5))) (aI 8))
 (aP (bF [] (aQ (aE aR (aB 7) (bZ uA (aD (aE dD (aE aR (aB 1) (dC (.int 1))) (aB 3)) (aD (aE dD (bZ eU (aD (aB 7) aJ)) (dC (.int 1))) aJ))))) (aI 9))
 (aP (bF [] (bZ xA (aD (dC (.int 0)) (aD (aE dD (aE bR (aB 9) (aE cI (aE jJ (aB 5) (dC (.int 10))) (aE bR (aE mL (dC (.int 2)) (aB 8)) (dC (.int 1))))) (aB 8)) aJ))) (aI 9))
 (aP (bF [] (eY aJ) (aI 10))
 (aP (iN (gN lO (aD (aE bR (aE dD (aE aR (aB 1) (dC (.int 1))) (aE aR (aB 1) (dC (.int 0)))) (dC (.int 1))) aJ)) (aI 11) (cP (bD (aE qX (bZ ax4 (aD (aE dD (aE aR (aB 7) (bZ uA (aD (aB 11) (aD (aE dD (bZ eU (aD (aB 7) aJ)) (dC (.int 1))) aJ)))) (aB 9)) aJ)) (aB 8))) (iA 10 [] cY (aQ (aB 11))) bM))
 (bI [] (cQ (aD (dC (.str "ink")) (aD (eY (aD (aQ (aB 4)) (aD (aQ (aB 6)) (aD (aQ (aB 9)) (aD (aQ (aB 8)) aJ))))) (aD (cQ (aD (aQ (aB 2)) aJ)) (aD (cQ (aD (aE dD (aE aR (aB 1) (dC (.int 1))) (aE aR (aB 10) (fI vP (dC (.int 1))))) (aD (aE dD (aE aR (aB 1) (dC (.int 1))) (aE aR (aB 10) (dC (.int 0)))) aJ))) aJ)))))))))))) bM)
 (aP (bF [] (aE cI (aE jJ (aB 5) (dC (.int 2))) (bZ eU (aD (aE aR (aB 1) (dC (.int 4))) aJ))) (aI 12))
 (aP (iN (gS uC (aj5 (aE bR (qM oQ (aE aR (aB 1) (dC (.int 4))) (iL (aB 12)) gU) (qM oQ (aE aR (aB 1) (dC (.int 4))) gU (iL (aB 12)))))) (eI (aX (aI 13) (aX (aI 14) (aX (aI 15) eO)))) (cP (gY (bD (aE eS (aE cI (aB 0) (dC (.int 4))) (dC (.int 1)))) (bD (nM qX ltT (aB 14) (aB 3) (aE bR (aB 14) (aB 15))))) (aP (cP (bD (aE eS (aE cI (aB 5) (dC (.int 2))) (dC (.int 0)))) (bI [] (cQ (aD (dC (.str "reign")) (aD (eY (aD (aQ (aB 4)) (aD (aQ (aB 13)) (aD (aE bR (aE dD (aB 3) (aB 14)) (dC (.int 1))) aJ)))) (aD (cQ (aD (aQ (aB 2)) aJ)) (aD (cQ (aD (aQ (aB 3)) (aD (aQ (aB 3)) aJ))) aJ)))))) bM)
 (bI [] (cQ (aD (dC (.str "under")) (aD (eY (aD (aQ (aB 4)) (aD (aQ (aB 13)) aJ))) (aD (cQ (aD (aQ (aB 2)) aJ)) (aD (cQ (aD (aQ (aB 14)) (aD (aE dD (aE bR (aB 14) (aB 15)) (dC (.int 1))) aJ))) aJ))))))) bM))
 (aP (bF [] (bZ xA (aD (fI vP (dC (.int 4000))) (aD (aE dD (aB 3) (aE cI (aB 5) (dC (.int 9)))) aJ))) (aI 16))
 (aP (bF [] (bZ uA (aD (dC (.int 4000)) (aD (aE bR (aB 3) (aE cI (aE jJ (aB 5) (dC (.int 9))) (dC (.int 9)))) aJ))) (aI 17))
 (bI [] (cQ (aD (dC (.str "between")) (aD (eY (aD (aQ (aB 4)) (aD (aQ (aB 16)) (aD (aQ (aB 17)) aJ)))) (aD (cQ (aD (aQ (aB 2)) aJ)) (aD (cQ (aD (aQ (aB 16)) (aD (aQ (aB 17)) aJ))) aJ)))))))))))))
def nL:List T->Res T:=λts=>bQ (qY (cD 18 ts))
def qJ:Fr->bP:=
 (aP (bF [] (dR [9] (gS kD (aB 2)) (aI 9) cK (aQ (aE aR (aE aR (aB 1) (dC (.int 2))) (aB 9)))) (aI 4))
 (aP (bF [] (aE jJ (aB 0) (dC (.int 4))) (aI 5))
 (aP (cP (gY (bD (aE eS (aB 3) (dC (.int 0)))) (bD (aE eS (aE cI (aB 0) (dC (.int 4))) (dC (.int 0))))) (bI [4] (cQ (aD (dC (.str "same")) (aD (aB 4) (aD (aQ (aB 2)) (aD (cQ (aD (dC (.int 0)) (aD (dC (.int 0)) aJ))) aJ)))))) bM)
 (aP (cP (gY (bD (aE gtT (aB 3) (dC (.int 0)))) (bD (aE ltT (aE cI (aB 0) (dC (.int 4))) (dC (.int 2))))) (bI [4] (cQ (aD (dC (.str "after")) (aD (aB 4) (aD (aQ (aB 2)) (aD (cQ (aD (dC (.int 1)) (aD (dC .non) aJ))) aJ)))))) bM)
 (aP (cP (gY (bD (aE geT (aB 3) (dC (.int 0)))) (bD (aE eS (aE cI (aB 0) (dC (.int 4))) (dC (.int 2))))) (aP (bF [] (bZ uA (aD (dC (.int 300)) (aD (aE bR (aB 3) (aE cI (aB 5) (dC (.int 4)))) aJ))) (aI 6))
 (bI [] (cQ (aD (dC (.str "within")) (aD (aE bR (aB 4) (eY (aD (aQ (aB 6)) aJ))) (aD (aQ (aB 2)) (aD (cQ (aD (dC (.int 0)) (aD (aQ (aB 6)) aJ))) aJ))))))) bM)
 (aP (bF [] (bZ xA (aD (fI vP (dC (.int 300))) (aD (aE dD (aB 3) (aE cI (aB 5) (dC (.int 6)))) aJ))) (aI 7))
 (aP (bF [] (bZ uA (aD (dC (.int 300)) (aD (aE bR (aB 3) (aE cI (aE jJ (aB 5) (dC (.int 6))) (dC (.int 6)))) aJ))) (aI 8))
 (bI [] (cQ (aD (dC (.str "apart")) (aD (aE bR (aB 4) (eY (aD (aQ (aB 7)) (aD (aQ (aB 8)) aJ)))) (aD (aQ (aB 2)) (aD (cQ (aD (aQ (aB 7)) (aD (aQ (aB 8)) aJ))) aJ)))))))))))))
def mV:List T->Res T:=λts=>bQ (qJ (cD 10 ts))
def pD:Fr->bP:=
 (aP (bF [] (bZ eU (aD (aE aR (aB 1) (dC (.int 2))) aJ)) (aI 4))
 (aP (bF [] (aE dD (aE aR (aB 1) (dC (.int 1))) (aE aR (aB 1) (dC (.int 0)))) (aI 5))
 (aP (bF [] (eY aJ) (aI 6))
 (aP (iN (gS uC (aB 0)) (aI 7) (aP (bF [] (bE 2 qA (aD (aB 7) (aD (dC (.int 6)) aJ))) (aI 8))
 (aP (bF [] (aE cI (aE aR (aB 8) (dC (.int 0))) (aB 4)) (aI 9))
 (aP (bF [] (bZ jQ (aD (aB 3) aJ)) (aI 10))
 (aP (cP (gY (eJ (aB 2)) (bD (aE eS (aE cI (aE aR (aB 8) (dC (.int 1))) (dC (.int 3))) (dC (.int 0))))) (bF [] (dR [12] (gN lO (aD (aB 4) aJ)) (aI 12) cK (aE bR (aE aR (aB 1) (dC (.int 0))) (aE cI (aE bR (aE aR (aB 8) (dC (.int 4))) (aE mL (aE mL (dC (.int 7)) (aE aR (aB 8) (dC (.int 5)))) (aB 12))) (aE bR (aB 5) (dC (.int 1)))))) (aI 10)) bM)
 (aP (bF [] (aE cI (aE bR (aE bR (aB 9) (dC (.int 1))) (aE cI (aE jJ (aE aR (aB 8) (dC (.int 1))) (dC (.int 3))) (bZ xA (aD (dC (.int 1)) (aD (aE dD (aB 4) (dC (.int 1))) aJ))))) (aB 4)) (aI 11))
 (cP (gY (eJ (aB 2)) (bD (aE eS (aE cI (aE aR (aB 8) (dC (.int 5))) (dC (.int 8))) (dC (.int 5))))) (iA 6 [] cY (bE 4 rE (aD (aB 8) (aD (aB 1) (aD (aB 9) (aD (aB 11) aJ)))))) (cP (mY (bD (aE eS (aB 4) (dC (.int 1)))) (bD (aE ltT (aE cI (aE aR (aB 8) (dC (.int 2))) (dC (.int 5))) (dC (.int 2))))) (iA 6 [] cY (bE 4 nL (aD (aE aR (aB 8) (dC (.int 3))) (aD (aB 1) (aD (aB 9) (aD (aE aR (aB 10) (aB 9)) aJ)))))) (iA 6 [] cY (bE 4 mV (aD (aE aR (aB 8) (dC (.int 3))) (aD (aB 1) (aD (cQ (aD (aQ (aB 9)) (aD (aQ (aB 11)) aJ))) (aD (aE dD (aE aR (aB 10) (aB 9)) (aE aR (aB 10) (aB 11))) aJ))))))))))))))
 (bI [6] (aB 6))))))
def pL:List T->Res T:=λts=>bQ (pD (cD 13 ts))
def vB:Fr->bP:=
 (bI [] (oX (bZ jH (aD (aB 0) (aD (dC (.ty "int")) aJ))) (yZ (bZ jH (aD (aB 0) (aD (dC (.ty "bool")) aJ))))))
def vA:List T->Res T:=λts=>bQ (vB (cD 1 ts))
def mM:Fr->bP:=
 (bI [] (oX (bE 1 vA (aD (aB 0) aJ)) (nM qX qX (aB 1) (aB 0) (aB 2))))
def dJ:List T->Res T:=λts=>bQ (mM (cD 3 ts))
def sS:Fr->bP:=
 (aP (cP (fF (eJ (bE 3 dJ (aD (aB 0) (aD (fI vP (dC (.int 3000))) (aD (dC (.int 3000)) aJ)))))) (bI [] (dC (.bl false))) bM)
 (aP (cP (fF (eJ (bE 3 dJ (aD (aB 1) (aD (fI vP (dC (.int 3000))) (aD (dC (.int 3000)) aJ)))))) (bI [] (dC (.bl false))) bM)
 (bI [] (nM qX qX (dC (.int 0)) (aE dD (aB 1) (aB 0)) (dC (.int 300))))))
def sZ:List T->Res T:=λts=>bQ (sS (cD 2 ts))
def rQ:Fr->bP:=
 (bI [] (oX (nM qX qX (dC (.int 1)) (bZ eU (aD (aB 0) aJ)) (aB 2)) (bZ (kU false) (aD (dR [3] (gS kD (aB 0)) (aI 3) cK (aE (inT false) (aB 3) (aB 1))) aJ))))
def rO:List T->Res T:=λts=>bQ (rQ (cD 4 ts))
def wP:Fr->bP:=
 (bI [] (bE 3 rO (aD (aB 0) (aD (dC (.str "abcdefghijklmnopqrstuvwxyz")) (aD (dC (.int 8)) aJ)))))
def tR:List T->Res T:=λts=>bQ (wP (cD 1 ts))
def sV:Fr->bP:=
 (aP (cP (fF (bD (nM qX qX (aB 1) (bZ eU (aD (aB 0) aJ)) (aB 2)))) (bI [] (dC (.bl false))) bM)
 (bI [] (oX (bZ (kU false) (aD (dR [3] (gS kD (aB 0)) (aI 3) cK (bE 1 tR (aD (aB 3) aJ))) aJ)) (aE eS (bZ xX (aD (aB 0) aJ)) (bZ eU (aD (aB 0) aJ))))))
def mI:List T->Res T:=λts=>bQ (sV (cD 4 ts))
def uS:Fr->bP:=
 (aP (cP (fF (bD (nM qX qX (dC (.int 1)) (bZ eU (aD (aB 0) aJ)) (dC (.int 60))))) (bI [] (dC (.bl false))) bM)
 (aP (cP (fF (eJ (bZ (kU false) (aD (dR [1] (gS kD (aB 0)) (aI 1) cK (bE 3 dJ (aD (aB 1) (aD (dC (.int 0)) (aD (dC (.int 1000000)) aJ))))) aJ)))) (bI [] (dC (.bl false))) bM)
 (bI [] (bZ (kU false) (aD (dR [2] (gN cd5 (aD (dC (.int 1)) (aD (bZ eU (aD (aB 0) aJ)) aJ))) (aI 2) cK (aE qX (aE aR (aB 0) (aB 2)) (aE aR (aB 0) (aE dD (aB 2) (dC (.int 1)))))) aJ)))))
def rP:List T->Res T:=λts=>bQ (uS (cD 3 ts))
def vD:Fr->bP:=
 (aP (cP (fF (eJ (bE 3 mI (aD (dR [1,2] (gS kD (aB 0)) (eI (aX (aI 1) (aX (aI 2) eO))) cK (aQ (aB 1))) (aD (dC (.int 0)) (aD (dC (.int 6)) aJ)))))) (bI [] (dC (.bl false))) bM)
 (bI [] (bZ (kU false) (aD (dR [1,2] (gS kD (aB 0)) (eI (aX (aI 1) (aX (aI 2) eO))) cK (bE 1 rP (aD (aB 2) aJ))) aJ))))
def uQ:List T->Res T:=λts=>bQ (vD (cD 3 ts))
def uT:Fr->bP:=
 (bI [] (oX (bE 3 dJ (aD (aB 0) (aD (fI vP (dC (.int 4000))) (aD (dC (.int 4000)) aJ)))) (bE 3 dJ (aD (aB 1) (aD (dC (.int 1)) (aD (dC (.int 100)) aJ))))))
def rS:List T->Res T:=λts=>bQ (uT (cD 2 ts))
def rH:Fr->bP:=
 (aP (cP (fF (eJ (bE 3 mI (aD (dR [1,2,3] (gS kD (aB 0)) (eI (aX (aI 1) (aX (aI 2) (aX (aI 3) eO)))) cK (aQ (aB 1))) (aD (dC (.int 0)) (aD (dC (.int 8)) aJ)))))) (bI [] (dC (.bl false))) bM)
 (bI [] (bZ (kU false) (aD (dR [1,2,3] (gS kD (aB 0)) (eI (aX (aI 1) (aX (aI 2) (aX (aI 3) eO)))) cK (bE 2 rS (aD (aB 2) (aD (aB 3) aJ)))) aJ))))
def qS:List T->Res T:=λts=>bQ (rH (cD 4 ts))
def kP:Fr->bP:=
 (aP (cP (fF (eJ (bE 2 sZ (aD (aB 1) (aD (aB 2) aJ))))) mQ bM)
 (aP (cP (fF (eJ (bE 3 mI (aD (aB 3) (aD (dC (.int 1)) (aD (dC (.int 8)) aJ)))))) mQ bM)
 (aP (cP (fF (eJ (bE 1 uQ (aD (aB 4) aJ)))) mQ bM)
 (aP (cP (fF (eJ (bE 1 qS (aD (aB 5) aJ)))) mQ bM)
 (aP (rX 0 [] ["Archive"] "first" (aQ (aB 1)) cY)
 (aP (rX 0 [] ["Archive"] "present" (aQ (aB 2)) cY)
 (aP (rX 0 [] ["Archive"] "letters" (bZ jQ (aD (aB 3) aJ)) cY)
 (aP (rX 0 [] ["Archive"] "inks" (dR [6,7] (gS kD (aB 4)) (eI (aX (aI 6) (aX (aI 7) eO))) cK (cQ (aD (aQ (aB 6)) (aD (bZ jQ (aD (aB 7) aJ)) aJ)))) cY)
 (rX 0 [] ["Archive"] "reigns" (dR [6,8,9] (gS kD (aB 5)) (eI (aX (aI 6) (aX (aI 8) (aX (aI 9) eO)))) cK (cQ (aD (aQ (aB 6)) (aD (aQ (aB 8)) (aD (aQ (aB 9)) aJ))))) cY)))))))))
def rN:List T->Res T:=λts=>jG (kP (cD 10 (.ins true "Archive" [] []::ts)))
def pA:Fr->bP:=
 (aP (bF [] (dR [2,3] (gS kD (aE aR (aB 0) (dC (.int 3)))) (eI (aX (aI 2) (aX (aI 3) eO))) cK (cQ (aD (aQ (aB 2)) (aD (bZ jQ (aD (aB 3) aJ)) aJ)))) (aI 1))
 (bI [] (bE 5 rN (aD (aE aR (aB 0) (dC (.int 0))) (aD (aE aR (aB 0) (dC (.int 1))) (aD (bZ jQ (aD (aE aR (aB 0) (dC (.int 2))) aJ)) (aD (aB 1) (aD (bZ jQ (aD (aE aR (aB 0) (dC (.int 4))) aJ)) aJ))))))))
def pJ:List T->Res T:=λts=>bQ (pA (cD 4 ts))
def pQ:Fr->bP:=
 (aP (cP (bD (aE eS (aB 1) (dC (.str "letter")))) (bI [] (aE (inT false) (aB 2) (fI (gC ["Archive"] "letters") (aB 0)))) bM)
 (aP (cP (bD (aE eS (aB 1) (dC (.str "ink")))) (bI [] (aE (inT false) (aB 2) (dR [3] (gS kD (fI (gC ["Archive"] "inks") (aB 0))) (aI 3) cK (aQ (aE aR (aB 3) (dC (.int 0))))))) bM)
 (aP (cP (bD (aE eS (aB 1) (dC (.str "reign")))) (bI [] (aE (inT false) (aB 2) (dR [4] (gS kD (fI (gC ["Archive"] "reigns") (aB 0))) (aI 4) cK (aQ (aE aR (aB 4) (dC (.int 0))))))) bM)
 (bI [] (bE 3 dJ (aD (aB 2) (aD (aE aR (fI (wD kt_NUMBERS) (aB 1)) (dC (.int 0))) (aD (aE aR (fI (wD kt_NUMBERS) (aB 1)) (dC (.int 1))) aJ))))))))
def gH:List T->Res T:=λts=>bQ (pQ (cD 5 ts))
def wS:Fr->bP:=
 (aP (cP (mY (bD (fI (bl6 true kt_PARTS) (aB 1))) (bD (aE qE (bZ eU (aD (aB 2) aJ)) (bZ eU (aD (fI (wD kt_PARTS) (aB 1)) aJ))))) (bI [] (dC (.bl false))) bM)
 (bI [] (bZ (kU false) (aD (dR [3,4] (gN (al5 false) (aD (fI (wD kt_PARTS) (aB 1)) (aD (aB 2) aJ))) (eI (aX (aI 3) (aX (aI 4) eO))) cK (bE 3 gH (aD (aB 0) (aD (aB 3) (aD (aB 4) aJ))))) aJ))))
def tW:List T->Res T:=λts=>bQ (wS (cD 5 ts))
def jW:Fr->bP:=
 (aP (iN (gS uC (fI (gC ["Archive"] "inks") (aB 0))) (eI (aX (aI 2) (aX (aI 3) eO))) (cP (bD (aE eS (aB 2) (aB 1))) (bI [] (bZ jQ (aD (aB 3) aJ))) bM))
 (bI [] (dC .non)))
def fW:List T->Res T:=λts=>bQ (jW (cD 4 ts))
def wR:Fr->bP:=
 (aP (bF [] (aE dD (bZ eU (aD (aB 0) aJ)) (dC (.int 1))) (aI 4))
 (aP (bF [] (dR [7] (gN lO (aD (aE bR (bZ uA (aD (aB 4) (aD (aB 3) aJ))) (dC (.int 1))) aJ)) (aI 7) (bD (aE qX (bZ ax4 (aD (aE dD (aE aR (aB 0) (aB 7)) (aB 1)) aJ)) (aB 2))) (aQ (aB 7))) (aI 5))
 (aP (cP (bD (aE eS (bZ eU (aD (aB 5) aJ)) (dC (.int 0)))) (bI [] (dC .non)) bM)
 (aP (bF [] (aQ (aE aR (aB 5) (aE dD (bZ eU (aD (aB 5) aJ)) (dC (.int 1))))) (aI 6))
 (bI [] (cQ (aD (aQ (aE aR (aB 5) (dC (.int 0)))) (aD (dIf (bD (aE eS (aB 6) (aB 4))) (aQ (aB 3)) (aQ (aB 6))) aJ))))))))
def tU:List T->Res T:=λts=>bQ (wR (cD 8 ts))
def zP:Fr->bP:=
 (bI [] (dBM ay2 zQ (dC (.str " ")) (aD (dR [1] (gS kD (aB 0)) (aI 1) cK (bZ wM (aD (aB 1) aJ))) aJ)))
def zH:List T->Res T:=λts=>bQ (zP (cD 2 ts))
def cE:Fr->bP:=
 (aP (bF [] (dR [7,8] (gN (al5 false) (aD (aB 3) (aD (fI (wD kt_PARTS) (aB 2)) aJ))) (eI (aX (aI 7) (aX (aI 8) eO))) (bD (aE eS (aB 8) (dC (.str "letter")))) (aQ (aB 7))) (aI 6))
 (aP (rX 0 [] ["Ink","Reign","Under","Between","After","Same","Within","Apart"] "spoken" (dR [9] (gS kD (aB 6)) (aI 9) cK (dBM yA xU (fI (gC ["Archive"] "letters") (aB 1)) (aD (aB 9) aJ))) cY)
 (aP (rX 0 [] ["Ink","Reign","Under","Between","After","Same","Within","Apart"] "low" (aQ (aB 4)) cY)
 (aP (rX 0 [] ["Ink","Reign","Under","Between","After","Same","Within","Apart"] "high" (aQ (aB 5)) cY)
 (rX 0 [] ["Ink","Reign","Under","Between","After","Same","Within","Apart"] "text" (bE 1 zH (aD (aE bR (eY (aD (aQ (aB 2)) aJ)) (bZ jQ (aD (aB 3) aJ))) aJ)) cY)))))
noncomputable abbrev tm_table:List (Str×(List T->Res T)):=[("Archive",fW)]
def as4:List T->Res T:=λts=>jG (cE (cD 10 (.ins true "Ink" [] []::ts)))
def qP:Fr->bP:=
 (aP (bF [] (bE 4 tU (aD (mR 2 "table" tm_table (aB 0) (aD (aE aR (aB 1) (dC (.int 1))) aJ)) (aD (aE aR (aB 1) (dC (.int 2))) (aD (aE aR (aB 1) (dC (.int 3))) (aD (aE dD (fI (gC ["Archive"] "present") (aB 0)) (fI (gC ["Archive"] "first") (aB 0))) aJ))))) (aI 2))
 (aP (cP (bD (aE xV (aB 2) (dC .non))) mQ bM)
 (bI [] (bE 5 as4 (aD (aB 0) (aD (dC (.str "ink")) (aD (aB 1) (aD (aE dD (fI (gC ["Archive"] "present") (aB 0)) (aE aR (aB 2) (dC (.int 1)))) (aD (aE dD (fI (gC ["Archive"] "present") (aB 0)) (aE aR (aB 2) (dC (.int 0)))) aJ)))))))))
def qL:List T->Res T:=λts=>bQ (qP (cD 3 ts))
def oG:Fr->bP:=
 (aP (iN (gS uC (fI (gC ["Archive"] "reigns") (aB 0))) (aI 2) (cP (bD (aE eS (aE aR (aB 2) (dC (.int 0))) (aB 1))) (bI [] (aQ (aB 2))) bM))
 (bI [] (dC .non)))
def kS:List T->Res T:=λts=>bQ (oG (cD 3 ts))
def rG:Fr->bP:=
 (aP (cP (fF (eJ (bE 3 dJ (aD (aB 2) (aD (dC (.int 1)) (aD (aB 1) aJ)))))) (bI [] (dC .non)) bM)
 (bI [] (aE dD (aE bR (aB 0) (aB 2)) (dC (.int 1)))))
def mZ:List T->Res T:=λts=>bQ (rG (cD 3 ts))
def zU:List T->Res T:=λts=>jG (cE (cD 10 (.ins true "Reign" [] []::ts)))
def nR:Fr->bP:=
 (aP (bF [] (bE 2 kS (aD (aB 0) (aD (aE aR (aB 1) (dC (.int 1))) aJ))) (aI 2))
 (aP (bF [] (bE 3 mZ (aD (aE aR (aB 2) (dC (.int 1))) (aD (aE aR (aB 2) (dC (.int 2))) (aD (aE aR (aB 1) (dC (.int 2))) aJ)))) (aI 3))
 (aP (cP (bD (aE xV (aB 3) (dC .non))) mQ bM)
 (bI [] (bE 5 zU (aD (aB 0) (aD (dC (.str "reign")) (aD (aB 1) (aD (aB 3) (aD (aB 3) aJ))))))))))
def nW:List T->Res T:=λts=>bQ (nR (cD 4 ts))
def zY:List T->Res T:=λts=>jG (cE (cD 10 (.ins true "Under" [] []::ts)))
def nU:Fr->bP:=
 (aP (bF [] (bE 2 kS (aD (aB 0) (aD (aE aR (aB 1) (dC (.int 1))) aJ))) (aI 2))
 (bI [] (bE 5 zY (aD (aB 0) (aD (dC (.str "under")) (aD (aB 1) (aD (aE aR (aB 2) (dC (.int 1))) (aD (bE 3 mZ (aD (aE aR (aB 2) (dC (.int 1))) (aD (aE aR (aB 2) (dC (.int 2))) (aD (aE aR (aB 2) (dC (.int 2))) aJ)))) aJ))))))))
def nZ:List T->Res T:=λts=>bQ (nU (cD 3 ts))
def vU:List T->Res T:=λts=>jG (cE (cD 10 (.ins true "Between" [] []::ts)))
def lQ:Fr->bP:=
 (aP (cP (bD (aE gtT (aE aR (aB 1) (dC (.int 1))) (aE aR (aB 1) (dC (.int 2))))) mQ bM)
 (bI [] (bE 5 vU (aD (aB 0) (aD (dC (.str "between")) (aD (aB 1) (aD (aE aR (aB 1) (dC (.int 1))) (aD (aE aR (aB 1) (dC (.int 2))) aJ))))))))
def lU:List T->Res T:=λts=>bQ (lQ (cD 2 ts))
def zK:List T->Res T:=λts=>jG (cE (cD 10 (.ins true "After" [] []::ts)))
def oC:Fr->bP:=
 (bI [] (bE 5 zK (aD (aB 0) (aD (dC (.str "after")) (aD (aB 1) (aD (dC (.int 1)) (aD (dC .non) aJ)))))))
def nQ:List T->Res T:=λts=>bQ (oC (cD 2 ts))
def ai1:List T->Res T:=λts=>jG (cE (cD 10 (.ins true "Same" [] []::ts)))
def oZ:Fr->bP:=
 (bI [] (bE 5 ai1 (aD (aB 0) (aD (dC (.str "same")) (aD (aB 1) (aD (dC (.int 0)) (aD (dC (.int 0)) aJ)))))))
def oY:List T->Res T:=λts=>bQ (oZ (cD 2 ts))
def xH:List T->Res T:=λts=>jG (cE (cD 10 (.ins true "Within" [] []::ts)))
def mO:Fr->bP:=
 (bI [] (bE 5 xH (aD (aB 0) (aD (dC (.str "within")) (aD (aB 1) (aD (dC (.int 0)) (aD (aE aR (aB 1) (dC (.int 2))) aJ)))))))
def mU:List T->Res T:=λts=>bQ (mO (cD 2 ts))
def ad0:List T->Res T:=λts=>jG (cE (cD 10 (.ins true "Apart" [] []::ts)))
def nT:Fr->bP:=
 (aP (cP (bD (aE gtT (aE aR (aB 1) (dC (.int 2))) (aE aR (aB 1) (dC (.int 3))))) mQ bM)
 (bI [] (bE 5 ad0 (aD (aB 0) (aD (dC (.str "apart")) (aD (aB 1) (aD (aE aR (aB 1) (dC (.int 2))) (aD (aE aR (aB 1) (dC (.int 3))) aJ))))))))
def nP:List T->Res T:=λts=>bQ (nT (cD 2 ts))
noncomputable abbrev tb_MAKERS:List (Str×(List T->Res T)):=[("ink",qL),("reign",nW),("under",nZ),("between",lU),("after",nQ),("same",oY),("within",mU),("apart",nP)]
def sR:Fr->bP:=
 (aP (cP (fF (eJ (bE 3 tW (aD (aB 0) (aD (aB 1) (aD (aB 2) aJ)))))) mQ bM)
 (aP (cP (gY (bD (aE eS (aE aR (fI (wD kt_PARTS) (aB 1)) (dC (.int 1))) (dC (.str "letter")))) (bD (aE eS (aE aR (aB 2) (dC (.int 0))) (aE aR (aB 2) (dC (.int 1)))))) mQ bM)
 (bI [] (yQ 2 tb_MAKERS (aB 1) (aD (aB 0) (aD (aB 2) aJ))))))
def dF:List T->Res T:=λts=>bQ (sR (cD 3 ts))
def uW:Fr->bP:=
 (bI [] (dR [2,3,4,5] (gS kD (aB 1)) (eI (aX (aI 2) (aX (aI 3) (aX (aI 4) (aX (aI 5) eO))))) cK (bE 3 dF (aD (aB 0) (aD (aB 2) (aD (bZ jQ (aD (aB 3) aJ)) aJ))))))
def uG:List T->Res T:=λts=>bQ (uW (cD 6 ts))
def sY:Fr->bP:=
 (aP (bF [] (eY aJ) (aI 2))
 (aP (iN (gN lO (aD (bZ eU (aD (aB 1) aJ)) aJ)) (aI 3) (aP (bF [] (aQ (aE aR (aE aR (aB 1) (aB 3)) (dC (.int 2)))) (aI 4))
 (aP (bF [] (aQ (aE aR (aE aR (aB 1) (aB 3)) (dC (.int 3)))) (eI (aX (aI 5) (aX (aI 6) eO))))
 (aP (bF [] (aQ (aE aR (aE bR (aB 4) (cQ (aD (dC .non) aJ))) (dC (.int 1)))) (aI 7))
 (aP (cP (bD (aE hV (aB 6) (dC .non))) (iA 2 [] cY (cQ (aD (aQ (aB 7)) (aD (aQ (aE aR (aB 4) (dC (.int 0)))) (aD (aQ (aB 6)) (aD (aQ (aB 3)) aJ)))))) bM)
 (cP (bD (aE hV (aB 5) (dC .non))) (iA 2 [] cY (cQ (aD (aQ (aE aR (aB 4) (dC (.int 0)))) (aD (aQ (aB 7)) (aD (aE dD (dC (.int 0)) (aB 5)) (aD (aQ (aB 3)) aJ)))))) bM))))))
 (aP (iN (gN lO (aD (bZ eU (aD (aE aR (aB 0) (dC (.int 2))) aJ)) aJ)) (aI 8) (aP (iA 2 [] cY (cQ (aD (dC .non) (aD (aQ (aB 8)) (aD (aQ (aE aR (aB 0) (dC (.int 1)))) (aD (dC .non) aJ))))))
 (iA 2 [] cY (cQ (aD (aQ (aB 8)) (aD (dC .non) (aD (aE dD (dC (.int 0)) (aE aR (aB 0) (dC (.int 0)))) (aD (dC .non) aJ))))))))
 (bI [2] (aB 2)))))
def oM:List T->Res T:=λts=>bQ (sY (cD 9 ts))
def dZ:Fr->bP:=
 (bI [] (bZ jQ (aD (fI (gC ["Ink","Reign","Under","Between","After","Same","Within","Apart"] "spoken") (aB 0)) aJ)))
def bC:List T->Res T:=λts=>bQ (dZ (cD 1 ts))
def dL:Fr->bP:=
 (bI [] (cQ (aD (aQ (fI (gC ["Ink","Reign","Under","Between","After","Same","Within","Apart"] "low") (aB 0))) (aD (aQ (fI (gC ["Ink","Reign","Under","Between","After","Same","Within","Apart"] "high") (aB 0))) aJ))))
def aW:List T->Res T:=λts=>bQ (dL (cD 1 ts))
noncomputable abbrev tm_about:List (Str×(List T->Res T)):=[("Ink",bC),("Reign",bC),("Under",bC),("Between",bC),("After",bC),("Same",bC),("Within",bC),("Apart",bC)]
noncomputable abbrev tm_bounds:List (Str×(List T->Res T)):=[("Ink",aW),("Reign",aW),("Under",aW),("Between",aW),("After",aW),("Same",aW),("Within",aW),("Apart",aW)]
def oF:Fr->bP:=
 (aP (bF [] (mR 1 "about" tm_about (aB 0) aJ) (aI 2))
 (aP (bF [] (mR 1 "bounds" tm_bounds (aB 0) aJ) (aI 3))
 (aP (bF [] (dIf (bD (aE eS (bZ eU (aD (aB 2) aJ)) (dC (.int 2)))) (aQ (aE aR (aB 2) (dC (.int 1)))) (dC .non)) (aI 4))
 (aP (bF [] (eY aJ) (aI 5))
 (aP (cP (bD (aE hV (aE aR (aB 3) (dC (.int 1))) (dC .non))) (iA 5 [] cY (cQ (aD (aQ (aB 4)) (aD (aQ (aE aR (aB 2) (dC (.int 0)))) (aD (aQ (aE aR (aB 3) (dC (.int 1)))) (aD (aQ (aB 1)) aJ)))))) bM)
 (aP (cP (bD (aE hV (aE aR (aB 3) (dC (.int 0))) (dC .non))) (iA 5 [] cY (cQ (aD (aQ (aE aR (aB 2) (dC (.int 0)))) (aD (aQ (aB 4)) (aD (aE dD (dC (.int 0)) (aE aR (aB 3) (dC (.int 0)))) (aD (aQ (aB 1)) aJ)))))) bM)
 (bI [5] (aB 5))))))))
def oA:List T->Res T:=λts=>bQ (oF (cD 6 ts))
def rW:Fr->bP:=
 (bI [] (eY (aD (cQ (aD (dC .non) (aD (aQ (aB 1)) (aD (aQ (fI (gC ["Archive"] "present") (aB 0))) (aD (dC .non) aJ))))) (aD (cQ (aD (aQ (aB 1)) (aD (dC .non) (aD (aE dD (dC (.int 0)) (fI (gC ["Archive"] "first") (aB 0))) (aD (dC .non) aJ))))) aJ))))
def rF:List T->Res T:=λts=>bQ (rW (cD 2 ts))
def uM:Fr->bP:=
 (aP (bF [] (eY aJ) (aI 2))
 (aP (iN (gN (ap9 true) (aD (aB 1) aJ)) (eI (aX (aI 3) (aX (aI 4) eO))) (ai2 2 [] ao5 cY (aD (bE 2 oA (aD (aB 4) (aD (aB 3) aJ))) aJ)))
 (aP (iN (gN lO (aD (bZ eU (aD (fI (gC ["Archive"] "letters") (aB 0)) aJ)) aJ)) (aI 5) (ai2 2 [] ao5 cY (aD (bE 2 rF (aD (aB 0) (aD (aB 5) aJ))) aJ)))
 (bI [2] (aB 2)))))
def uY:List T->Res T:=λts=>bQ (uM (cD 6 ts))
def rJ:Fr->bP:=
 (bI [] (dIf (bD (aE xV (aB 0) (dC .non))) (aQ (aB 1)) (aQ (aB 0))))
def eM:List T->Res T:=λts=>bQ (rJ (cD 2 ts))
def wQ:Fr->bP:=
 (aP (bF [] (aE dD (bZ eU (aD (aB 1) aJ)) (dC (.int 1))) (aI 2))
 (bI [] (aE qX (aE aR (aB 1) (bE 2 eM (aD (aE aR (aB 0) (dC (.int 1))) (aD (aB 2) aJ)))) (aE bR (aE aR (aB 1) (bE 2 eM (aD (aE aR (aB 0) (dC (.int 0))) (aD (aB 2) aJ)))) (aE aR (aB 0) (dC (.int 2)))))))
def wV:List T->Res T:=λts=>bQ (wQ (cD 3 ts))
def pH:Fr->bP:=
 (aP (bF [] (aE dD (bZ eU (aD (aB 1) aJ)) (dC (.int 1))) (aI 3))
 (aP (bF [] (dC .non) (aI 4))
 (aP (iN (gS uC (aB 0)) (aI 5) (cP (fF (eJ (bE 2 wV (aD (aB 5) (aD (aB 1) aJ))))) (aP (bF [] (bE 2 eM (aD (aE aR (aB 5) (dC (.int 0))) (aD (aB 3) aJ))) (aI 4))
 (aP (ad5 1 [] (aE dD (aE aR (aB 1) (bE 2 eM (aD (aE aR (aB 5) (dC (.int 1))) (aD (aB 3) aJ)))) (aE aR (aB 5) (dC (.int 2)))) cY (aB 4))
 (ad5 2 [] (aQ (aB 5)) cY (aB 4)))) bM))
 (an3 (aB 4)))))
def iZ:T->T->T->Res (T×T×T):=λa b c=>ag1 (pH (cD 6 [a,b,c]))
def pP:Fr->bP:=
 (aP (bF [] (aE dD (bZ eU (aD (aB 0) aJ)) (dC (.int 1))) (aI 2))
 (aP (iN (gN lO (aD (bZ eU (aD (aB 0) aJ)) aJ)) (aI 3) (bF [] (bE 2 eM (aD (aE aR (aE aR (aB 0) (aB 1)) (dC (.int 1))) (aD (aB 2) aJ))) (aI 1)))
 (aP (bF [] (eY (aD (aQ (aE aR (aB 0) (aB 1))) aJ)) (aI 4))
 (aP (bF [] (bE 2 eM (aD (aE aR (aE aR (aB 0) (aB 1)) (dC (.int 1))) (aD (aB 2) aJ))) (aI 5))
 (aP (au1 (bD (aE qE (aB 5) (aB 1))) (aP (iA 4 [] cY (aQ (aE aR (aB 0) (aB 5))))
 (bF [] (bE 2 eM (aD (aE aR (aE aR (aB 0) (aB 5)) (dC (.int 1))) (aD (aB 2) aJ))) (aI 5))))
 (bI [4] (aB 4)))))))
def pG:List T->Res T:=λts=>bQ (pP (cD 6 ts))
def rD:Fr->bP:=
 (aP (bF [] (bZ eU (aD (fI (gC ["Archive"] "letters") (aB 0)) aJ)) (aI 2))
 (aP (bF [] (aE bR (aE uI (eY (aD (aE dD (fI (gC ["Archive"] "first") (aB 0)) (dC (.int 1))) aJ)) (aB 2)) (eY (aD (dC (.int 0)) aJ))) (aI 3))
 (aP (bF [] (aE uI (eY (aD (dC .non) aJ)) (aE bR (aB 2) (dC (.int 1)))) (aI 4))
 (aP (bF [] (dC .non) (aI 5))
 (aP (iN (gN lO (aD (aE bR (aB 2) (dC (.int 1))) aJ)) (aI 6) (yP 5 1 3 4 iZ))
 (aP (cP (bD (aE xV (aB 5) (dC .non))) (bI [] (cQ (aD (dC (.str "dating")) (aD (qM oQ (aB 3) (iL (dC (.int 0))) (iL (aB 2))) aJ)))) bM)
 (bI [] (cQ (aD (dC (.str "ring")) (aD (bE 2 pG (aD (aB 4) (aD (aB 5) aJ))) aJ))))))))))
def nH:List T->Res T:=λts=>bQ (rD (cD 7 ts))
def tK:Fr->bP:=
 (bI [] (bE 2 nH (aD (aB 0) (aD (bE 2 uY (aD (aB 0) (aD (aB 1) aJ))) aJ))))
def nF:List T->Res T:=λts=>bQ (tK (cD 2 ts))
def tD:Fr->bP:=
 (bI [] (oX (bZ jH (aD (aB 0) (aD (dC (.ty "int")) aJ))) (yZ (bZ jH (aD (aB 0) (aD (dC (.ty "bool")) aJ))))))
def iK:List T->Res T:=λts=>bQ (tD (cD 1 ts))
def pO:Fr->bP:=
 (aP (cP (mY (fF (eJ (bZ jH (aD (aB 0) (aD (dC (.ty "tuple")) aJ))))) (mY (bD (aE qE (bZ eU (aD (aB 0) aJ)) (dC (.int 4)))) (fF (eJ (bE 1 iK (aD (aE aR (aB 0) (dC (.int 2))) aJ)))))) (bI [] (dC (.bl false))) bM)
 (aP (iN (gS uC (aj5 (eY (aD (aQ (aE aR (aB 0) (dC (.int 0)))) (aD (aQ (aE aR (aB 0) (dC (.int 1)))) (aD (aQ (aE aR (aB 0) (dC (.int 3)))) aJ)))))) (aI 2) (cP (gY (bD (aE hV (aB 2) (dC .non))) (fF (eJ (bE 1 iK (aD (aB 2) aJ))))) (bI [] (dC (.bl false))) bM))
 (bI [] (aE (inT false) (aB 0) (aB 1)))))
def jD:List T->Res T:=λts=>bQ (pO (cD 3 ts))
def nX:Fr->bP:=
 (aP (cP (mY (fF (eJ (bZ jH (aD (aB 0) (aD (dC (.ty "list")) aJ))))) (fF (eJ (bZ (kU false) (aD (dR [5] (gS kD (aB 0)) (aI 5) cK (bE 2 jD (aD (aB 5) (aD (aB 1) aJ)))) aJ))))) (bI [] (dC (.bl false))) bM)
 (aP (bF [] (aQ (aB 2)) (aI 4))
 (aP (iN (gS uC (aB 0)) (aI 5) (aP (cP (bD (aE qE (aE aR (aB 5) (dC (.int 0))) (aB 4))) (bI [] (dC (.bl false))) bM)
 (bF [] (aQ (aE aR (aB 5) (dC (.int 1)))) (aI 4))))
 (bI [] (aE eS (aB 4) (aB 3))))))
def nV:List T->Res T:=λts=>bQ (nX (cD 6 ts))
def pI:Fr->bP:=
 (aP (cP (mY (fF (eJ (bZ jH (aD (aB 0) (aD (dC (.ty "list")) aJ))))) (mY (bD (aE eS (aB 0) (eY aJ))) (fF (eJ (bE 2 jD (aD (aE aR (aB 0) (dC (.int 0))) (aD (aB 1) aJ))))))) (bI [] (dC (.bl false))) bM)
 (aP (cP (fF (eJ (bE 4 nV (aD (aB 0) (aD (aB 1) (aD (aE aR (aE aR (aB 0) (dC (.int 0))) (dC (.int 0))) (aD (aE aR (aE aR (aB 0) (dC (.int 0))) (dC (.int 0))) aJ))))))) (bI [] (dC (.bl false))) bM)
 (aP (bF [] (dR [3] (gS kD (aB 0)) (aI 3) cK (aQ (aE aR (aB 3) (dC (.int 0))))) (aI 2))
 (aP (cP (eJ (bZ (kU true) (aD (dR [4] (gN lO (aD (bZ eU (aD (aB 2) aJ)) aJ)) (aI 4) cK (aE (inT false) (aE aR (aB 2) (aB 4)) (qM oQ (aB 2) gU (iL (aB 4))))) aJ))) (bI [] (dC (.bl false))) bM)
 (bI [] (aE ltT (bZ bd5 (aD (dR [3] (gS kD (aB 0)) (aI 3) cK (aQ (aE aR (aB 3) (dC (.int 2))))) aJ)) (dC (.int 0))))))))
def pF:List T->Res T:=λts=>bQ (pI (cD 5 ts))
def tH:Fr->bP:=
 (aP (iN (gS uC (aB 1)) (eI (aX (aI 2) (aX (aI 3) (aX (aI 4) (aX (aI 5) eO))))) (aP (bF [] (dC (.int 0)) (aI 6))
 (aP (bF [] (dC (.int 0)) (aI 7))
 (aP (cP (bD (aE hV (aB 2) (dC .non))) (bF [] (aQ (aE aR (aB 0) (aB 2))) (aI 6)) bM)
 (aP (cP (bD (aE hV (aB 3) (dC .non))) (bF [] (aQ (aE aR (aB 0) (aB 3))) (aI 7)) bM)
 (cP (bD (aE gtT (aB 7) (aE bR (aB 6) (aB 4)))) (bI [] (dC (.bl false))) bM))))))
 (bI [] (dC (.bl true))))
def sQ:List T->Res T:=λts=>bQ (tH (cD 8 ts))
def mT:Fr->bP:=
 (aP (cP (mY (fF (eJ (bZ jH (aD (aB 0) (aD (dC (.ty "list")) aJ))))) (mY (bD (aE qE (bZ eU (aD (aB 0) aJ)) (aB 1))) (fF (eJ (bZ (kU false) (aD (dR [3] (gS kD (aB 0)) (aI 3) cK (bE 1 iK (aD (aB 3) aJ))) aJ)))))) (bI [] (dC (.bl false))) bM)
 (bI [] (bE 2 sQ (aD (aB 0) (aD (aB 2) aJ)))))
def mP:List T->Res T:=λts=>bQ (mT (cD 4 ts))
def qW:Fr->bP:=
 (bI [] (dR [1,2,3,4] (gS kD (aB 0)) (eI (aX (aI 1) (aX (aI 2) (aX (aI 3) (aX (aI 4) eO))))) cK (cQ (aD (aQ (aB 2)) (aD (aQ (aB 1)) (aD (aQ (aB 3)) (aD (aQ (aB 4)) aJ)))))))
def rY:List T->Res T:=λts=>bQ (qW (cD 5 ts))
def sU:Fr->bP:=
 (aP (cP (bD (aE xV (aB 0) (dC .non))) (bI [] (aQ (aB 1))) bM)
 (bI [] (aQ (aB 0))))
def kN:List T->Res T:=λts=>bQ (sU (cD 2 ts))
def pK:Fr->bP:=
 (aP (bF [] (aE dD (bZ eU (aD (aB 0) aJ)) (dC (.int 1))) (aI 3))
 (aP (bF [] (eY (aD (aQ (aB 2)) aJ)) (aI 4))
 (aP (iN (gN lO (aD (aE bR (aB 3) (dC (.int 1))) aJ)) (aI 5) (aP (cP (bD (aE gtT (bZ eU (aD (aB 4) aJ)) (aB 3))) aq1 bM)
 (iN (gS uC (aB 1)) (eI (aX (aI 6) (aX (aI 7) (aX (aI 8) (aX (aI 9) eO))))) (aP (bF [] (bE 2 kN (aD (aB 6) (aD (aB 3) aJ))) (aI 10))
 (aP (bF [] (bE 2 kN (aD (aB 7) (aD (aB 3) aJ))) (aI 11))
 (cP (gY (bD (aE (inT false) (aB 10) (aB 4))) (gY (bD (aE (inT true) (aB 11) (aB 4))) (bD (aE eS (aE aR (aB 0) (aB 11)) (aE bR (aE aR (aB 0) (aB 10)) (aB 8)))))) (iA 4 [] cY (aQ (aB 11))) bM))))))
 (bI [] (aE eS (bZ vG (aD (aB 4) aJ)) (bZ at7 (aD (aE bR (aB 3) (dC (.int 1))) aJ)))))))
def oW:List T->Res T:=λts=>bQ (pK (cD 12 ts))
def oR:Fr->bP:=
 (aP (cP (mY (fF (eJ (bZ jH (aD (aB 0) (aD (dC (.ty "tuple")) aJ))))) (bD (aE qE (bZ eU (aD (aB 0) aJ)) (dC (.int 2))))) (bI [] (dC (.bl false))) bM)
 (aP (cP (bD (aE eS (aE aR (aB 0) (dC (.int 0))) (dC (.str "ring")))) (bI [] (bE 2 pF (aD (aE aR (aB 0) (dC (.int 1))) (aD (aB 2) aJ)))) bM)
 (aP (cP (mY (bD (aE qE (aE aR (aB 0) (dC (.int 0))) (dC (.str "dating")))) (fF (eJ (bE 3 mP (aD (aE aR (aB 0) (dC (.int 1))) (aD (aB 1) (aD (aB 2) aJ))))))) (bI [] (dC (.bl false))) bM)
 (bI [] (bE 3 oW (aD (aE bR (dR [3] (gS kD (aE aR (aB 0) (dC (.int 1)))) (aI 3) cK (aE dD (dC (.int 0)) (aB 3))) (eY (aD (dC (.int 0)) aJ))) (aD (bE 1 rY (aD (aB 2) aJ)) (aD (aB 1) aJ))))))))
def kL:List T->Res T:=λts=>bQ (oR (cD 4 ts))
def br4:Fr->bP:=
 (aP (bF [] (bE 2 tE (aD (aB 0) (aD (dC (.int 8)) aJ))) (aI 1))
 (aP (bF [] (aE eS (aE cI (bE 2 jF (aD (aB 0) (aD (dC (.int 1)) aJ))) (dC (.int 2))) (dC (.int 1))) (aI 2))
 (aP (bF [] (bE 2 qI (aD (aE jJ (bE 2 jF (aD (aB 0) (aD (dC (.int 1)) aJ))) (dC (.int 32))) (aD (aB 1) aJ))) (aI 3))
 (aP (bF [] (zO (bE 4 pL (aD (qM oQ (aB 0) (iL (dC (.int 2))) (iL (dC (.int 18)))) (aD (aB 1) (aD (aB 2) (aD (aB 3) aJ)))))) (aI 4))
 (aP (bF [] (bE 1 pJ (aD (aB 1) aJ)) (aI 5))
 (aP (bF [] (zO (bE 2 uG (aD (aB 5) (aD (aB 4) aJ)))) (aI 6))
 (aP (bF [] (bE 2 oM (aD (aB 1) (aD (aB 4) aJ))) (aI 7))
 (aP (bF [] (bZ eU (aD (aE aR (aB 1) (dC (.int 2))) aJ)) (aI 8))
 (aP (bF [] (bE 2 nF (aD (aB 5) (aD (aB 6) aJ))) (aI 9))
 (aP (cP (mY (fF (eJ (bE 3 kL (aD (aB 9) (aD (aB 8) (aD (aB 7) aJ)))))) (gY (fF (eJ (aB 2))) (bD (aE qE (aE aR (aB 9) (dC (.int 0))) (dC (.str "dating")))))) (bI [] (dC (.bl false))) bM)
 (aP (bF [] (aQ (aE aR (aB 9) (dC (.int 0)))) (aI 10))
 (aP (iA 9 [] (pIx 9 cY (dC (.int 1))) (dC .non))
 (aP (bF [] (aE cI (aE jJ (bE 2 jF (aD (aB 0) (aD (dC (.int 1)) aJ))) (dC (.int 2))) (aE bR (bZ eU (aD (aB 4) aJ)) (dC (.int 1)))) (aI 11))
 (aP (bF [] (bE 2 oM (aD (aB 1) (aD (aE bR (qM oQ (aB 4) gU (iL (aB 11))) (qM oQ (aB 4) (iL (aE bR (aB 11) (dC (.int 1)))) gU)) aJ))) (aI 12))
 (aP (bF [] (bE 2 nF (aD (aB 5) (aD (aE bR (qM oQ (aB 6) gU (iL (aB 11))) (qM oQ (aB 6) (iL (aE bR (aB 11) (dC (.int 1)))) gU)) aJ))) (aI 13))
 (aP (cP (mY (fF (eJ (bE 3 kL (aD (aB 13) (aD (aB 8) (aD (aB 12) aJ)))))) (gY (bD (aE eS (aB 10) (dC (.str "dating")))) (bD (aE qE (aE aR (aB 13) (dC (.int 0))) (dC (.str "dating")))))) (bI [] (dC (.bl false))) bM)
 (aP (bF [] (bE 2 nF (aD (aB 5) (aD (aB 6) aJ))) (aI 14))
 (bI [] (oX (aE eS (aE aR (aB 14) (dC (.int 0))) (aB 10)) (bE 3 kL (aD (aB 14) (aD (aB 8) (aD (aB 7) aJ)))))))))))))))))))))))
def bl4:List T->Res T:=λts=>bQ (br4 (cD 15 ts))
abbrev ai6:Stmt:=dM 71
abbrev ac4:Stmt:=dM 73
abbrev ak4:Stmt:=dM 72
abbrev aa4:Stmt:=dM 74
abbrev bo2:Stmt:=dM 77
abbrev as2:Stmt:=dM 78
abbrev af7:Stmt:=dM 79
abbrev aw2:Stmt:=dM 75
abbrev ah2:Stmt:=dM 76
abbrev ah0:Stmt:=dM 80
abbrev an7:Stmt:=dM 13
abbrev wY:Stmt:=dM 14
abbrev af4:Stmt:=dM 40
abbrev ap1:Stmt:=dM 15
abbrev bv1:Stmt:=dM 16
abbrev av3:Stmt:=dM 41
abbrev ah7:Stmt:=dM 30
abbrev ak6:Stmt:=dM 42
abbrev ae7:Stmt:=dM 32
abbrev ao1:Stmt:=dM 43
abbrev kO:Stmt:=xN (dM 44) 0
abbrev ag0:Stmt:=dM 82
abbrev bp6:Stmt:=dM 58
abbrev br1:Stmt:=dM 59
abbrev kE:Stmt:=xN (dM 44) 1
abbrev bc2:Stmt:=dM 31
abbrev bn6:Stmt:=dM 17
abbrev eN:Stmt:=xN (dM 48) 0
abbrev ao2:Stmt:=dM 60
abbrev yJ:Stmt:=dM 57
abbrev aq2:Stmt:=dM 33
abbrev yR:Stmt:=dM 61
abbrev yL:Stmt:=dM 62
abbrev wA:Stmt:=dM 63
abbrev yD:Stmt:=dM 64
abbrev ap0:Stmt:=dM 65
abbrev wO:Stmt:=dM 66
abbrev yO:Stmt:=dM 67
abbrev az3:Stmt:=dM 69
abbrev ab8:Stmt:=dM 83
abbrev ao4:Stmt:=dM 81
abbrev dY:Stmt:=xN (dM 48) 1
abbrev dI:Stmt:=xN (dM 48) 2
abbrev yN:Stmt:=dM 7
abbrev au0:Stmt:=dM 8
abbrev av6:Stmt:=dM 9
abbrev am6:Stmt:=dM 19
abbrev bg2:Stmt:=dM 20
abbrev ai0:Stmt:=dM 21
abbrev aj0:Stmt:=dM 22
abbrev ax1:Stmt:=dM 23
abbrev bm2:Stmt:=dM 24
abbrev aj4:Stmt:=dM 84
abbrev ar0:Stmt:=dM 87
abbrev xM:Stmt:=dM 88
abbrev aq0:Stmt:=dM 89
abbrev ax3:Stmt:=dM 85
abbrev wX:Stmt:=dM 86
abbrev as0:Stmt:=dM 92
abbrev ae4:Stmt:=dM 90
abbrev ao0:Stmt:=dM 91
abbrev ad4:Stmt:=dM 93
abbrev uV:Stmt:=dM 94
end
structure Txt (w:World) (K:PySem.W.Frag) (cn:Str->Option Addr) (mg:Str->Option Value) (c_Archive c_Ink c_Reign c_Under c_Between c_After c_Same c_Within c_Apart:Addr) (qG vI iE:List (Str×Value)):Prop where
 cg6:mg "abs"=none
 vE:mg "all"=none
 eu6:mg "any"=none
 dj0:mg "bool"=none
 dg5:mg "divmod"=none
 bz9:mg "enumerate"=none
 dj6:mg "int"=none
 gT:mg "isinstance"=none
 eE:mg "len"=none
 kI:mg "list"=none
 an8:mg "max"=none
 ae0:mg "min"=none
 gW:mg "range"=none
 et6:mg "set"=none
 dc5:mg "sorted"=none
 ev6:mg "str"=none
 ew6:mg "sum"=none
 ca2:mg "tuple"=none
 dk6:mg "zip"=none
 g_DARKEST:yK mg "DARKEST" (.int 1000000)
 g_FARTHEST_END:yK mg "FARTHEST_END" (.int 3000)
 g_FARTHEST_YEAR:yK mg "FARTHEST_YEAR" (.int 4000)
 g_LETTERS:yK mg "LETTERS" (.str "abcdefghijklmnopqrstuvwxyz")
 g_LONGEST_REIGN:yK mg "LONGEST_REIGN" (.int 100)
 g_LONGEST_SPAN:yK mg "LONGEST_SPAN" (.int 300)
 g_MOST_AGES:yK mg "MOST_AGES" (.int 60)
 g_MOST_INKS:yK mg "MOST_INKS" (.int 6)
 g_MOST_LETTERS_archives:yK mg "MOST_LETTERS_archives" (.int 8)
 g_MOST_LETTERS_words:yK mg "MOST_LETTERS_words" (.int 8)
 g_MOST_REIGNS:yK mg "MOST_REIGNS" (.int 8)
 d_NUMBERS:yY w K mg "NUMBERS" qG
 g_NUMBERS:GD K cn kt_NUMBERS qG
 d_PARTS:yY w K mg "PARTS" vI
 g_PARTS:GD K cn kt_PARTS vI
 lY:cn "Archive"=some c_Archive
 oH:Cls K c_Archive
 wH:cn "Ink"=some c_Ink
 yU:Cls K c_Ink
 pZ:cn "Reign"=some c_Reign
 sK:Cls K c_Reign
 pX:cn "Under"=some c_Under
 sO:Cls K c_Under
 lZ:cn "Between"=some c_Between
 oI:Cls K c_Between
 pY:cn "After"=some c_After
 sM:Cls K c_After
 sN:cn "Same"=some c_Same
 vJ:Cls K c_Same
 nO:cn "Within"=some c_Within
 qH:Cls K c_Within
 pW:cn "Apart"=some c_Apart
 sL:Cls K c_Apart
 ad6:NoAttr K c_Archive "first"
 bu9:NoAttr K c_Ink "high"
 bs3:NoAttr K c_Reign "high"
 br3:NoAttr K c_Under "high"
 ap8:NoAttr K c_Between "high"
 ba4:NoAttr K c_After "high"
 bq8:NoAttr K c_Same "high"
 bi1:NoAttr K c_Within "high"
 bu3:NoAttr K c_Apart "high"
 al8:NoAttr K c_Archive "inks"
 ab3:NoAttr K c_Archive "letters"
 ce6:NoAttr K c_Ink "low"
 by8:NoAttr K c_Reign "low"
 bo8:NoAttr K c_Under "low"
 bj1:NoAttr K c_Between "low"
 bb9:NoAttr K c_After "low"
 cf0:NoAttr K c_Same "low"
 bw3:NoAttr K c_Within "low"
 bc9:NoAttr K c_Apart "low"
 ac3:NoAttr K c_Archive "present"
 as3:NoAttr K c_Archive "reigns"
 bc4:NoAttr K c_Ink "spoken"
 aj8:NoAttr K c_Reign "spoken"
 ar8:NoAttr K c_Under "spoken"
 at3:NoAttr K c_Between "spoken"
 ao8:NoAttr K c_After "spoken"
 bd1:NoAttr K c_Same "spoken"
 aa6:NoAttr K c_Within "spoken"
 aq8:NoAttr K c_Apart "spoken"
 ch0:NoAttr K c_Ink "text"
 bg4:NoAttr K c_Reign "text"
 bv3:NoAttr K c_Under "text"
 au8:NoAttr K c_Between "text"
 bo3:NoAttr K c_After "text"
 bs8:NoAttr K c_Same "text"
 bo1:NoAttr K c_Within "text"
 by3:NoAttr K c_Apart "text"
 cb6:dW K mg "_law_cell" ai6
 by9:dW K mg "_law_names" ac4
 bx9:dW K mg "_law_whirl" ak4
 bw9:dW K mg "_law_frame" aa4
 di0:dW K mg "_law_row" bo2
 bx8:dW K mg "_law_hidden" as2
 cz5:dW K mg "_law_free" af7
 bt8:dW K mg "_law_of_one" aw2
 bd9:dW K mg "_law_of_two" ah2
 bd4:dW K mg "_law_sayings" ah0
 cl6:dW K mg "is_whole" an7
 ag8:dW K mg "is_whole_from" wY
 cc0:dW K mg "are_years" af4
 bp8:dW K mg "is_made_of" ap1
 dm0:dW K mg "is_name" bv1
 cg0:dW K mg "are_names" av3
 ci6:dW K mg "is_table" ah7
 cf6:dW K mg "are_inks" ak6
 ch6:dW K mg "is_reign" ae7
 be9:dW K mg "are_reigns" ao1
 bt3:dW K mg "_law_archive" ag0
 db5:dW K mg "is_due" bp6
 dh0:dW K mg "are_due" br1
 dl0:dW K mg "ages_of" bc2
 de5:dW K mg "spaced" bn6
 bz8:dW K mg "ink_saying" ao2
 bm1:dW K mg "reign_called" yJ
 bv8:dW K mg "reign_year" aq2
 bf1:dW K mg "reign_saying" yR
 bq1:dW K mg "under_saying" yL
 ae6:dW K mg "between_saying" wA
 bp1:dW K mg "after_saying" yD
 bb4:dW K mg "same_saying" ap0
 ak8:dW K mg "within_saying" wO
 bb1:dW K mg "apart_saying" yO
 ca0:dW K mg "saying_of" az3
 ca6:dW K mg "_law_heap" ab8
 cb0:dW K mg "_law_steps" ao4
 bn1:dW K mg "saying_steps" yN
 ba9:dW K mg "span_steps" au0
 cj6:dW K mg "steps_of" av6
 cc6:dW K mg "place_of" am6
 de0:dW K mg "is_kept" bg2
 be4:dW K mg "raise_years" ai0
 bz3:dW K mg "ring_behind" aj0
 bu8:dW K mg "settled_by" ax1
 dg0:dW K mg "settled" bm2
 cj0:dW K mg "_law_whole" aj4
 bx3:dW K mg "_law_is_step" ar0
 bl1:dW K mg "_law_is_chain" xM
 bp3:dW K mg "_law_is_ring" aq0
 ci0:dW K mg "_law_holds" ax3
 as8:dW K mg "_law_is_dating" wX
 bw8:dW K mg "_law_turned" as0
 bv9:dW K mg "_law_place" ae4
 bh4:dW K mg "_law_reached" ao0
 ce0:dW K mg "_law_right" ad4
 cd6:vL K mg "Archive" c_Archive "Archive.__init__" kO
 ep4:vL K mg "Ink" c_Ink "Saying.__init__" eN
 df5:vL K mg "Reign" c_Reign "Saying.__init__" eN
 da5:vL K mg "Under" c_Under "Saying.__init__" eN
 ck6:vL K mg "Between" c_Between "Saying.__init__" eN
 dh5:vL K mg "After" c_After "Saying.__init__" eN
 dr9:vL K mg "Same" c_Same "Saying.__init__" eN
 df0:vL K mg "Within" c_Within "Saying.__init__" eN
 dd5:vL K mg "Apart" c_Apart "Saying.__init__" eN
 ab6:lW K c_Archive "table" "Archive.table" kE
 br8:lW K c_Ink "about" "Saying.about" dY
 bg1:lW K c_Reign "about" "Saying.about" dY
 be1:lW K c_Under "about" "Saying.about" dY
 ac6:lW K c_Between "about" "Saying.about" dY
 ba1:lW K c_After "about" "Saying.about" dY
 bq3:lW K c_Same "about" "Saying.about" dY
 ai8:lW K c_Within "about" "Saying.about" dY
 bc1:lW K c_Apart "about" "Saying.about" dY
 bi4:lW K c_Ink "bounds" "Saying.bounds" dI
 av8:lW K c_Reign "bounds" "Saying.bounds" dI
 ay8:lW K c_Under "bounds" "Saying.bounds" dI
 ar3:lW K c_Between "bounds" "Saying.bounds" dI
 at8:lW K c_After "bounds" "Saying.bounds" dI
 bk1:lW K c_Same "bounds" "Saying.bounds" dI
 az5:lW K c_Within "bounds" "Saying.bounds" dI
 am8:lW K c_Apart "bounds" "Saying.bounds" dI
 dk0:yY w K mg "MAKERS" iE
 bf4:iE.lookup ("ink":Str)=mg "ink_saying"
 ax8:iE.lookup ("reign":Str)=mg "reign_saying"
 az8:iE.lookup ("under":Str)=mg "under_saying"
 aq3:iE.lookup ("between":Str)=mg "between_saying"
 ah8:iE.lookup ("after":Str)=mg "after_saying"
 bh1:iE.lookup ("same":Str)=mg "same_saying"
 af6:iE.lookup ("within":Str)=mg "within_saying"
 aw8:iE.lookup ("apart":Str)=mg "apart_saying"
section
theorem l1{α:Type}:∀{us:List α},us.length=1->∃a,us=[a]
 |[a],_=>⟨a,rfl⟩
theorem l2{α:Type}:∀{us:List α},us.length=2->∃a b,us=[a,b]
 |[a,b],_=>⟨a,b,rfl⟩
theorem l3{α:Type}:∀{us:List α},us.length=3->∃a b c,us=[a,b,c]
 |[a,b,c],_=>⟨a,b,c,rfl⟩
theorem l4{α:Type}:∀{us:List α},us.length=4->∃a b c d,us=[a,b,c,d]
 |[a,b,c,d],_=>⟨a,b,c,d,rfl⟩
theorem l5{α:Type}:∀{us:List α},us.length=5->∃a b c d e,us=[a,b,c,d,e]
 |[a,b,c,d,e],_=>⟨a,b,c,d,e,rfl⟩
theorem l6{α:Type}:∀{us:List α},us.length=6->∃a b c d e f,us=[a,b,c,d,e,f]
 |[a,b,c,d,e,f],_=>⟨a,b,c,d,e,f,rfl⟩
variable {X : Cx}
theorem px(K:PySem.W.Frag){a b:Expr}{ta tb:TE}{pos:Pos}(ha:PE X a ta)(hb:PE X b tb)(hs:cf1 b:=by exact λ_ _=>rfl)(hK:X.K=K:=by rfl):PE X (.Subscript a b pos) (tOp (rIx K) ta tb):=ej6 (ez6 K hK) ha hb hs
theorem pz(i:Nat){x:Str}{e:Expr}{te:TE}{pos pos':Pos}{q:List Str}{c:Scope}(S:aY X.N q c)(he:PE X e te)(hi:X.N[i]?=some x:=by rfl)(hx:Loc X.env.scope x:=by first|exact .inl rfl|exact .inr rfl)(hs:swapsWith e (some (.Name x pos')) pos.line X.env=pure false:=by rfl)(hf:X.fn x=true\/X.env.scope.names.lookup x=some .local:=by first|exact .inl rfl|exact .inr rfl|assumption):PS X (.Assign [.Name x pos'] e pos) (ae9 te (ad3 i)):=eq0 S.nd hi hx he hs hf
theorem pn(i:Nat){x:Str}{pos:Pos}{q:List Str}{c:Scope}(S:aY X.N q c)(hi:X.N[i]?=some x:=by rfl)(hx:Loc X.env.scope x:=by first|exact .inl rfl|exact .inr rfl)(hf:X.fn x=true\/X.env.scope.names.lookup x=some .local:=by first|exact .inl rfl|exact .inr rfl|assumption):PG X (.Name x pos) (ad3 i):=dr7 S.nd hi hx hf
theorem pf{k n:Nat}{x:Str}{ps:List Str}{sp:Sp}{p pos:Pos}{e:Expr}{es:List Expr}{t:TA}(d:dQ X.prog X.w X.K X.mg X.base k x ps sp)(hr:Room n X.A)(ha:PA X (e::es) t)(hk:k<=n:=by decide)(hg:Gl X x:=by rfl)
 (hdb:(x==("__debug__":Str))=false:=by decide)(he:starEach (e::es) X.env=(false,eval e X.env)::starEach es X.env:=by rfl)(hpl:(backTo pos (starEach es X.env)).any (·.1)=false:=by rfl):PE X (.Call (.Name x p) (e::es) [] pos) (cz4 sp t):=ei3 d (hr.mono hk) ha hg hdb he hpl
theorem aM{e:Expr}{te:TE}(ha:PE X e te)(hs:starEach [e] X.env=[(false,eval e X.env)]:=by rfl):PA X [e] (vC te au5):=aF ha qZ hs
theorem pc{a b:Expr}{ta tb:TE}{pos:Pos}{op:CmpOp}{r:R2}(ho:OpR X (compareOp op) r)(ha:PE X a ta)(hb:PE X b tb)(h:op≠ .In:=by decide)(h2:op≠ .NotIn:=by decide):PT X (.Compare a [op] [b] pos) (bj4 (tOp r ta tb)):=bn0 ho ha hb (qN _ h h2)
theorem oe(K:PySem.W.Frag){k:Nat}(hr:Room k X.A)(hK:X.K=K:=by rfl):OpR X (compareOp .Eq) (cm5 K cX):=dy9 K hr (by decide) hK
theorem tP(K:PySem.W.Frag){o e:Expr}{es:List Expr}{to:TE}{t:TA}{apos cpos:Pos}(ho:PE X o to)(ha:PA X (e::es) t)(hbase:attributeBase o "append" X.env (eval o X.env)=eval o X.env:=by rfl)
 (hfew:((backTo cpos (starEach (e::es) X.env)).all (λx=>!x.1)&&(backToKw cpos (keywordEach [] X.env)).all (λx=>x.1.isSome)
  &&decide ((e::es).length+([]:List Keyword).length+(if([]:List Keyword).isEmpty then 0 else 1)<30))=true:=by rfl)
 (hline:(apos.endLine==cpos.line)=true:=by rfl)(hs:starEach (e::es) X.env=(false,eval e X.env)::starEach es X.env:=by rfl)(hplain:(backTo cpos (starEach es X.env)).any (·.1)=false:=by rfl)(hK:X.K=K:=by rfl):
 PE X (.Call (.Attribute o "append" apos) (e::es) [] cpos) (tBM K "list" bd0 to t):=xQ K PySem.F.plainAttrs_list PySem.F.slot_list_append PySem.F.type_list_append ch9 ho ha hbase hfew hline hs hplain hK
theorem pm(ks:List Nat){tg iter elt:Expr}{ifs:List Expr}{scope:Scope}{pos:Pos}{wi:TI}{g:TG}{tc:TT}{te:TE}(hit:PI X tg iter wi)
 (hg:∀cl C s₀ H₀ ex,PG (nJ X scope cl C s₀ H₀ ex) tg g)(hi:∀cl C s₀ H₀ ex,PIf (nJ X scope cl C s₀ H₀ ex) ifs tc)(he:∀cl C s₀ H₀ ex,PE (nJ X scope cl C s₀ H₀ ex) elt te)(S:CScope X ks scope:=by exact⟨rfl,by decide+kernel,by decide+kernel,by rfl,by rfl⟩)(hc:X.calm=true:=by rfl)
 (hs:∀x,foldedSetIterable iter X.env x=pure x:=by intro _;rfl):PE X (.ListComp elt [⟨tg,iter,ifs,0⟩] scope pos) (cw2 ks wi g tc te):=dc7 S hc hit hg hi he hs
theorem pk(i:Nat){y:Str}{py spos:Pos}{q:List Str}{c:Scope}(F:aY X.N q c)(ks:List Nat){tg iter elt:Expr}{ifs:List Expr}{scope:Scope}{pos:Pos}{wi:TI}{g:TG}{tc:TT}{te:TE}(hit:PI X tg iter wi)
 (hg:∀cl C s₀ H₀ ex,PG (nJ X scope cl C s₀ H₀ ex) tg g)(hi:∀cl C s₀ H₀ ex,PIf (nJ X scope cl C s₀ H₀ ex) ifs tc)(he:∀cl C s₀ H₀ ex,PE (nJ X scope cl C s₀ H₀ ex) elt te)(hi':X.N[i]?=some y:=by rfl)(hy:Loc X.env.scope y:=by first|exact .inl rfl|exact .inr rfl)(S:CScope X ks scope:=by exact⟨rfl,by decide+kernel,by decide+kernel,by rfl,by rfl⟩)(hc:X.calm=true:=by rfl)
 (hsw:swapsWith (.ListComp elt [⟨tg,iter,ifs,0⟩] scope pos) (some (.Name y py)) spos.line X.env=pure true:=by rfl)
 (hs:∀x,foldedSetIterable iter X.env x=pure x:=by intro _;rfl)(hf:X.fn y=true\/X.env.scope.names.lookup y=some .local:=by first|exact .inl rfl|exact .inr rfl|assumption):PS X (.Assign [.Name y py] (.ListComp elt [⟨tg,iter,ifs,0⟩] scope pos) spos) (ax5 i ks wi g tc te):=cn3 F.nd hi' hy S hc hit hg hi he hsw hs hf
end
section
local macro_rules | `(tactic| walk_at "u") => `(tactic| (intro _ _ _ _ _ _ us hl; first | (obtain ⟨_, e⟩ := l1 hl; subst e; exact rfl) | (obtain ⟨_, _, e⟩ := l2 hl; subst e; exact rfl) | (obtain ⟨_, _, _, e⟩ := l3 hl; subst e; exact rfl) | (obtain ⟨_, _, _, _, e⟩ := l4 hl; subst e; exact rfl) | (obtain ⟨_, _, _, _, _, e⟩ := l5 hl; subst e; exact rfl) | (obtain ⟨_, _, _, _, _, _, e⟩ := l6 hl; subst e; exact rfl)))
local macro_rules | `(tactic| walk_at "s") => `(tactic| exact ⟨rfl, rfl, rfl, by decide +kernel, rfl, by decide +kernel, by decide +kernel⟩)
theorem bl9:aY ["_law_script","_law_at"] ["_law_script","_law_at"] (aO ai6):=by walk_at "s"
theorem aj1:aY ["_law_cell_here","_law_some"] ["_law_cell_here"] (aO ac4):=by walk_at "s"
theorem nC:aY ["_law_number","_law_k","_law_upper","_law_lower","_law_found"] ["_law_number","_law_k"] (aO ak4):=by walk_at "s"
theorem dN:aY ["_law_script","_law_most","_law_cell_here","_law_span","_law_first","_law_names_here","_law_inks","_law_k","_law_dark","_law_table","_law_j","_law_begin","_law_reigns"] ["_law_script","_law_most"] (aO aa4):=by walk_at "s"
theorem rL:aY ["_law_cell_here","_law_many","_law_rest","_law_found","_law_k"] ["_law_cell_here","_law_many"] (aO bo2):=by walk_at "s"
theorem am0:aY ["_law_cell_here","_law_frame_here","_law_x"] ["_law_cell_here","_law_frame_here"] (aO as2):=by walk_at "s"
theorem mH:aY ["_law_xs","_law_frame_here","_law_one","_law_other","_law_names_here","_law_low","_law_high"] ["_law_xs","_law_frame_here","_law_one","_law_other"] (aO af7):=by walk_at "s"
theorem cU:aY ["_law_number","_law_frame_here","_law_letter","_law_year","_law_name","_law_rest","_law_ink","_law_table","_law_error","_law_dark","_law_ages","_law_age","_law_at","_law_reign","_law_begin","_law_length","_law_low","_law_high"] ["_law_number","_law_frame_here","_law_letter","_law_year"] (aO aw2):=by walk_at "s"
theorem jC:aY ["_law_number","_law_frame_here","_law_letters","_law_gap","_law_names_here","_law_rest","_law_many","_law_low","_law_high","_law_letter"] ["_law_number","_law_frame_here","_law_letters","_law_gap"] (aO ah2):=by walk_at "s"
theorem eR:aY ["_law_cells","_law_frame_here","_law_false","_law_hidden_here","_law_many","_law_span","_law_told","_law_cell_here","_law_xs","_law_one","_law_years","_law_other","_law_k"] ["_law_cells","_law_frame_here","_law_false","_law_hidden_here"] (aO ah0):=by walk_at "s"
theorem bn9:aY ["some"] ["some"] (aO an7):=by walk_at "s"
theorem ap5:aY ["some","low","high"] ["some","low","high"] (aO wY):=by walk_at "s"
theorem bn8:aY ["first","present"] ["first","present"] (aO af4):=by walk_at "s"
theorem ak0:aY ["word","signs","most","sign"] ["word","signs","most"] (aO ap1):=by walk_at "s"
theorem ck3:aY ["word"] ["word"] (aO bv1):=by walk_at "s"
theorem ag2:aY ["names","least","most","name"] ["names","least","most"] (aO av3):=by walk_at "s"
theorem xB:aY ["some","dark","age"] ["some"] (aO ah7):=by walk_at "s"
theorem oN:aY ["inks","name","table"] ["inks"] (aO ak6):=by walk_at "s"
theorem bk9:aY ["begin","length"] ["begin","length"] (aO ae7):=by walk_at "s"
theorem iY:aY ["reigns","name","begin","length"] ["reigns"] (aO ao1):=by walk_at "s"
theorem iS:aY ["self","first","present","letters","inks","reigns","name","table","begin","length"] ["self","first","present","letters","inks","reigns"] (aO kO):=by walk_at "s"
theorem oE:aY ["_law_frame_here","_law_inks","_law_name","_law_table"] ["_law_frame_here"] (aO ag0):=by walk_at "s"
theorem ac2:aY ["archive","due","part","ink","reign"] ["archive","due","part"] (aO bp6):=by walk_at "s"
theorem zJ:aY ["archive","word","parts","due","part"] ["archive","word","parts"] (aO br1):=by walk_at "s"
theorem pR:aY ["self","name","other","table"] ["self","name"] (aO kE):=by walk_at "s"
theorem rV:aY ["table","dark","error","greatest","last","ages","most","age"] ["table","dark","error","greatest"] (aO bc2):=by walk_at "s"
theorem bz1:aY ["parts","part"] ["parts"] (aO bn6):=by walk_at "s"
theorem dX:aY ["self","archive","word","parts","low","high","names","part","due","name"] ["self","archive","word","parts","low","high"] (aO eN):=by walk_at "s"
theorem al0:aY ["archive","parts","ages"] ["archive","parts"] (aO ao2):=by walk_at "s"
theorem wW:aY ["archive","name","reign"] ["archive","name"] (aO yJ):=by walk_at "s"
theorem by2:aY ["begin","length","k"] ["begin","length","k"] (aO aq2):=by walk_at "s"
theorem qO:aY ["archive","parts","reign","year"] ["archive","parts"] (aO yR):=by walk_at "s"
theorem wT:aY ["archive","parts","reign"] ["archive","parts"] (aO yL):=by walk_at "s"
theorem ap3:aY ["archive","parts"] ["archive","parts"] (aO wA):=by walk_at "s"
theorem as7:aY ["archive","parts"] ["archive","parts"] (aO yD):=by walk_at "s"
theorem bx0:aY ["archive","parts"] ["archive","parts"] (aO ap0):=by walk_at "s"
theorem as5:aY ["archive","parts"] ["archive","parts"] (aO wO):=by walk_at "s"
theorem aw7:aY ["archive","parts"] ["archive","parts"] (aO yO):=by walk_at "s"
theorem bv5:aY ["archive","word","parts"] ["archive","word","parts"] (aO az3):=by walk_at "s"
theorem oT:aY ["_law_archive_here","_law_told","_law_word","_law_parts","_law_letters","_law_bounds"] ["_law_archive_here","_law_told"] (aO ab8):=by walk_at "s"
theorem iP:aY ["_law_frame_here","_law_told","_law_found","_law_k","_law_letters","_law_low","_law_high","_law_other","_law_letter"] ["_law_frame_here","_law_told"] (aO ao4):=by walk_at "s"
theorem fU:aY ["self"] ["self"] (aO dY):=by walk_at "s"
theorem fM:aY ["self"] ["self"] (aO dI):=by walk_at "s"
theorem kC:aY ["saying","number","letters","bounds","other","steps"] ["saying","number"] (aO yN):=by walk_at "s"
theorem bx2:aY ["archive","letter"] ["archive","letter"] (aO au0):=by walk_at "s"
theorem oU:aY ["archive","sayings","steps","number","saying","letter"] ["archive","sayings"] (aO av6):=by walk_at "s"
theorem bq9:aY ["end","ground"] ["end","ground"] (aO am6):=by walk_at "s"
theorem ag7:aY ["step","years","ground"] ["step","years"] (aO bg2):=by walk_at "s"
theorem kX:aY ["steps","years","raisers","ground","raised","step"] ["steps","years","raisers"] (aO ai0):=by walk_at "s"
theorem iC:aY ["raisers","place","ground","turn","ring","end"] ["raisers","place"] (aO aj0):=by walk_at "s"
theorem jB:aY ["archive","steps","ground","years","raisers","raised","turn"] ["archive","steps"] (aO ax1):=by walk_at "s"
theorem cb2:aY ["archive","sayings"] ["archive","sayings"] (aO bm2):=by walk_at "s"
theorem by4:aY ["_law_found"] ["_law_found"] (aO aj4):=by walk_at "s"
theorem xS:aY ["_law_step","_law_steps_here","_law_end"] ["_law_step","_law_steps_here"] (aO ar0):=by walk_at "s"
theorem kH:aY ["_law_chain","_law_steps_here","_law_start","_law_end","_law_here","_law_step"] ["_law_chain","_law_steps_here","_law_start","_law_end"] (aO xM):=by walk_at "s"
theorem kW:aY ["_law_ring","_law_steps_here","_law_starts","_law_step","_law_k"] ["_law_ring","_law_steps_here"] (aO aq0):=by walk_at "s"
theorem gR:aY ["_law_years","_law_steps_here","_law_start","_law_end","_law_cost","_law_number","_law_here","_law_there"] ["_law_years","_law_steps_here"] (aO ax3):=by walk_at "s"
theorem vT:aY ["_law_years","_law_many","_law_steps_here","_law_year"] ["_law_years","_law_many","_law_steps_here"] (aO wX):=by walk_at "s"
theorem mB:aY ["_law_steps_here","_law_one","_law_other","_law_cost","_law_number"] ["_law_steps_here"] (aO as0):=by walk_at "s"
theorem bs6:aY ["_law_end","_law_many"] ["_law_end","_law_many"] (aO ae4):=by walk_at "s"
theorem fE:aY ["_law_row_here","_law_steps_here","_law_start","_law_many","_law_found","_law_turn","_law_one","_law_other","_law_cost","_law_number","_law_here","_law_there"] ["_law_row_here","_law_steps_here","_law_start"] (aO ao0):=by walk_at "s"
theorem az0:aY ["_law_found","_law_many","_law_steps_here","_law_year"] ["_law_found","_law_many","_law_steps_here"] (aO ad4):=by walk_at "s"
theorem jO:aY ["_law_script","_law_frame_here","_law_false","_law_hidden_here","_law_told","_law_archive_here","_law_sayings_here","_law_steps_here","_law_many","_law_found","_law_word","_law_at","_law_less","_law_other","_law_again"] ["_law_script"] (aO uV):=by walk_at "s"
variable {P : Program} {w : World} {K : PySem.W.Frag} {cn : Str → Option Addr} {mg : Str → Option Value} {base : Heap} {c_Archive c_Ink c_Reign c_Under c_Between c_After c_Same c_Within c_Apart : Addr} {qG vI iE : List (Str × Value)} (T : Txt w K cn mg c_Archive c_Ink c_Reign c_Under c_Between c_After c_Same c_Within c_Apart qG vI iE)
include T
theorem df2:jU K cn ["Archive"] "first":=bK T.lY T.oH T.ad6 (jI)
theorem df7:jU K cn ["Ink","Reign","Under","Between","After","Same","Within","Apart"] "high":=bK T.wH T.yU T.bu9 (bK T.pZ T.sK T.bs3 (bK T.pX T.sO T.br3 (bK T.lZ T.oI T.ap8 (bK T.pY T.sM T.ba4 (bK T.sN T.vJ T.bq8 (bK T.nO T.qH T.bi1 (bK T.pW T.sL T.bu3 (jI))))))))
theorem dm6:jU K cn ["Archive"] "inks":=bK T.lY T.oH T.al8 (jI)
theorem ca5:jU K cn ["Archive"] "letters":=bK T.lY T.oH T.ab3 (jI)
theorem eh3:jU K cn ["Ink","Reign","Under","Between","After","Same","Within","Apart"] "low":=bK T.wH T.yU T.ce6 (bK T.pZ T.sK T.by8 (bK T.pX T.sO T.bo8 (bK T.lZ T.oI T.bj1 (bK T.pY T.sM T.bb9 (bK T.sN T.vJ T.cf0 (bK T.nO T.qH T.bw3 (bK T.pW T.sL T.bc9 (jI))))))))
theorem cm2:jU K cn ["Archive"] "present":=bK T.lY T.oH T.ac3 (jI)
theorem cc8:jU K cn ["Archive"] "reigns":=bK T.lY T.oH T.as3 (jI)
theorem cw6:jU K cn ["Ink","Reign","Under","Between","After","Same","Within","Apart"] "spoken":=bK T.wH T.yU T.bc4 (bK T.pZ T.sK T.aj8 (bK T.pX T.sO T.ar8 (bK T.lZ T.oI T.at3 (bK T.pY T.sM T.ao8 (bK T.sN T.vJ T.bd1 (bK T.nO T.qH T.aa6 (bK T.pW T.sL T.aq8 (jI))))))))
theorem dy8:jU K cn ["Ink","Reign","Under","Between","After","Same","Within","Apart"] "text":=bK T.wH T.yU T.ch0 (bK T.pZ T.sK T.bg4 (bK T.pX T.sO T.bv3 (bK T.lZ T.oI T.au8 (bK T.pY T.sM T.bo3 (bK T.sN T.vJ T.bs8 (bK T.nO T.qH T.bo1 (bK T.pW T.sL T.by3 (jI))))))))
theorem dd4:at5 K cn 2 tm_table [(c_Archive,bN K cn 2 fW)]:=eX T.lY (au4)
theorem dp0:at5 K cn 1 tm_about [(c_Ink,bN K cn 1 bC),(c_Reign,bN K cn 1 bC),(c_Under,bN K cn 1 bC),(c_Between,bN K cn 1 bC),(c_After,bN K cn 1 bC),(c_Same,bN K cn 1 bC),(c_Within,bN K cn 1 bC),(c_Apart,bN K cn 1 bC)]:=eX T.wH (eX T.pZ (eX T.pX (eX T.lZ (eX T.pY (eX T.sN (eX T.nO (eX T.pW (au4))))))))
theorem cm9:at5 K cn 1 tm_bounds [(c_Ink,bN K cn 1 aW),(c_Reign,bN K cn 1 aW),(c_Under,bN K cn 1 aW),(c_Between,bN K cn 1 aW),(c_After,bN K cn 1 aW),(c_Same,bN K cn 1 aW),(c_Within,bN K cn 1 aW),(c_Apart,bN K cn 1 aW)]:=eX T.wH (eX T.pZ (eX T.pX (eX T.lZ (eX T.pY (eX T.sN (eX T.nO (eX T.pW (au4))))))))
local macro_rules | `(tactic| walk_at "b") => `(tactic| first | exact .inl rfl | exact .inr rfl)
local macro_rules | `(tactic| walk_at "rr") => `(tactic| first | exact ee5 | exact eg6 | exact eq6 | exact ez3 | exact el7 | exact ed7 | exact en6 | exact er7 | exact ep5 | exact dx8 | exact ey6 | exact ef6 | exact et7 | exact ej7 | exact ec7 | exact dv9)
local macro_rules | `(tactic| walk_at "rc") => `(tactic| first | exact eh6 | exact ep3 | exact eo6 | exact eb5 | exact et4 | exact ek4 | exact ev4 | exact ds4 | exact dl2 | exact ej2 | exact eu4 | exact dm1 | exact ez4 | exact eo2)
local macro_rules | `(tactic| walk_at "rf") => `(tactic| first | exact df2 ‹_› | exact df7 ‹_› | exact dm6 ‹_› | exact ca5 ‹_› | exact eh3 ‹_› | exact cm2 ‹_› | exact cc8 ‹_› | exact cw6 ‹_› | exact dy8 ‹_›)
local macro_rules | `(tactic| walk_at "r") => `(tactic| with_reducible first
 | exact eg4 _
 | exact eg1
 | exact dd8
 | (refine es5 ?_ ?_ <;> walk_at "r")
 | (refine ex2 ?_ ?_; walk_at "rf"; walk_at "r")
 | (refine RE.rb (mv := []) ?_; walk_at "r")
 | (refine dc4 ?_ ?_ <;> walk_at "r")
 | (refine eh5 ?_ ?_ ?_; walk_at "rr"; walk_at "r"; walk_at "r")
 | (apply eq4; walk_at "r"; walk_at "r"; with_unfolding_all exact rfl; with_unfolding_all exact rfl)
 | exact eq1
 | exact en3
 | (refine RB.chk ?_; walk_at "r")
 | (refine en4 ?_ ?_ <;> walk_at "r")
 | (refine ci5 ?_ ?_ ?_ ?_ ?_ ?_; walk_at "r"; walk_at "r"; walk_at "r"; walk_at "r"; with_unfolding_all exact rfl; with_unfolding_all exact rfl)
 | (apply ci9 <;> walk_at "r")
 | (refine cr0 _ ?_; with_unfolding_all exact rfl)
 | (refine dx9 ?_; walk_at "r")
 | (refine el5 ?_ ?_; walk_at "rc"; walk_at "r")
 | (refine ec4 ?_; walk_at "r")
 | (refine en5 ?_ ?_ ?_ <;> walk_at "r")
 | exact do7
 | exact dq7
 | exact dg2
 | exact ea1
 | exact ea0
 | exact ex4
 | exact et5
 | (refine cn1 ?_; walk_at "r")
 | (refine ej0 ?_; walk_at "r")
 | (refine eu1 ?_; walk_at "r")
 | (refine ep0 ?_ ?_ <;> walk_at "r")
 | (refine er5 ?_ ?_ <;> walk_at "r")
 | (apply ed3; walk_at "r")
 | (apply ei0; walk_at "r")
 | exact ec6 _
 | (apply ej1; walk_at "r")
 | exact dn9
 | (apply ex0; walk_at "r"; walk_at "r"; with_unfolding_all exact rfl)
 | (apply eu2 <;> walk_at "r")
 | (refine dj3 ?_ ?_ <;> walk_at "r")
 | (refine db7 ?_; walk_at "r")
 | (refine ey7 ?_; walk_at "r")
 | (refine eu7 ?_; walk_at "r")
 | (refine dt7 ?_; walk_at "r")
 | (refine dk9 ?_; walk_at "r")
 | (refine ds9 ?_; walk_at "r")
 | exact el4 _
 | (refine ey5 ?_ ?_ <;> walk_at "r")
 | (refine ew0 ?_ ?_ ?_; walk_at "r"; walk_at "r"; with_unfolding_all exact rfl)
 | (refine eh0 ?_ ?_ ?_ ?_; (first | exact ec5 | exact er4); walk_at "r"; walk_at "r"; with_unfolding_all exact rfl)
 | (refine ey2 ?_ ?_ ?_; walk_at "rf"; walk_at "r"; walk_at "r")
 | (refine ex3 ?_ ?_ ?_ <;> walk_at "r")
 | (refine cs0 ?_ ?_ ?_ ?_ ?_; walk_at "r"; walk_at "r"; walk_at "r"; walk_at "r"; with_unfolding_all exact rfl)
 | (refine eb6 ex7 ?_ ?_ ?_ <;> walk_at "r")
 | exact da8
 | (refine dk8 ?_; walk_at "r")
 | (refine ez5 ed5 ?_; walk_at "r")
 | (refine dq3 ?_ ?_ ?_ ?_ ?_; walk_at "rr"; walk_at "rr"; walk_at "r"; walk_at "r"; walk_at "r")
 | (refine ds7 ?_ ?_ <;> walk_at "r")
 | (refine dh8 ?_; walk_at "r")
 | (refine el6 ?_ ?_ ?_ <;> walk_at "r")
 | (refine RE.frz ?_; walk_at "r")
 | (refine RE.frz1 ?_; walk_at "r")
 | (refine dh3 ?_ ?_ ?_; (first | exact dp0 ‹_› | exact cm9 ‹_› | exact dd4 ‹_›); walk_at "r"; walk_at "r")
 | (refine da9 ?_ ?_; (first | exact Txt.pY ‹_› | exact Txt.pW ‹_› | exact Txt.lY ‹_› | exact Txt.lZ ‹_› | exact Txt.wH ‹_› | exact Txt.pZ ‹_› | exact Txt.sN ‹_› | exact Txt.pX ‹_› | exact Txt.nO ‹_›); walk_at "r")
 | (refine dj7 ?_ ?_; (first | exact Txt.g_NUMBERS ‹_› | exact Txt.g_PARTS ‹_›); walk_at "r")
 | (refine dw7 ?_ ?_; (first | exact Txt.g_NUMBERS ‹_› | exact Txt.g_PARTS ‹_›); walk_at "r")
 | (refine dl5 ca7 dj9 ?_ ?_ <;> walk_at "r")
 | (refine dl5 cd8 er2 ?_ ?_ <;> walk_at "r")
 | (with_unfolding_all refine cn1 ?_; walk_at "r")
 | (refine dg9 ?_; walk_at "r")
 | (refine dg1 (by decide) (by decide) (by decide) ?_ ?_ ?_ <;> with_unfolding_all exact rfl)
 | (refine dv0 ?_ ?_ <;> walk_at "r"))
theorem uJ:dQ P w K mg base 1 "_law_cell" ["_law_script","_law_at"] (bN K cn 2 jF):=by
 refine bH (d:=uF) T.cb6 bl9 (by walk_at "u") (λf cdv A outer s H E hr=>⟨_,(aH (bV (pc ae3 (pv 1) (aV (bW K) rfl T.eE cZ (aM (pv 0)))) (aK (aU (px K (pv 0) (pv 1)))) bJ)
 (aK (aU aG))),by unfold uF;walk_at "r"⟩) rfl (λ_=>rfl)
theorem bs9:dQ P w K mg base 1 "_law_names" ["_law_cell_here"] (bN K cn 1 tG):=by
 refine bH (d:=sW) T.by9 aj1 (by walk_at "u") (λf cdv A outer s H E hr=>⟨_,(aH (pz 1 aj1 (cW (aF bT (aF bT (aF bT (aF bT (aF bT (aF bT (aF bT (aM bT))))))))))
 (aK (aU (aL (bG K) (iD (sJ K) (pv 1) (iB (aL bU (pv 0) aG)) lE) (iD (sJ K) (pv 1) lE (iB (aL bU (pv 0) aG))))))),by unfold sW;walk_at "r"⟩) rfl (λ_=>rfl)
theorem fZ:dQ P w K mg base 1 "_law_whirl" ["_law_number","_law_k"] (bN K cn 2 eT):=by
 refine bH (d:=sX) T.bx9 nC (by walk_at "u") (λf cdv A outer s H E hr=>⟨_,(aH (pz 0 nC (aL (bG K) (aL (bG K) (aL bU (pv 0) aG) (aL mG aG (pv 1))) aG))
 (aH (ax2 (aV (bw7 K) rfl T.dg5 cs9 (aF (aL bU (aL mG (pv 0) aG) aG) (aM aG))) (fO K 2 rfl (bL (pn 2 nC) (bL (pn 3 nC) fP))))
 (aH (pz 4 nC (aL (bG K) (aL (bG K) (aL (bG K) (aL mG (pv 2) (pv 3)) (aL mG aG (pv 2))) (aL mG aG (pv 3))) (pv 1)))
 (aK (aU (aL bU (aL mG (pv 4) (aL (bG K) (aL bU (pv 4) aG) aG)) aG)))))),by unfold sX;walk_at "r"⟩) rfl (λ_=>rfl)
theorem bf9:dQ P w K mg base 2 "_law_frame" ["_law_script","_law_most"] (bN K cn 2 tE):=by
 refine bH (d:=sP) T.bw9 dN (by walk_at "u") (λf cdv A outer s H E hr=>⟨_,(aH (pz 2 dN (aL bU (pf (uJ T:) hr (aF (pv 0) (aM aG))) (aL ba7 aG aG)))
 (aH (pz 3 dN (px K (cW (aF aG (aF aG (aF aG (aF aG (aF aG (aF aG (aF aG (aM aG))))))))) (aL bU (pv 2) aG)))
 (aH (pz 4 dN (px K (cW (aF (wJ tQ aG) (aF (aL cJ aG (pv 3)) (aF (wJ tQ aG) (aM aG))))) (aL bU (aL gK (pv 2) aG) aG)))
 (aH (pz 5 dN (iD (sJ K) (pf (bs9 T:) hr (aM (aL gK (pv 2) aG))) lE (iB (aL (bG K) aG (aL bU (aL gK (pv 2) aG) (pv 1))))))
 (aH (pz 6 dN (cW qZ))
 (aH (gE PassesOwn.never rfl (fV rfl T.gW (aM (aL (bG K) aG (aL bU (pf (fZ T:) hr (aF (pv 2) (aM aG))) aG)))) (pn 7 dN) (aH (pz 8 dN (aL (bG K) aG (aL bU (aL gK (pv 2) aG) aG)))
 (aH (pz 9 dN (cW (aM (pv 8))))
 (aH (gE PassesOwn.never rfl (fV rfl T.gW (aM (aL bU (pf (fZ T:) hr (aF (pv 2) (aM (pv 7)))) (px K (cW (aF aG (aM aG))) (aL gK (aL bU (aL gK (pv 2) aG) aG) aG))))) (pn 10 dN) (aH (pz 8 dN (aV (tS K) rfl T.an8 ab1 (aF aG (aM (aL cJ (pv 8) (aL bU (pf (fZ T:) hr (aF (pv 2) (aM (aL (bG K) (aL mG aG (pv 10)) (pv 7))))) aG))))))
 (aK (fJ (tP K (pv 9) (aM (pv 8)))))))
 (aK (fJ (tP K (pv 6) (aM (bY (aF (px K (cW (aF bT (aF bT (aF bT (aF bT (aF bT (aM bT))))))) (pv 7)) (aM (pv 9))))))))))))
 (aH (pz 11 dN (aL (bG K) (aL cJ (pv 4) aG) (aL bU (pf (fZ T:) hr (aF (pv 2) (aM aG))) (aL (bG K) (pv 3) aG))))
 (aH (pz 12 dN (cW (aF (bY (aF bT (aF (pv 11) (aM (aL (bG K) aG (aL bU (pf (fZ T:) hr (aF (pv 2) (aM aG))) aG)))))) (aM (bY (aF bT (aF (aL (bG K) (pv 11) aG) (aM (aL (bG K) aG (aL bU (pf (fZ T:) hr (aF (pv 2) (aM aG))) aG))))))))))
 (aH (gE PassesOwn.never rfl (fV rfl T.gW (aM (aL bU (pf (fZ T:) hr (aF (pv 2) (aM aG))) aG))) (pn 7 dN) (aH (pz 11 dN (aL cJ (aL (bG K) (pv 11) (aL bU (pf (fZ T:) hr (aF (pv 2) (aM (aL (bG K) aG (pv 7))))) aG)) aG))
 (aK (fJ (xQ K PySem.F.plainAttrs_list PySem.F.slot_list_insert PySem.F.type_list_insert cr8 (pv 12) (aF aG (aM (bY (aF (px K (cW (aF bT (aF bT (aF bT (aF bT (aF bT (aM bT))))))) (pv 7)) (aF (pv 11) (aM (aL (bG K) aG (aL bU (pf (fZ T:) hr (aF (pv 2) (aM (aL (bG K) aG (pv 7))))) aG)))))))))))))
 (aK (aU (bY (aF (pv 4) (aF (aL (bG K) (pv 4) (pv 3)) (aF (pv 5) (aF (pv 6) (aM (pv 12)))))))))))))))))),by unfold sP;walk_at "r"⟩) rfl (λ_=>rfl)
theorem bs1:dQ P w K mg base 2 "_law_row" ["_law_cell_here","_law_many"] (bN K cn 2 qA):=by
 refine bH (d:=wU) T.di0 rL (by walk_at "u") (λf cdv A outer s H E hr=>⟨_,(aH (pz 2 rL (aL bU (aV (ar2 K) rfl T.cg6 bi7 (aM (pv 0))) (aL ba7 aG aG)))
 (aH (pz 3 rL (cW qZ))
 (aH (gE PassesOwn.never rfl (fV rfl T.gW (aM (pv 1))) (pn 4 rL) (aK (bV (PW.pt (lN (pc ae3 (pv 0) aG) (mC (pc dr5 (pv 0) (aL ba7 aG aG))))) (aH (fJ (tP K (pv 3) (aM (aL bU (pv 2) aG))))
 (aK (pz 2 rL (aL gK (pv 2) aG)))) (aK (fJ (tP K (pv 3) (aM (pf (fZ T:) hr (aF (aL (bG K) (pf (fZ T:) hr (aF (pv 0) (aM (pv 4)))) (pv 0)) (aM (pv 4)))))))))))
 (aK (aU (pv 3)))))),by unfold wU;walk_at "r"⟩) rfl (λ_=>rfl)
theorem bu7:dQ P w K mg base 3 "_law_hidden" ["_law_cell_here","_law_frame_here"] (bN K cn 2 qI):=by
 refine bH (d:=rA) T.bx8 am0 (by walk_at "u") (λf cdv A outer s H E hr=>⟨_,(aK (aU (pm [2] (fY K (pf (bs1 T:) hr (aF (pv 0) (aM (aV (bW K) rfl T.eE cZ (aM (px K (pv 1) aG))))))) (λ_ _ _ _ _=>(pn 2 am0)) (λ_ _ _ _ _=>dH) (λ_ _ _ _ _=>(aL (bG K) (px K (pv 1) aG) (aL bU (pv 2) (aL (bG K) (aL cJ (px K (pv 1) aG) (px K (pv 1) aG)) aG))))))),by unfold rA;walk_at "r"⟩) rfl (λ_=>rfl)
theorem cs4:dQ P w K mg base 1 "_law_free" ["_law_xs","_law_frame_here","_law_one","_law_other"] (bN K cn 4 rE):=by
 refine bH (d:=uR) T.cz5 mH (by walk_at "u") (λf cdv A outer s H E hr=>⟨_,(aH (pz 4 mH (cW (aF (px K (px K (pv 1) aG) (pv 2)) (aM (px K (px K (pv 1) aG) (pv 3))))))
 (aH (bV (PW.pt (lN (pc (oe K hr) (pv 2) (pv 3)) (mC (pc (oe K hr) (aL bU (px K (pv 0) aG) aG) aG)))) (aH (pz 5 mH (aL (bG K) (aL cJ (px K (pv 1) aG) aG) (aL bU (px K (pv 0) aG) (aL (bG K) (aL cJ (px K (pv 1) aG) (px K (pv 1) aG)) aG))))
 (aH (pz 6 mH (aL (bG K) (pv 5) (aL bU (px K (pv 0) aG) aG)))
 (aK (aU (bY (aF bT (aF (aL (bG K) (iD (sJ K) (pv 4) lE (iB aG)) (cW (aF (pv 5) (aM (pv 6))))) (aF (bY (aM (pv 2))) (aM (bY (aF (pv 5) (aM (pv 6))))))))))))) bJ)
 (aH (pz 5 mH (aL cJ (aL bU (px K (pv 0) aG) aG) aG))
 (aH (pz 6 mH (aV (nG K) rfl T.ae0 vN (aF aG (aM (aL (bG K) (pv 5) (aL bU (px K (pv 0) aG) aG))))))
 (aK (aU (bY (aF bT (aF (aL (bG K) (pv 4) (cW (aF (pv 5) (aM (pv 6))))) (aF (bY (aF (pv 2) (aM (pv 3)))) (aM (bY (aF (pv 5) (aM (pv 6))))))))))))))),by unfold uR;walk_at "r"⟩) rfl (λ_=>rfl)
theorem bz7:dQ P w K mg base 1 "_law_of_one" ["_law_number","_law_frame_here","_law_letter","_law_year"] (bN K cn 4 nL):=by
 refine bH (d:=qY) T.bt8 cU (by walk_at "u") (λf cdv A outer s H E hr=>⟨_,(aH (pz 4 cU (px K (px K (pv 1) aG) (pv 2)))
 (aH (pz 5 cU (aL gK (pv 0) aG))
 (aH (bV (pc (oe K hr) (aL bU (pv 0) aG) aG) (aH (ax2 (px K (px K (pv 1) aG) (aL bU (pv 5) (aV (bW K) rfl T.eE cZ (aM (px K (pv 1) aG))))) (fO K 2 rfl (bL (pn 6 cU) (bL (pn 7 cU) fP))))
 (aH (pz 8 cU (aL bU (aL gK (pv 5) aG) aG))
 (aH (pz 9 cU (px K (pv 7) (aV (nG K) rfl T.ae0 vN (aF (aL cJ (px K (pv 1) aG) (pv 3)) (aM (aL cJ (aV (bW K) rfl T.eE cZ (aM (pv 7))) aG))))))
 (aH (pz 9 cU (aV (tS K) rfl T.an8 ab1 (aF aG (aM (aL cJ (aL (bG K) (pv 9) (aL bU (aL gK (pv 5) aG) (aL (bG K) (aL mG aG (pv 8)) aG))) (pv 8))))))
 (aH (pz 10 cU (cW qZ))
 (aH (gE PassesOwn.never rfl (fV rfl T.gW (aM (aL (bG K) (aL cJ (px K (pv 1) aG) (px K (pv 1) aG)) aG))) (pn 11 cU) (aK (bV (pc lM (aV (ar2 K) rfl T.cg6 bi7 (aM (aL cJ (px K (pv 7) (aV (nG K) rfl T.ae0 vN (aF (pv 11) (aM (aL cJ (aV (bW K) rfl T.eE cZ (aM (pv 7))) aG))))) (pv 9)))) (pv 8)) (aK (fJ (tP K (pv 10) (aM (pv 11))))) bJ)))
 (aK (aU (bY (aF bT (aF (cW (aF (pv 4) (aF (pv 6) (aF (pv 9) (aM (pv 8)))))) (aF (bY (aM (pv 2))) (aM (bY (aF (aL cJ (px K (pv 1) aG) (px K (pv 10) (wJ tQ aG))) (aM (aL cJ (px K (pv 1) aG) (px K (pv 10) aG)))))))))))))))))) bJ)
 (aH (pz 12 cU (aL bU (aL gK (pv 5) aG) (aV (bW K) rfl T.eE cZ (aM (px K (pv 1) aG)))))
 (aH (gE PassesOwn.never rfl (fY K (aL (bG K) (iD (sJ K) (px K (pv 1) aG) (iB (pv 12)) lE) (iD (sJ K) (px K (pv 1) aG) lE (iB (pv 12))))) (fO K 3 rfl (bL (pn 13 cU) (bL (pn 14 cU) (bL (pn 15 cU) fP)))) (aK (bV (PW.pt (mD (pc (oe K hr) (aL bU (pv 0) aG) aG) (kZ (af5 lM ae3 (pv 14) (pv 3) (aL (bG K) (pv 14) (pv 15)))))) (aH (bV (pc (oe K hr) (aL bU (pv 5) aG) aG) (aK (aU (bY (aF bT (aF (cW (aF (pv 4) (aF (pv 13) (aM (aL (bG K) (aL cJ (pv 3) (pv 14)) aG))))) (aF (bY (aM (pv 2))) (aM (bY (aF (pv 3) (aM (pv 3))))))))))) bJ)
 (aK (aU (bY (aF bT (aF (cW (aF (pv 4) (aM (pv 13)))) (aF (bY (aM (pv 2))) (aM (bY (aF (pv 14) (aM (aL cJ (aL (bG K) (pv 14) (pv 15)) aG)))))))))))) bJ)))
 (aH (pz 16 cU (aV (tS K) rfl T.an8 ab1 (aF (wJ tQ aG) (aM (aL cJ (pv 3) (aL bU (pv 5) aG))))))
 (aH (pz 17 cU (aV (nG K) rfl T.ae0 vN (aF aG (aM (aL (bG K) (pv 3) (aL bU (aL gK (pv 5) aG) aG))))))
 (aK (aU (bY (aF bT (aF (cW (aF (pv 4) (aF (pv 16) (aM (pv 17))))) (aF (bY (aM (pv 2))) (aM (bY (aF (pv 16) (aM (pv 17)))))))))))))))))),by unfold qY;walk_at "r"⟩) rfl (λ_=>rfl)
theorem bl7:dQ P w K mg base 1 "_law_of_two" ["_law_number","_law_frame_here","_law_letters","_law_gap"] (bN K cn 4 mV):=by
 refine bH (d:=qJ) T.bd9 jC (by walk_at "u") (λf cdv A outer s H E hr=>⟨_,(aH (pk 4 jC [9] (fY K (pv 2)) (λ_ _ _ _ _=>(pn 9 jC)) (λ_ _ _ _ _=>dH) (λ_ _ _ _ _=>(px K (px K (pv 1) aG) (pv 9))))
 (aH (pz 5 jC (aL gK (pv 0) aG))
 (aH (bV (PW.pt (mD (pc (oe K hr) (pv 3) aG) (kZ (pc (oe K hr) (aL bU (pv 0) aG) aG)))) (aK (aU (bY (aF bT (aF (pv 4) (aF (pv 2) (aM (bY (aF aG (aM aG)))))))))) bJ)
 (aH (bV (PW.pt (mD (pc ao7 (pv 3) aG) (kZ (pc ae3 (aL bU (pv 0) aG) aG)))) (aK (aU (bY (aF bT (aF (pv 4) (aF (pv 2) (aM (bY (aF aG (aM dG)))))))))) bJ)
 (aH (bV (PW.pt (mD (pc dr5 (pv 3) aG) (kZ (pc (oe K hr) (aL bU (pv 0) aG) aG)))) (aH (pz 6 jC (aV (nG K) rfl T.ae0 vN (aF aG (aM (aL (bG K) (pv 3) (aL bU (pv 5) aG))))))
 (aK (aU (bY (aF bT (aF (aL (bG K) (pv 4) (cW (aM (pv 6)))) (aF (pv 2) (aM (bY (aF aG (aM (pv 6)))))))))))) bJ)
 (aH (pz 7 jC (aV (tS K) rfl T.an8 ab1 (aF (wJ tQ aG) (aM (aL cJ (pv 3) (aL bU (pv 5) aG))))))
 (aH (pz 8 jC (aV (nG K) rfl T.ae0 vN (aF aG (aM (aL (bG K) (pv 3) (aL bU (aL gK (pv 5) aG) aG))))))
 (aK (aU (bY (aF bT (aF (aL (bG K) (pv 4) (cW (aF (pv 7) (aM (pv 8))))) (aF (pv 2) (aM (bY (aF (pv 7) (aM (pv 8)))))))))))))))))),by unfold qJ;walk_at "r"⟩) rfl (λ_=>rfl)
theorem bb3:dQ P w K mg base 3 "_law_sayings" ["_law_cells","_law_frame_here","_law_false","_law_hidden_here"] (bN K cn 4 pL):=by
 refine bH (d:=pD) T.bd4 eR (by walk_at "u") (λf cdv A outer s H E hr=>⟨_,(aH (pz 4 eR (aV (bW K) rfl T.eE cZ (aM (px K (pv 1) aG))))
 (aH (pz 5 eR (aL cJ (px K (pv 1) aG) (px K (pv 1) aG)))
 (aH (pz 6 eR (cW qZ))
 (aH (gE PassesOwn.never rfl (fY K (pv 0)) (pn 7 eR) (aH (pz 8 eR (pf (bs1 T:) hr (aF (pv 7) (aM aG))))
 (aH (pz 9 eR (aL bU (px K (pv 8) aG) (pv 4)))
 (aH (pz 10 eR (iR (iH K) rfl T.kI iT (aM (pv 3))))
 (aH (bV (PW.pt (mD (cF K (pv 2) (λ_=>rfl)) (kZ (pc (oe K hr) (aL bU (px K (pv 8) aG) aG) aG)))) (aK (pk 10 eR [12] (fV rfl T.gW (aM (pv 4))) (λ_ _ _ _ _=>(pn 12 eR)) (λ_ _ _ _ _=>dH) (λ_ _ _ _ _=>(aL (bG K) (px K (pv 1) aG) (aL bU (aL (bG K) (px K (pv 8) aG) (aL mG (aL mG aG (px K (pv 8) aG)) (pv 12))) (aL (bG K) (pv 5) aG)))))) bJ)
 (aH (pz 11 eR (aL bU (aL (bG K) (aL (bG K) (pv 9) aG) (aL bU (aL gK (px K (pv 8) aG) aG) (aV (tS K) rfl T.an8 ab1 (aF aG (aM (aL cJ (pv 4) aG)))))) (pv 4)))
 (aK (bV (PW.pt (mD (cF K (pv 2) (λ_=>rfl)) (kZ (pc (oe K hr) (aL bU (px K (pv 8) aG) aG) aG)))) (aK (fJ (tP K (pv 6) (aM (pf (cs4 T:) hr (aF (pv 8) (aF (pv 1) (aF (pv 9) (aM (pv 11)))))))))) (aK (bV (PW.pt (lN (pc (oe K hr) (pv 4) aG) (mC (pc ae3 (aL bU (px K (pv 8) aG) aG) aG)))) (aK (fJ (tP K (pv 6) (aM (pf (bz7 T:) hr (aF (px K (pv 8) aG) (aF (pv 1) (aF (pv 9) (aM (px K (pv 10) (pv 9))))))))))) (aK (fJ (tP K (pv 6) (aM (pf (bl7 T:) hr (aF (px K (pv 8) aG) (aF (pv 1) (aF (bY (aF (pv 9) (aM (pv 11)))) (aM (aL cJ (px K (pv 10) (pv 9)) (px K (pv 10) (pv 11))))))))))))))))))))))
 (aK (aU (pv 6))))))),by unfold pD;walk_at "r"⟩) rfl (λ_=>rfl)
theorem ck5:dQ P w K mg base 1 "is_whole" ["some"] (bN K cn 1 vA):=by
 refine bH (d:=vB) T.cl6 bn9 (by walk_at "u") (λf cdv A outer s H E hr=>⟨_,(aK (aU (wC (aV (jY K) rfl T.gT gF (aF (pv 0) (aM (uZ T.dj6 cu8)))) (vR (ck9 (aV (jY K) rfl T.gT gF (aF (pv 0) (aM (uZ T.dj0 cm1))))))))),by unfold vB;walk_at "r"⟩) rfl (λ_=>rfl)
theorem gP:dQ P w K mg base 2 "is_whole_from" ["some","low","high"] (bN K cn 3 dJ):=by
 refine bH (d:=mM) T.ag8 ap5 (by walk_at "u") (λf cdv A outer s H E hr=>⟨_,(aK (aU (wC (pf (ck5 T:) hr (aM (pv 0))) (vR (am5 lM lM (pv 1) (pv 0) (pv 2)))))),by unfold mM;walk_at "r"⟩) rfl (λ_=>rfl)
theorem bm9:dQ P w K mg base 3 "are_years" ["first","present"] (bN K cn 2 sZ):=by
 refine bH (d:=sS) T.cc0 bn8 (by walk_at "u") (λf cdv A outer s H E hr=>⟨_,(aH (bV (eC (cF K (pf (gP T:) hr (aF (pv 0) (aF (wJ tQ (jN T.g_FARTHEST_END)) (aM (jN T.g_FARTHEST_END))))) (λ_=>rfl))) (aK (aU hU)) bJ)
 (aH (bV (eC (cF K (pf (gP T:) hr (aF (pv 1) (aF (wJ tQ (jN T.g_FARTHEST_END)) (aM (jN T.g_FARTHEST_END))))) (λ_=>rfl))) (aK (aU hU)) bJ)
 (aK (aU (am5 lM lM aG (aL cJ (pv 1) (pv 0)) (jN T.g_LONGEST_SPAN)))))),by unfold sS;walk_at "r"⟩) rfl (λ_=>rfl)
theorem bh8:dQ P w K mg base 1 "is_made_of" ["word","signs","most"] (bN K cn 3 rO):=by
 refine bH (d:=rQ) T.bp8 ak0 (by walk_at "u") (λf cdv A outer s H E hr=>⟨_,(aK (aU (wC (am5 lM lM aG (aV (bW K) rfl T.eE cZ (aM (pv 0))) (pv 2)) (vR (aV (kG K) rfl T.vE rM (aM (pm [3] (fY K (pv 0)) (λ_ _ _ _ _=>(pn 3 ak0)) (λ_ _ _ _ _=>dH) (λ_ _ _ _ _=>(iU (vM K (n:=cX) hr) (pv 3) (pv 1) (by with_unfolding_all rfl)))))))))),by unfold rQ;walk_at "r"⟩) rfl (λ_=>rfl)
theorem cq9:dQ P w K mg base 2 "is_name" ["word"] (bN K cn 1 tR):=by
 refine bH (d:=wP) T.dm0 ck3 (by walk_at "u") (λf cdv A outer s H E hr=>⟨_,(aK (aU (pf (bh8 T:) hr (aF (pv 0) (aF (jN T.g_LETTERS) (aM (jN T.g_MOST_LETTERS_words))))))),by unfold wP;walk_at "r"⟩) rfl (λ_=>rfl)
theorem wZ:dQ P w K mg base 3 "are_names" ["names","least","most"] (bN K cn 3 mI):=by
 refine bH (d:=sV) T.cg0 ag2 (by walk_at "u") (λf cdv A outer s H E hr=>⟨_,(aH (bV (eC (af5 lM lM (pv 1) (aV (bW K) rfl T.eE cZ (aM (pv 0))) (pv 2))) (aK (aU hU)) bJ)
 (aK (aU (wC (aV (kG K) rfl T.vE rM (aM (pm [3] (fY K (pv 0)) (λ_ _ _ _ _=>(pn 3 ag2)) (λ_ _ _ _ _=>dH) (λ_ _ _ _ _=>(pf (cq9 T:) hr (aM (pv 3))))))) (vR (iU (oe K hr) (ck7 K T.eE T.et6 (aM (pv 0))) (aV (bW K) rfl T.eE cZ (aM (pv 0))) (qN _))))))),by unfold sV;walk_at "r"⟩) rfl (λ_=>rfl)
theorem cm3:dQ P w K mg base 3 "is_table" ["some"] (bN K cn 1 rP):=by
 refine bH (d:=uS) T.ci6 xB (by walk_at "u") (λf cdv A outer s H E hr=>⟨_,(aH (bV (eC (af5 lM lM aG (aV (bW K) rfl T.eE cZ (aM (pv 0))) (jN T.g_MOST_AGES))) (aK (aU hU)) bJ)
 (aH (bV (eC (cF K (aV (kG K) rfl T.vE rM (aM (pm [1] (fY K (pv 0)) (λ_ _ _ _ _=>(pn 1 xB)) (λ_ _ _ _ _=>dH) (λ_ _ _ _ _=>(pf (gP T:) hr (aF (pv 1) (aF aG (aM (jN T.g_DARKEST))))))))) (λ_=>rfl))) (aK (aU hU)) bJ)
 (aK (aU (aV (kG K) rfl T.vE rM (aM (pm [2] (cq6 rfl T.gW (aF aG (aM (aV (bW K) rfl T.eE cZ (aM (pv 0)))))) (λ_ _ _ _ _=>(pn 2 xB)) (λ_ _ _ _ _=>dH) (λ_ _ _ _ _=>(iU lM (px K (pv 0) (pv 2)) (px K (pv 0) (aL cJ (pv 2) aG)) (qN _)))))))))),by unfold uS;walk_at "r"⟩) rfl (λ_=>rfl)
theorem cq4:dQ P w K mg base 4 "are_inks" ["inks"] (bN K cn 1 uQ):=by
 refine bH (d:=vD) T.cf6 oN (by walk_at "u") (λf cdv A outer s H E hr=>⟨_,(aH (bV (eC (cF K (pf (wZ T:) hr (aF (pm [1,2] (fY K (pv 0)) (λ_ _ _ _ _=>(fO K 2 rfl (bL (pn 1 oN) (bL (pn 2 oN) fP)))) (λ_ _ _ _ _=>dH) (λ_ _ _ _ _=>(pv 1))) (aF aG (aM (jN T.g_MOST_INKS))))) (λ_=>rfl))) (aK (aU hU)) bJ)
 (aK (aU (aV (kG K) rfl T.vE rM (aM (pm [1,2] (fY K (pv 0)) (λ_ _ _ _ _=>(fO K 2 rfl (bL (pn 1 oN) (bL (pn 2 oN) fP)))) (λ_ _ _ _ _=>dH) (λ_ _ _ _ _=>(pf (cm3 T:) hr (aM (pv 2)))))))))),by unfold vD;walk_at "r"⟩) rfl (λ_=>rfl)
theorem ce3:dQ P w K mg base 3 "is_reign" ["begin","length"] (bN K cn 2 rS):=by
 refine bH (d:=uT) T.ch6 bk9 (by walk_at "u") (λf cdv A outer s H E hr=>⟨_,(aK (aU (wC (pf (gP T:) hr (aF (pv 0) (aF (wJ tQ (jN T.g_FARTHEST_YEAR)) (aM (jN T.g_FARTHEST_YEAR))))) (vR (pf (gP T:) hr (aF (pv 1) (aF aG (aM (jN T.g_LONGEST_REIGN))))))))),by unfold uT;walk_at "r"⟩) rfl (λ_=>rfl)
theorem bt5:dQ P w K mg base 4 "are_reigns" ["reigns"] (bN K cn 1 qS):=by
 refine bH (d:=rH) T.be9 iY (by walk_at "u") (λf cdv A outer s H E hr=>⟨_,(aH (bV (eC (cF K (pf (wZ T:) hr (aF (pm [1,2,3] (fY K (pv 0)) (λ_ _ _ _ _=>(fO K 3 rfl (bL (pn 1 iY) (bL (pn 2 iY) (bL (pn 3 iY) fP))))) (λ_ _ _ _ _=>dH) (λ_ _ _ _ _=>(pv 1))) (aF aG (aM (jN T.g_MOST_REIGNS))))) (λ_=>rfl))) (aK (aU hU)) bJ)
 (aK (aU (aV (kG K) rfl T.vE rM (aM (pm [1,2,3] (fY K (pv 0)) (λ_ _ _ _ _=>(fO K 3 rfl (bL (pn 1 iY) (bL (pn 2 iY) (bL (pn 3 iY) fP))))) (λ_ _ _ _ _=>dH) (λ_ _ _ _ _=>(pf (ce3 T:) hr (aF (pv 2) (aM (pv 3))))))))))),by unfold rH;walk_at "r"⟩) rfl (λ_=>rfl)
theorem ac9(f y:Addr)(cdv:Value)(A:Around)(outer:List Env)(s:Shared)(H:Hp)(E:XK)(hr:Room 4 (A.deeper (PyProof.Rows.envOfC "Archive.__init__" (aO kO) s.heap.objs.size f cdv))):
 ∃t,PSs (mK kA P w K mg base ["self","first","present","letters","inks","reigns","name","table","begin","length"] "Archive.__init__" (aO kO) f cdv A outer s H E).nox (dO kO) t/\RS [(0,.ref y)] K cn E t kP:=
 ⟨_,(aH (bV (eC (cF K (pf (bm9 T:) hr (aF (pv 1) (aM (pv 2)))) (λ_=>rfl))) (aK mJ) bJ)
 (aH (bV (eC (cF K (pf (wZ T:) hr (aF (pv 3) (aF aG (aM (jN T.g_MOST_LETTERS_archives))))) (λ_=>rfl))) (aK mJ) bJ)
 (aH (bV (eC (cF K (pf (cq4 T:) hr (aM (pv 4))) (λ_=>rfl))) (aK mJ) bJ)
 (aH (bV (eC (cF K (pf (bt5 T:) hr (aM (pv 5))) (λ_=>rfl))) (aK mJ) bJ)
 (aH (nY K (pv 0) (pv 1))
 (aH (nY K (pv 0) (pv 2))
 (aH (nY K (pv 0) (iR (iH K) rfl T.kI iT (aM (pv 3))))
 (aH (nY K (pv 0) (pm [6,7] (fY K (pv 4)) (λ_ _ _ _ _=>(fO K 2 rfl (bL (pn 6 iS) (bL (pn 7 iS) fP)))) (λ_ _ _ _ _=>dH) (λ_ _ _ _ _=>(bY (aF (pv 6) (aM (iR (iH K) rfl T.kI iT (aM (pv 7)))))))))
 (aK (nY K (pv 0) (pm [6,8,9] (fY K (pv 5)) (λ_ _ _ _ _=>(fO K 3 rfl (bL (pn 6 iS) (bL (pn 8 iS) (bL (pn 9 iS) fP))))) (λ_ _ _ _ _=>dH) (λ_ _ _ _ _=>(bY (aF (pv 6) (aF (pv 8) (aM (pv 9))))))))))))))))),by unfold kP;walk_at "r"⟩
theorem cw8:Mak P w K mg base 5 "Archive" c_Archive (spI K cn "Archive" 5 rN):=
 jT (d:=kP) T.cd6 iS (by walk_at "u") (ac9 T) rfl (λ_=>rfl)
theorem bm3:dQ P w K mg base 7 "_law_archive" ["_law_frame_here"] (bN K cn 1 pJ):=by
 refine bH (d:=pA) T.bt3 oE (by walk_at "u") (λf cdv A outer s H E hr=>⟨_,(aH (pk 1 oE [2,3] (fY K (px K (pv 0) aG)) (λ_ _ _ _ _=>(fO K 2 rfl (bL (pn 2 oE) (bL (pn 3 oE) fP)))) (λ_ _ _ _ _=>dH) (λ_ _ _ _ _=>(bY (aF (pv 2) (aM (iR (iH K) rfl T.kI iT (aM (pv 3))))))))
 (aK (aU (qK (cw8 T:) (hr.mono (by decide)) (aF (px K (pv 0) aG) (aF (px K (pv 0) aG) (aF (iR (iH K) rfl T.kI iT (aM (px K (pv 0) aG))) (aF (pv 1) (aM (iR (iH K) rfl T.kI iT (aM (px K (pv 0) aG)))))))))))),by unfold pA;walk_at "r"⟩) rfl (λ_=>rfl)
theorem dp1:dQ P w K mg base 3 "is_due" ["archive","due","part"] (bN K cn 3 gH):=by
 refine bH (d:=pQ) T.db5 ac2 (by walk_at "u") (λf cdv A outer s H E hr=>⟨_,(aH (bV (pc (oe K hr) (pv 1) bT) (aK (aU (iU (vM K (n:=cX) hr) (pv 2) (fX K (pv 0)) (by with_unfolding_all rfl)))) bJ)
 (aH (bV (pc (oe K hr) (pv 1) bT) (aK (aU (iU (vM K (n:=cX) hr) (pv 2) (pm [3] (fY K (fX K (pv 0))) (λ_ _ _ _ _=>(pn 3 ac2)) (λ_ _ _ _ _=>dH) (λ_ _ _ _ _=>(px K (pv 3) aG))) (by with_unfolding_all rfl)))) bJ)
 (aH (bV (pc (oe K hr) (pv 1) bT) (aK (aU (iU (vM K (n:=cX) hr) (pv 2) (pm [4] (fY K (fX K (pv 0))) (λ_ _ _ _ _=>(pn 4 ac2)) (λ_ _ _ _ _=>dH) (λ_ _ _ _ _=>(px K (pv 4) aG))) (by with_unfolding_all rfl)))) bJ)
 (aK (aU (pf (gP T:) hr (aF (pv 2) (aF (px K (vH T.d_NUMBERS (pv 1)) aG) (aM (px K (vH T.d_NUMBERS (pv 1)) aG)))))))))),by unfold pQ;walk_at "r"⟩) rfl (λ_=>rfl)
theorem cj9:dQ P w K mg base 4 "are_due" ["archive","word","parts"] (bN K cn 3 tW):=by
 refine bH (d:=wS) T.dh0 zJ (by walk_at "u") (λf cdv A outer s H E hr=>⟨_,(aH (bV (PW.pt (lN (eu0 (cf9 T.d_PARTS (pv 1)) (by with_unfolding_all rfl)) (mC (pc (qQ K (n:=cX) hr) (aV (bW K) rfl T.eE cZ (aM (pv 2))) (aV (bW K) rfl T.eE cZ (aM (vH T.d_PARTS (pv 1)))))))) (aK (aU hU)) bJ)
 (aK (aU (aV (kG K) rfl T.vE rM (aM (pm [3,4] (cl1 K T.dk6 (aF (vH T.d_PARTS (pv 1)) (aM (pv 2)))) (λ_ _ _ _ _=>(fO K 2 rfl (bL (pn 3 zJ) (bL (pn 4 zJ) fP)))) (λ_ _ _ _ _=>dH) (λ_ _ _ _ _=>(pf (dp1 T:) hr (aF (pv 0) (aF (pv 3) (aM (pv 4)))))))))))),by unfold wS;walk_at "r"⟩) rfl (λ_=>rfl)
theorem av7(f:Addr)(cdv:Value)(A:Around)(outer:List Env)(s:Shared)(H:Hp)(E:XK)(hr:Room 0 (A.deeper (PyProof.Rows.envOfC "Archive.table" (aO kE) s.heap.objs.size f cdv))):
 ∃t,PSs (mK kA P w K mg base ["self","name","other","table"] "Archive.table" (aO kE) f cdv A outer s H E).nox (dO kE) t/\RS [] K cn E t jW:=
 ⟨_,(aH (gE PassesOwn.never rfl (fY K (fX K (pv 0))) (fO K 2 rfl (bL (pn 2 pR) (bL (pn 3 pR) fP))) (aK (bV (pc (oe K hr) (pv 2) (pv 1)) (aK (aU (iR (iH K) rfl T.kI iT (aM (pv 3))))) bJ)))
 (aK (aU dG))),by unfold jW;walk_at "r"⟩
theorem as6:kT P w K mg base 1 c_Archive "table" (bN K cn 2 fW):=
 eW (d:=jW) T.ab6 T.oH pR (by walk_at "u") (av7 T) rfl (λ_=>rfl) (by decide)
theorem dg7:∀q∈[(c_Archive,bN K cn 2 fW)],kT P w K mg base 1 q.1 "table" q.2:=eV (as6 T) (av5)
theorem cu6:dQ P w K mg base 1 "ages_of" ["table","dark","error","greatest"] (bN K cn 4 tU):=by
 refine bH (d:=wR) T.dl0 rV (by walk_at "u") (λf cdv A outer s H E hr=>⟨_,(aH (pz 4 rV (aL cJ (aV (bW K) rfl T.eE cZ (aM (pv 0))) aG))
 (aH (pk 5 rV [7] (fV rfl T.gW (aM (aL (bG K) (aV (nG K) rfl T.ae0 vN (aF (pv 4) (aM (pv 3)))) aG))) (λ_ _ _ _ _=>(pn 7 rV)) (λ_ _ _ _ _=>(cp1 (pc lM (aV (ar2 K) rfl T.cg6 bi7 (aM (aL cJ (px K (pv 0) (pv 7)) (pv 1)))) (pv 2)))) (λ_ _ _ _ _=>(pv 7)))
 (aH (bV (pc (oe K hr) (aV (bW K) rfl T.eE cZ (aM (pv 5))) aG) (aK (aU dG)) bJ)
 (aH (pz 6 rV (px K (pv 5) (aL cJ (aV (bW K) rfl T.eE cZ (aM (pv 5))) aG)))
 (aK (aU (bY (aF (px K (pv 5) aG) (aM (ay4 (pc (oe K hr) (pv 6) (pv 4)) (pv 3) (pv 6))))))))))),by unfold wR;walk_at "r"⟩) rfl (λ_=>rfl)
theorem dp2:dQ P w K mg base 1 "spaced" ["parts"] (bN K cn 1 zH):=by
 refine bH (d:=zP) T.de5 bz1 (by walk_at "u") (λf cdv A outer s H E hr=>⟨_,(aK (aU (xQ K PySem.F.plainAttrs_str PySem.F.slot_str_join PySem.F.type_str_join (dd1 K) bT (aM (pm [1] (fY K (pv 0)) (λ_ _ _ _ _=>(pn 1 bz1)) (λ_ _ _ _ _=>dH) (λ_ _ _ _ _=>(iR cj8 rfl T.ev6 el1 (aM (pv 1))))))))),by unfold zP;walk_at "r"⟩) rfl (λ_=>rfl)
theorem gX(f y:Addr)(cdv:Value)(A:Around)(outer:List Env)(s:Shared)(H:Hp)(E:XK)(hr:Room 1 (A.deeper (PyProof.Rows.envOfC "Saying.__init__" (aO eN) s.heap.objs.size f cdv))):
 ∃t,PSs (mK kA P w K mg base ["self","archive","word","parts","low","high","names","part","due","name"] "Saying.__init__" (aO eN) f cdv A outer s H E).nox (dO eN) t/\RS [(0,.ref y)] K cn E t cE:=
 ⟨_,(aH (pk 6 dX [7,8] (cl1 K T.dk6 (aF (pv 3) (aM (vH T.d_PARTS (pv 2))))) (λ_ _ _ _ _=>(fO K 2 rfl (bL (pn 7 dX) (bL (pn 8 dX) fP)))) (λ_ _ _ _ _=>(cp1 (pc (oe K hr) (pv 8) bT))) (λ_ _ _ _ _=>(pv 7)))
 (aH (nY K (pv 0) (pm [9] (fY K (pv 6)) (λ_ _ _ _ _=>(pn 9 dX)) (λ_ _ _ _ _=>dH) (λ_ _ _ _ _=>(xQ K PySem.F.plainAttrs_list PySem.F.slot_list_index PySem.F.type_list_index (ce7 K (n:=cX) hr) (fX K (pv 1)) (aM (pv 9))))))
 (aH (nY K (pv 0) (pv 4))
 (aH (nY K (pv 0) (pv 5))
 (aK (nY K (pv 0) (pf (dp2 T:) hr (aM (aL (bG K) (cW (aM (pv 2))) (iR (iH K) rfl T.kI iT (aM (pv 3)))))))))))),by unfold cE;walk_at "r"⟩
theorem ew4:Mak P w K mg base 2 "Ink" c_Ink (spI K cn "Ink" 5 as4):=
 jT (d:=cE) T.ep4 dX (by walk_at "u") (gX T) rfl (λ_=>rfl)
theorem yH:dQ P w K mg base 1 "reign_called" ["archive","name"] (bN K cn 2 kS):=by
 refine bH (d:=oG) T.bm1 wW (by walk_at "u") (λf cdv A outer s H E hr=>⟨_,(aH (gE PassesOwn.never rfl (fY K (fX K (pv 0))) (pn 2 wW) (aK (bV (pc (oe K hr) (px K (pv 2) aG) (pv 1)) (aK (aU (pv 2))) bJ)))
 (aK (aU dG))),by unfold oG;walk_at "r"⟩) rfl (λ_=>rfl)
theorem aa2:dQ P w K mg base 3 "reign_year" ["begin","length","k"] (bN K cn 3 mZ):=by
 refine bH (d:=rG) T.bv8 by2 (by walk_at "u") (λf cdv A outer s H E hr=>⟨_,(aH (bV (eC (cF K (pf (gP T:) hr (aF (pv 2) (aF aG (aM (pv 1))))) (λ_=>rfl))) (aK (aU dG)) bJ)
 (aK (aU (aL cJ (aL (bG K) (pv 0) (pv 2)) aG)))),by unfold rG;walk_at "r"⟩) rfl (λ_=>rfl)
theorem dz8:Mak P w K mg base 2 "Reign" c_Reign (spI K cn "Reign" 5 zU):=
 jT (d:=cE) T.df5 dX (by walk_at "u") (gX T) rfl (λ_=>rfl)
theorem dv7:Mak P w K mg base 2 "Under" c_Under (spI K cn "Under" 5 zY):=
 jT (d:=cE) T.da5 dX (by walk_at "u") (gX T) rfl (λ_=>rfl)
theorem cy7:Mak P w K mg base 2 "Between" c_Between (spI K cn "Between" 5 vU):=
 jT (d:=cE) T.ck6 dX (by walk_at "u") (gX T) rfl (λ_=>rfl)
theorem dn6:Mak P w K mg base 2 "After" c_After (spI K cn "After" 5 zK):=
 jT (d:=cE) T.dh5 dX (by walk_at "u") (gX T) rfl (λ_=>rfl)
theorem ev3:Mak P w K mg base 2 "Same" c_Same (spI K cn "Same" 5 ai1):=
 jT (d:=cE) T.dr9 dX (by walk_at "u") (gX T) rfl (λ_=>rfl)
theorem da2:Mak P w K mg base 2 "Within" c_Within (spI K cn "Within" 5 xH):=
 jT (d:=cE) T.df0 dX (by walk_at "u") (gX T) rfl (λ_=>rfl)
theorem ds8:Mak P w K mg base 2 "Apart" c_Apart (spI K cn "Apart" 5 ad0):=
 jT (d:=cE) T.dd5 dX (by walk_at "u") (gX T) rfl (λ_=>rfl)
theorem bm8:dQ P w K mg base 4 "ink_saying" ["archive","parts"] (bN K cn 2 qL):=by
 refine bH (d:=qP) T.bz8 al0 (by walk_at "u") (λf cdv A outer s H E hr=>⟨_,(aH (pz 2 al0 (pf (cu6 T:) hr (aF (dn4 (pv 0) (dg7 T:) (hr.mono (by decide)) (aM (px K (pv 1) aG))) (aF (px K (pv 1) aG) (aF (px K (pv 1) aG) (aM (aL cJ (fX K (pv 0)) (fX K (pv 0)))))))))
 (aH (bV (pc am2 (pv 2) dG) (aK mJ) bJ)
 (aK (aU (qK (ew4 T:) (hr.mono (by decide)) (aF (pv 0) (aF bT (aF (pv 1) (aF (aL cJ (fX K (pv 0)) (px K (pv 2) aG)) (aM (aL cJ (fX K (pv 0)) (px K (pv 2) aG)))))))))))),by unfold qP;walk_at "r"⟩) rfl (λ_=>rfl)
theorem an9:dQ P w K mg base 4 "reign_saying" ["archive","parts"] (bN K cn 2 nW):=by
 refine bH (d:=nR) T.bf1 qO (by walk_at "u") (λf cdv A outer s H E hr=>⟨_,(aH (pz 2 qO (pf (yH T:) hr (aF (pv 0) (aM (px K (pv 1) aG)))))
 (aH (pz 3 qO (pf (aa2 T:) hr (aF (px K (pv 2) aG) (aF (px K (pv 2) aG) (aM (px K (pv 1) aG))))))
 (aH (bV (pc am2 (pv 3) dG) (aK mJ) bJ)
 (aK (aU (qK (dz8 T:) (hr.mono (by decide)) (aF (pv 0) (aF bT (aF (pv 1) (aF (pv 3) (aM (pv 3)))))))))))),by unfold nR;walk_at "r"⟩) rfl (λ_=>rfl)
theorem be0:dQ P w K mg base 4 "under_saying" ["archive","parts"] (bN K cn 2 nZ):=by
 refine bH (d:=nU) T.bq1 wT (by walk_at "u") (λf cdv A outer s H E hr=>⟨_,(aH (pz 2 wT (pf (yH T:) hr (aF (pv 0) (aM (px K (pv 1) aG)))))
 (aK (aU (qK (dv7 T:) (hr.mono (by decide)) (aF (pv 0) (aF bT (aF (pv 1) (aF (px K (pv 2) aG) (aM (pf (aa2 T:) hr (aF (px K (pv 2) aG) (aF (px K (pv 2) aG) (aM (px K (pv 2) aG)))))))))))))),by unfold nU;walk_at "r"⟩) rfl (λ_=>rfl)
theorem ak5:dQ P w K mg base 4 "between_saying" ["archive","parts"] (bN K cn 2 lU):=by
 refine bH (d:=lQ) T.ae6 ap3 (by walk_at "u") (λf cdv A outer s H E hr=>⟨_,(aH (bV (pc ao7 (px K (pv 1) aG) (px K (pv 1) aG)) (aK mJ) bJ)
 (aK (aU (qK (cy7 T:) (hr.mono (by decide)) (aF (pv 0) (aF bT (aF (pv 1) (aF (px K (pv 1) aG) (aM (px K (pv 1) aG)))))))))),by unfold lQ;walk_at "r"⟩) rfl (λ_=>rfl)
theorem ag9:dQ P w K mg base 4 "after_saying" ["archive","parts"] (bN K cn 2 nQ):=by
 refine bH (d:=oC) T.bp1 as7 (by walk_at "u") (λf cdv A outer s H E hr=>⟨_,(aK (aU (qK (dn6 T:) (hr.mono (by decide)) (aF (pv 0) (aF bT (aF (pv 1) (aF aG (aM dG)))))))),by unfold oC;walk_at "r"⟩) rfl (λ_=>rfl)
theorem bk3:dQ P w K mg base 4 "same_saying" ["archive","parts"] (bN K cn 2 oY):=by
 refine bH (d:=oZ) T.bb4 bx0 (by walk_at "u") (λf cdv A outer s H E hr=>⟨_,(aK (aU (qK (ev3 T:) (hr.mono (by decide)) (aF (pv 0) (aF bT (aF (pv 1) (aF aG (aM aG)))))))),by unfold oZ;walk_at "r"⟩) rfl (λ_=>rfl)
theorem ak7:dQ P w K mg base 4 "within_saying" ["archive","parts"] (bN K cn 2 mU):=by
 refine bH (d:=mO) T.ak8 as5 (by walk_at "u") (λf cdv A outer s H E hr=>⟨_,(aK (aU (qK (da2 T:) (hr.mono (by decide)) (aF (pv 0) (aF bT (aF (pv 1) (aF aG (aM (px K (pv 1) aG))))))))),by unfold mO;walk_at "r"⟩) rfl (λ_=>rfl)
theorem bc0:dQ P w K mg base 4 "apart_saying" ["archive","parts"] (bN K cn 2 nP):=by
 refine bH (d:=nT) T.bb1 aw7 (by walk_at "u") (λf cdv A outer s H E hr=>⟨_,(aH (bV (pc ao7 (px K (pv 1) aG) (px K (pv 1) aG)) (aK mJ) bJ)
 (aK (aU (qK (ds8 T:) (hr.mono (by decide)) (aF (pv 0) (aF bT (aF (pv 1) (aF (px K (pv 1) aG) (aM (px K (pv 1) aG)))))))))),by unfold nT;walk_at "r"⟩) rfl (λ_=>rfl)
theorem dy2:dk2 P w K mg base 4 "MAKERS" (dy5 K cn 2 tb_MAKERS):=dp9 T.dk0 (lI T.bf4 (bm8 T) (by decide) (lI T.ax8 (an9 T) (by decide) (lI T.az8 (be0 T) (by decide) (lI T.aq3 (ak5 T) (by decide) (lI T.ah8 (ag9 T) (by decide) (lI T.bh1 (bk3 T) (by decide) (lI T.af6 (ak7 T) (by decide) (lI T.aw8 (bc0 T) (by decide) (ds3)))))))))
theorem bh9:dQ P w K mg base 5 "saying_of" ["archive","word","parts"] (bN K cn 3 dF):=by
 refine bH (d:=sR) T.ca0 bv5 (by walk_at "u") (λf cdv A outer s H E hr=>⟨_,(aH (bV (eC (cF K (pf (cj9 T:) hr (aF (pv 0) (aF (pv 1) (aM (pv 2))))) (λ_=>rfl))) (aK mJ) bJ)
 (aH (bV (PW.pt (mD (pc (oe K hr) (px K (vH T.d_PARTS (pv 1)) aG) bT) (kZ (pc (oe K hr) (px K (pv 2) aG) (px K (pv 2) aG))))) (aK mJ) bJ)
 (aK (aU (db4 (dy2 T:) (hr.mono (by decide)) (pv 1) (aF (pv 0) (aM (pv 2)))))))),by unfold sR;walk_at "r"⟩) rfl (λ_=>rfl)
theorem cb5:dQ P w K mg base 6 "_law_heap" ["_law_archive_here","_law_told"] (bN K cn 2 uG):=by
 refine bH (d:=uW) T.ca6 oT (by walk_at "u") (λf cdv A outer s H E hr=>⟨_,(aK (aU (pm [2,3,4,5] (fY K (pv 1)) (λ_ _ _ _ _=>(fO K 4 rfl (bL (pn 2 oT) (bL (pn 3 oT) (bL (pn 4 oT) (bL (pn 5 oT) fP)))))) (λ_ _ _ _ _=>dH) (λ_ _ _ _ _=>(pf (bh9 T:) hr (aF (pv 0) (aF (pv 2) (aM (iR (iH K) rfl T.kI iT (aM (pv 3))))))))))),by unfold uW;walk_at "r"⟩) rfl (λ_=>rfl)
theorem au3:dQ P w K mg base 1 "_law_steps" ["_law_frame_here","_law_told"] (bN K cn 2 oM):=by
 refine bH (d:=sY) T.cb0 iP (by walk_at "u") (λf cdv A outer s H E hr=>⟨_,(aH (pz 2 iP (cW qZ))
 (aH (gE PassesOwn.never rfl (fV rfl T.gW (aM (aV (bW K) rfl T.eE cZ (aM (pv 1))))) (pn 3 iP) (aH (pz 4 iP (px K (px K (pv 1) (pv 3)) aG))
 (aH (ax2 (px K (px K (pv 1) (pv 3)) aG) (fO K 2 rfl (bL (pn 5 iP) (bL (pn 6 iP) fP))))
 (aH (pz 7 iP (px K (aL (bG K) (pv 4) (bY (aM dG))) aG))
 (aH (bV (pc sI (pv 6) dG) (aK (fJ (tP K (pv 2) (aM (bY (aF (pv 7) (aF (px K (pv 4) aG) (aF (pv 6) (aM (pv 3)))))))))) bJ)
 (aK (bV (pc sI (pv 5) dG) (aK (fJ (tP K (pv 2) (aM (bY (aF (px K (pv 4) aG) (aF (pv 7) (aF (aL cJ aG (pv 5)) (aM (pv 3)))))))))) bJ)))))))
 (aH (gE PassesOwn.never rfl (fV rfl T.gW (aM (aV (bW K) rfl T.eE cZ (aM (px K (pv 0) aG))))) (pn 8 iP) (aH (fJ (tP K (pv 2) (aM (bY (aF dG (aF (pv 8) (aF (px K (pv 0) aG) (aM dG))))))))
 (aK (fJ (tP K (pv 2) (aM (bY (aF (pv 8) (aF dG (aF (aL cJ aG (px K (pv 0) aG)) (aM dG)))))))))))
 (aK (aU (pv 2)))))),by unfold sY;walk_at "r"⟩) rfl (λ_=>rfl)
theorem gL(f:Addr)(cdv:Value)(A:Around)(outer:List Env)(s:Shared)(H:Hp)(E:XK)(hr:Room 0 (A.deeper (PyProof.Rows.envOfC "Saying.about" (aO dY) s.heap.objs.size f cdv))):
 ∃t,PSs (mK kA P w K mg base ["self"] "Saying.about" (aO dY) f cdv A outer s H E).nox (dO dY) t/\RS [] K cn E t dZ:=
 ⟨_,(aK (aU (iR (iH K) rfl T.kI iT (aM (fX K (pv 0)))))),by unfold dZ;walk_at "r"⟩
theorem bg9:kT P w K mg base 1 c_Ink "about" (bN K cn 1 bC):=
 eW (d:=dZ) T.br8 T.yU fU (by walk_at "u") (gL T) rfl (λ_=>rfl) (by decide)
theorem bh3:kT P w K mg base 1 c_After "about" (bN K cn 1 bC):=
 eW (d:=dZ) T.ba1 T.sM fU (by walk_at "u") (gL T) rfl (λ_=>rfl) (by decide)
theorem ag6:kT P w K mg base 1 c_Between "about" (bN K cn 1 bC):=
 eW (d:=dZ) T.ac6 T.oI fU (by walk_at "u") (gL T) rfl (λ_=>rfl) (by decide)
theorem ba3:kT P w K mg base 1 c_Under "about" (bN K cn 1 bC):=
 eW (d:=dZ) T.be1 T.sO fU (by walk_at "u") (gL T) rfl (λ_=>rfl) (by decide)
theorem bg3:kT P w K mg base 1 c_Apart "about" (bN K cn 1 bC):=
 eW (d:=dZ) T.bc1 T.sL fU (by walk_at "u") (gL T) rfl (λ_=>rfl) (by decide)
theorem bn3:kT P w K mg base 1 c_Reign "about" (bN K cn 1 bC):=
 eW (d:=dZ) T.bg1 T.sK fU (by walk_at "u") (gL T) rfl (λ_=>rfl) (by decide)
theorem bl0:kT P w K mg base 1 c_Within "about" (bN K cn 1 bC):=
 eW (d:=dZ) T.ai8 T.qH fU (by walk_at "u") (gL T) rfl (λ_=>rfl) (by decide)
theorem bk7:kT P w K mg base 1 c_Same "about" (bN K cn 1 bC):=
 eW (d:=dZ) T.bq3 T.vJ fU (by walk_at "u") (gL T) rfl (λ_=>rfl) (by decide)
theorem da7:∀q∈[(c_Ink,bN K cn 1 bC),(c_Reign,bN K cn 1 bC),(c_Under,bN K cn 1 bC),(c_Between,bN K cn 1 bC),(c_After,bN K cn 1 bC),(c_Same,bN K cn 1 bC),(c_Within,bN K cn 1 bC),(c_Apart,bN K cn 1 bC)],kT P w K mg base 1 q.1 "about" q.2:=eV (bg9 T) (eV (bn3 T) (eV (ba3 T) (eV (ag6 T) (eV (bh3 T) (eV (bk7 T) (eV (bl0 T) (eV (bg3 T) (av5))))))))
theorem fS(f:Addr)(cdv:Value)(A:Around)(outer:List Env)(s:Shared)(H:Hp)(E:XK)(hr:Room 0 (A.deeper (PyProof.Rows.envOfC "Saying.bounds" (aO dI) s.heap.objs.size f cdv))):
 ∃t,PSs (mK kA P w K mg base ["self"] "Saying.bounds" (aO dI) f cdv A outer s H E).nox (dO dI) t/\RS [] K cn E t dL:=
 ⟨_,(aK (aU (bY (aF (fX K (pv 0)) (aM (fX K (pv 0))))))),by unfold dL;walk_at "r"⟩
theorem bj0:kT P w K mg base 1 c_Under "bounds" (bN K cn 1 aW):=
 eW (d:=dL) T.ay8 T.sO fM (by walk_at "u") (fS T) rfl (λ_=>rfl) (by decide)
theorem ad9:kT P w K mg base 1 c_Reign "bounds" (bN K cn 1 aW):=
 eW (d:=dL) T.av8 T.sK fM (by walk_at "u") (fS T) rfl (λ_=>rfl) (by decide)
theorem ad8:kT P w K mg base 1 c_Within "bounds" (bN K cn 1 aW):=
 eW (d:=dL) T.az5 T.qH fM (by walk_at "u") (fS T) rfl (λ_=>rfl) (by decide)
theorem bq0:kT P w K mg base 1 c_Apart "bounds" (bN K cn 1 aW):=
 eW (d:=dL) T.am8 T.sL fM (by walk_at "u") (fS T) rfl (λ_=>rfl) (by decide)
theorem an5:kT P w K mg base 1 c_Between "bounds" (bN K cn 1 aW):=
 eW (d:=dL) T.ar3 T.oI fM (by walk_at "u") (fS T) rfl (λ_=>rfl) (by decide)
theorem bh0:kT P w K mg base 1 c_After "bounds" (bN K cn 1 aW):=
 eW (d:=dL) T.at8 T.sM fM (by walk_at "u") (fS T) rfl (λ_=>rfl) (by decide)
theorem bp5:kT P w K mg base 1 c_Ink "bounds" (bN K cn 1 aW):=
 eW (d:=dL) T.bi4 T.yU fM (by walk_at "u") (fS T) rfl (λ_=>rfl) (by decide)
theorem bi3:kT P w K mg base 1 c_Same "bounds" (bN K cn 1 aW):=
 eW (d:=dL) T.bk1 T.vJ fM (by walk_at "u") (fS T) rfl (λ_=>rfl) (by decide)
theorem dt3:∀q∈[(c_Ink,bN K cn 1 aW),(c_Reign,bN K cn 1 aW),(c_Under,bN K cn 1 aW),(c_Between,bN K cn 1 aW),(c_After,bN K cn 1 aW),(c_Same,bN K cn 1 aW),(c_Within,bN K cn 1 aW),(c_Apart,bN K cn 1 aW)],kT P w K mg base 1 q.1 "bounds" q.2:=eV (bp5 T) (eV (ad9 T) (eV (bj0 T) (eV (an5 T) (eV (bh0 T) (eV (bi3 T) (eV (ad8 T) (eV (bq0 T) (av5))))))))
theorem as9:dQ P w K mg base 2 "saying_steps" ["saying","number"] (bN K cn 2 oA):=by
 refine bH (d:=oF) T.bn1 kC (by walk_at "u") (λf cdv A outer s H E hr=>⟨_,(aH (pz 2 kC (bj2 (pv 0) (da7 T:) (hr.mono (by decide))))
 (aH (pz 3 kC (bj2 (pv 0) (dt3 T:) (hr.mono (by decide))))
 (aH (pz 4 kC (ay4 (pc (oe K hr) (aV (bW K) rfl T.eE cZ (aM (pv 2))) aG) (px K (pv 2) aG) dG))
 (aH (pz 5 kC (cW qZ))
 (aH (bV (pc sI (px K (pv 3) aG) dG) (aK (fJ (tP K (pv 5) (aM (bY (aF (pv 4) (aF (px K (pv 2) aG) (aF (px K (pv 3) aG) (aM (pv 1)))))))))) bJ)
 (aH (bV (pc sI (px K (pv 3) aG) dG) (aK (fJ (tP K (pv 5) (aM (bY (aF (px K (pv 2) aG) (aF (pv 4) (aF (aL cJ aG (px K (pv 3) aG)) (aM (pv 1)))))))))) bJ)
 (aK (aU (pv 5))))))))),by unfold oF;walk_at "r"⟩) rfl (λ_=>rfl)
theorem bl8:dQ P w K mg base 1 "span_steps" ["archive","letter"] (bN K cn 2 rF):=by
 refine bH (d:=rW) T.ba9 bx2 (by walk_at "u") (λf cdv A outer s H E hr=>⟨_,(aK (aU (cW (aF (bY (aF dG (aF (pv 1) (aF (fX K (pv 0)) (aM dG))))) (aM (bY (aF (pv 1) (aF dG (aF (aL cJ aG (fX K (pv 0))) (aM dG)))))))))),by unfold rW;walk_at "r"⟩) rfl (λ_=>rfl)
theorem cf3:dQ P w K mg base 3 "steps_of" ["archive","sayings"] (bN K cn 2 uY):=by
 refine bH (d:=uM) T.cj6 oU (by walk_at "u") (λf cdv A outer s H E hr=>⟨_,(aH (pz 2 oU (cW qZ))
 (aH (gE PassesOwn.never rfl (dd3 K T.bz9 (aM (pv 1))) (fO K 2 rfl (bL (pn 3 oU) (bL (pn 4 oU) fP))) (aK (fJ (xQ K PySem.F.plainAttrs_list PySem.F.slot_list_extend PySem.F.type_list_extend bb2 (pv 2) (aM (pf (as9 T:) hr (aF (pv 4) (aM (pv 3)))))))))
 (aH (gE PassesOwn.never rfl (fV rfl T.gW (aM (aV (bW K) rfl T.eE cZ (aM (fX K (pv 0)))))) (pn 5 oU) (aK (fJ (xQ K PySem.F.plainAttrs_list PySem.F.slot_list_extend PySem.F.type_list_extend bb2 (pv 2) (aM (pf (bl8 T:) hr (aF (pv 0) (aM (pv 5)))))))))
 (aK (aU (pv 2)))))),by unfold uM;walk_at "r"⟩) rfl (λ_=>rfl)
theorem lV:dQ P w K mg base 1 "place_of" ["end","ground"] (bN K cn 2 eM):=by
 refine bH (d:=rJ) T.cc6 bq9 (by walk_at "u") (λf cdv A outer s H E hr=>⟨_,(aK (aU (ay4 (pc am2 (pv 0) dG) (pv 1) (pv 0)))),by unfold rJ;walk_at "r"⟩) rfl (λ_=>rfl)
theorem cb8:dQ P w K mg base 2 "is_kept" ["step","years"] (bN K cn 2 wV):=by
 refine bH (d:=wQ) T.de0 ag7 (by walk_at "u") (λf cdv A outer s H E hr=>⟨_,(aH (pz 2 ag7 (aL cJ (aV (bW K) rfl T.eE cZ (aM (pv 1))) aG))
 (aK (aU (iU lM (px K (pv 1) (pf (lV T:) hr (aF (px K (pv 0) aG) (aM (pv 2))))) (aL (bG K) (px K (pv 1) (pf (lV T:) hr (aF (px K (pv 0) aG) (aM (pv 2))))) (px K (pv 0) aG)) (qN _))))),by unfold wQ;walk_at "r"⟩) rfl (λ_=>rfl)
theorem be3:dQ P w K mg base 3 "raise_years" ["steps","years","raisers"] (spM K cn iZ):=by
 refine ch8 (d:=pH) T.be4 kX (by walk_at "u") (λv1 v2 f cdv A outer s H E hr=>⟨_,(aH (pz 3 kX (aL cJ (aV (bW K) rfl T.eE cZ (aM (pv 1))) aG))
 (aH (pz 4 kX dG)
 (aH (gE PassesOwn.never rfl (fY K (pv 0)) (pn 5 kX) (aK (bV (eC (cF K (pf (cb8 T:) hr (aF (pv 5) (aM (pv 1)))) (λ_=>rfl))) (aH (pz 4 kX (pf (lV T:) hr (aF (px K (pv 5) aG) (aM (pv 3)))))
 (aH (ax2 (aL cJ (px K (pv 1) (pf (lV T:) hr (aF (px K (pv 5) aG) (aM (pv 3))))) (px K (pv 5) aG)) (ce9 (pv 1) (pv 4) bk6))
 (aK (ax2 (pv 5) (ce9 (pv 2) (pv 4) bk6))))) bJ)))
 (aK (aU (pv 4)))))),by unfold pH;walk_at "r"⟩) rfl (λ_ _ _=>rfl)
theorem bc3:dQ P w K mg base 2 "ring_behind" ["raisers","place"] (bN K cn 2 pG):=by
 refine bH (d:=pP) T.bz3 iC (by walk_at "u") (λf cdv A outer s H E hr=>⟨_,(aH (pz 2 iC (aL cJ (aV (bW K) rfl T.eE cZ (aM (pv 0))) aG))
 (aH (gE PassesOwn.never rfl (fV rfl T.gW (aM (aV (bW K) rfl T.eE cZ (aM (pv 0))))) (pn 3 iC) (aK (pz 1 iC (pf (lV T:) hr (aF (px K (px K (pv 0) (pv 1)) aG) (aM (pv 2)))))))
 (aH (pz 4 iC (cW (aM (px K (pv 0) (pv 1)))))
 (aH (pz 5 iC (pf (lV T:) hr (aF (px K (px K (pv 0) (pv 1)) aG) (aM (pv 2)))))
 (aH (do3 PassesOwn.never (pc (qQ K (n:=cX) hr) (pv 5) (pv 1)) (aH (fJ (tP K (pv 4) (aM (px K (pv 0) (pv 5)))))
 (aK (pz 5 iC (pf (lV T:) hr (aF (px K (px K (pv 0) (pv 5)) aG) (aM (pv 2))))))))
 (aK (aU (pv 4)))))))),by unfold pP;walk_at "r"⟩) rfl (λ_=>rfl)
theorem bw5:dQ P w K mg base 4 "settled_by" ["archive","steps"] (bN K cn 2 nH):=by
 refine bH (d:=rD) T.bu8 jB (by walk_at "u") (λf cdv A outer s H E hr=>⟨_,(aH (pz 2 jB (aV (bW K) rfl T.eE cZ (aM (fX K (pv 0)))))
 (aH (pz 3 jB (aL (bG K) (aL (cj1 K) (cW (aM (aL cJ (fX K (pv 0)) aG))) (pv 2)) (cW (aM aG))))
 (aH (pz 4 jB (aL (cj1 K) (cW (aM dG)) (aL (bG K) (pv 2) aG)))
 (aH (pz 5 jB dG)
 (aH (gE PassesOwn.never rfl (fV rfl T.gW (aM (aL (bG K) (pv 2) aG))) (pn 6 jB) (aK (pz 5 jB (pf (be3 T:) hr (aF (pv 1) (aF (pv 3) (aM (pv 4))))))))
 (aH (bV (pc am2 (pv 5) dG) (aK (aU (bY (aF bT (aM (iD (sJ K) (pv 3) (iB aG) (iB (pv 2)))))))) bJ)
 (aK (aU (bY (aF bT (aM (pf (bc3 T:) hr (aF (pv 4) (aM (pv 5))))))))))))))),by unfold rD;walk_at "r"⟩) rfl (λ_=>rfl)
theorem am1:dQ P w K mg base 5 "settled" ["archive","sayings"] (bN K cn 2 nF):=by
 refine bH (d:=tK) T.dg0 cb2 (by walk_at "u") (λf cdv A outer s H E hr=>⟨_,(aK (aU (pf (bw5 T:) hr (aF (pv 0) (aM (pf (cf3 T:) hr (aF (pv 0) (aM (pv 1))))))))),by unfold tK;walk_at "r"⟩) rfl (λ_=>rfl)
theorem xE:dQ P w K mg base 1 "_law_whole" ["_law_found"] (bN K cn 1 iK):=by
 refine bH (d:=tD) T.cj0 by4 (by walk_at "u") (λf cdv A outer s H E hr=>⟨_,(aK (aU (wC (aV (jY K) rfl T.gT gF (aF (pv 0) (aM (uZ T.dj6 cu8)))) (vR (ck9 (aV (jY K) rfl T.gT gF (aF (pv 0) (aM (uZ T.dj0 cm1))))))))),by unfold tD;walk_at "r"⟩) rfl (λ_=>rfl)
theorem af0:dQ P w K mg base 2 "_law_is_step" ["_law_step","_law_steps_here"] (bN K cn 2 jD):=by
 refine bH (d:=pO) T.bx3 xS (by walk_at "u") (λf cdv A outer s H E hr=>⟨_,(aH (bV (PW.pt (lN (eC (cF K (aV (jY K) rfl T.gT gF (aF (pv 0) (aM (uZ T.ca2 bp7)))) (λ_=>rfl))) (lN (pc (qQ K (n:=cX) hr) (aV (bW K) rfl T.eE cZ (aM (pv 0))) aG) (mC (eC (cF K (pf (xE T:) hr (aM (px K (pv 0) aG))) (λ_=>rfl))))))) (aK (aU hU)) bJ)
 (aH (gE PassesOwn.never rfl (fY K (cW (aF (px K (pv 0) aG) (aF (px K (pv 0) aG) (aM (px K (pv 0) aG)))))) (pn 2 xS) (aK (bV (PW.pt (mD (pc sI (pv 2) dG) (kZ (eC (cF K (pf (xE T:) hr (aM (pv 2))) (λ_=>rfl)))))) (aK (aU hU)) bJ)))
 (aK (aU (iU (vM K (n:=cX) hr) (pv 0) (pv 1) (by with_unfolding_all rfl)))))),by unfold pO;walk_at "r"⟩) rfl (λ_=>rfl)
theorem ai9:dQ P w K mg base 3 "_law_is_chain" ["_law_chain","_law_steps_here","_law_start","_law_end"] (bN K cn 4 nV):=by
 refine bH (d:=nX) T.bl1 kH (by walk_at "u") (λf cdv A outer s H E hr=>⟨_,(aH (bV (PW.pt (lN (eC (cF K (aV (jY K) rfl T.gT gF (aF (pv 0) (aM (uZ T.kI iT)))) (λ_=>rfl))) (mC (eC (cF K (aV (kG K) rfl T.vE rM (aM (pm [5] (fY K (pv 0)) (λ_ _ _ _ _=>(pn 5 kH)) (λ_ _ _ _ _=>dH) (λ_ _ _ _ _=>(pf (af0 T:) hr (aF (pv 5) (aM (pv 1)))))))) (λ_=>rfl)))))) (aK (aU hU)) bJ)
 (aH (pz 4 kH (pv 2))
 (aH (gE PassesOwn.never rfl (fY K (pv 0)) (pn 5 kH) (aH (bV (pc (qQ K (n:=cX) hr) (px K (pv 5) aG) (pv 4)) (aK (aU hU)) bJ)
 (aK (pz 4 kH (px K (pv 5) aG)))))
 (aK (aU (iU (oe K hr) (pv 4) (pv 3) (qN _))))))),by unfold nX;walk_at "r"⟩) rfl (λ_=>rfl)
theorem bf3:dQ P w K mg base 4 "_law_is_ring" ["_law_ring","_law_steps_here"] (bN K cn 2 pF):=by
 refine bH (d:=pI) T.bp3 kW (by walk_at "u") (λf cdv A outer s H E hr=>⟨_,(aH (bV (PW.pt (lN (eC (cF K (aV (jY K) rfl T.gT gF (aF (pv 0) (aM (uZ T.kI iT)))) (λ_=>rfl))) (lN (pc (oe K hr) (pv 0) (cW qZ)) (mC (eC (cF K (pf (af0 T:) hr (aF (px K (pv 0) aG) (aM (pv 1)))) (λ_=>rfl))))))) (aK (aU hU)) bJ)
 (aH (bV (eC (cF K (pf (ai9 T:) hr (aF (pv 0) (aF (pv 1) (aF (px K (px K (pv 0) aG) aG) (aM (px K (px K (pv 0) aG) aG)))))) (λ_=>rfl))) (aK (aU hU)) bJ)
 (aH (pz 2 kW (pm [3] (fY K (pv 0)) (λ_ _ _ _ _=>(pn 3 kW)) (λ_ _ _ _ _=>dH) (λ_ _ _ _ _=>(px K (pv 3) aG))))
 (aH (bV (cF K (aV (ci8 K) rfl T.eu6 ef3 (aM (pm [4] (fV rfl T.gW (aM (aV (bW K) rfl T.eE cZ (aM (pv 2))))) (λ_ _ _ _ _=>(pn 4 kW)) (λ_ _ _ _ _=>dH) (λ_ _ _ _ _=>(iU (vM K (n:=cX) hr) (px K (pv 2) (pv 4)) (iD (sJ K) (pv 2) lE (iB (pv 4))) (by with_unfolding_all rfl)))))) (λ_=>rfl)) (aK (aU hU)) bJ)
 (aK (aU (iU ae3 (aV (cy9 K) rfl T.ew6 em0 (aM (pm [3] (fY K (pv 0)) (λ_ _ _ _ _=>(pn 3 kW)) (λ_ _ _ _ _=>dH) (λ_ _ _ _ _=>(px K (pv 3) aG))))) aG (qN _)))))))),by unfold pI;walk_at "r"⟩) rfl (λ_=>rfl)
theorem bj9:dQ P w K mg base 1 "_law_holds" ["_law_years","_law_steps_here"] (bN K cn 2 sQ):=by
 refine bH (d:=tH) T.ci0 gR (by walk_at "u") (λf cdv A outer s H E hr=>⟨_,(aH (gE PassesOwn.never rfl (fY K (pv 1)) (fO K 4 rfl (bL (pn 2 gR) (bL (pn 3 gR) (bL (pn 4 gR) (bL (pn 5 gR) fP))))) (aH (pz 6 gR aG)
 (aH (pz 7 gR aG)
 (aH (bV (pc sI (pv 2) dG) (aK (pz 6 gR (px K (pv 0) (pv 2)))) bJ)
 (aH (bV (pc sI (pv 3) dG) (aK (pz 7 gR (px K (pv 0) (pv 3)))) bJ)
 (aK (bV (pc ao7 (pv 7) (aL (bG K) (pv 6) (pv 4))) (aK (aU hU)) bJ)))))))
 (aK (aU hU))),by unfold tH;walk_at "r"⟩) rfl (λ_=>rfl)
theorem ac7:dQ P w K mg base 2 "_law_is_dating" ["_law_years","_law_many","_law_steps_here"] (bN K cn 3 mP):=by
 refine bH (d:=mT) T.as8 vT (by walk_at "u") (λf cdv A outer s H E hr=>⟨_,(aH (bV (PW.pt (lN (eC (cF K (aV (jY K) rfl T.gT gF (aF (pv 0) (aM (uZ T.kI iT)))) (λ_=>rfl))) (lN (pc (qQ K (n:=cX) hr) (aV (bW K) rfl T.eE cZ (aM (pv 0))) (pv 1)) (mC (eC (cF K (aV (kG K) rfl T.vE rM (aM (pm [3] (fY K (pv 0)) (λ_ _ _ _ _=>(pn 3 vT)) (λ_ _ _ _ _=>dH) (λ_ _ _ _ _=>(pf (xE T:) hr (aM (pv 3))))))) (λ_=>rfl))))))) (aK (aU hU)) bJ)
 (aK (aU (pf (bj9 T:) hr (aF (pv 0) (aM (pv 2))))))),by unfold mT;walk_at "r"⟩) rfl (λ_=>rfl)
theorem by7:dQ P w K mg base 1 "_law_turned" ["_law_steps_here"] (bN K cn 1 rY):=by
 refine bH (d:=qW) T.bw8 mB (by walk_at "u") (λf cdv A outer s H E hr=>⟨_,(aK (aU (pm [1,2,3,4] (fY K (pv 0)) (λ_ _ _ _ _=>(fO K 4 rfl (bL (pn 1 mB) (bL (pn 2 mB) (bL (pn 3 mB) (bL (pn 4 mB) fP)))))) (λ_ _ _ _ _=>dH) (λ_ _ _ _ _=>(bY (aF (pv 2) (aF (pv 1) (aF (pv 3) (aM (pv 4)))))))))),by unfold qW;walk_at "r"⟩) rfl (λ_=>rfl)
theorem aw3:dQ P w K mg base 1 "_law_place" ["_law_end","_law_many"] (bN K cn 2 kN):=by
 refine bH (d:=sU) T.bv9 bs6 (by walk_at "u") (λf cdv A outer s H E hr=>⟨_,(aH (bV (pc am2 (pv 0) dG) (aK (aU (pv 1))) bJ)
 (aK (aU (pv 0)))),by unfold sU;walk_at "r"⟩) rfl (λ_=>rfl)
theorem bz2:dQ P w K mg base 2 "_law_reached" ["_law_row_here","_law_steps_here","_law_start"] (bN K cn 3 oW):=by
 refine bH (d:=pK) T.bh4 fE (by walk_at "u") (λf cdv A outer s H E hr=>⟨_,(aH (pz 3 fE (aL cJ (aV (bW K) rfl T.eE cZ (aM (pv 0))) aG))
 (aH (pz 4 fE (cW (aM (pv 2))))
 (aH (gE PassesOwn.never rfl (fV rfl T.gW (aM (aL (bG K) (pv 3) aG))) (pn 5 fE) (aH (bV (pc ao7 (aV (bW K) rfl T.eE cZ (aM (pv 4))) (pv 3)) (aK du1) bJ)
 (aK (gE PassesOwn.never rfl (fY K (pv 1)) (fO K 4 rfl (bL (pn 6 fE) (bL (pn 7 fE) (bL (pn 8 fE) (bL (pn 9 fE) fP))))) (aH (pz 10 fE (pf (aw3 T:) hr (aF (pv 6) (aM (pv 3)))))
 (aH (pz 11 fE (pf (aw3 T:) hr (aF (pv 7) (aM (pv 3)))))
 (aK (bV (PW.pt (mD (bn0 (vM K (n:=cX) hr) (pv 10) (pv 4) (by with_unfolding_all rfl)) (mD (bn0 (cx6 K (n:=cX) hr) (pv 11) (pv 4) (by with_unfolding_all rfl)) (kZ (pc (oe K hr) (px K (pv 0) (pv 11)) (aL (bG K) (px K (pv 0) (pv 10)) (pv 8))))))) (aK (fJ (tP K (pv 4) (aM (pv 11))))) bJ))))))))
 (aK (aU (iU (oe K hr) (aV (bs5 K) rfl T.dc5 cd7 (aM (pv 4))) (cy4 T.kI T.gW (aM (aL (bG K) (pv 3) aG))) (qN _))))))),by unfold pK;walk_at "r"⟩) rfl (λ_=>rfl)
theorem xC:dQ P w K mg base 5 "_law_right" ["_law_found","_law_many","_law_steps_here"] (bN K cn 3 kL):=by
 refine bH (d:=oR) T.ce0 az0 (by walk_at "u") (λf cdv A outer s H E hr=>⟨_,(aH (bV (PW.pt (lN (eC (cF K (aV (jY K) rfl T.gT gF (aF (pv 0) (aM (uZ T.ca2 bp7)))) (λ_=>rfl))) (mC (pc (qQ K (n:=cX) hr) (aV (bW K) rfl T.eE cZ (aM (pv 0))) aG)))) (aK (aU hU)) bJ)
 (aH (bV (pc (oe K hr) (px K (pv 0) aG) bT) (aK (aU (pf (bf3 T:) hr (aF (px K (pv 0) aG) (aM (pv 2)))))) bJ)
 (aH (bV (PW.pt (lN (pc (qQ K (n:=cX) hr) (px K (pv 0) aG) bT) (mC (eC (cF K (pf (ac7 T:) hr (aF (px K (pv 0) aG) (aF (pv 1) (aM (pv 2))))) (λ_=>rfl)))))) (aK (aU hU)) bJ)
 (aK (aU (pf (bz2 T:) hr (aF (aL (bG K) (pm [3] (fY K (px K (pv 0) aG)) (λ_ _ _ _ _=>(pn 3 az0)) (λ_ _ _ _ _=>dH) (λ_ _ _ _ _=>(aL cJ aG (pv 3)))) (cW (aM aG))) (aF (pf (by7 T:) hr (aM (pv 2))) (aM (pv 1)))))))))),by unfold oR;walk_at "r"⟩) rfl (λ_=>rfl)
theorem em1{f:Addr}{fd:FuncData}(F:Fun K "law" "law" uV f fd):FnOk P w K mg base kA 8 f fd ["_law_script"] (bN K cn 1 bl4):=by
 refine by0 (d:=br4) F jO (λcdv A outer s H E hr=>⟨_,(aH (pz 1 jO (pf (bf9 T:) hr (aF (pv 0) (aM aG))))
 (aH (pz 2 jO (iU (oe K hr) (aL bU (pf (uJ T:) hr (aF (pv 0) (aM aG))) aG) aG (qN _)))
 (aH (pz 3 jO (pf (bu7 T:) hr (aF (aL gK (pf (uJ T:) hr (aF (pv 0) (aM aG))) aG) (aM (pv 1)))))
 (aH (pz 4 jO (pf (bb3 T:) hr (aF (iD (sJ K) (pv 0) (iB aG) (iB aG)) (aF (pv 1) (aF (pv 2) (aM (pv 3)))))))
 (aH (pz 5 jO (pf (bm3 T:) hr (aM (pv 1))))
 (aH (pz 6 jO (pf (cb5 T:) hr (aF (pv 5) (aM (pv 4)))))
 (aH (pz 7 jO (pf (au3 T:) hr (aF (pv 1) (aM (pv 4)))))
 (aH (pz 8 jO (aV (bW K) rfl T.eE cZ (aM (px K (pv 1) aG))))
 (aH (pz 9 jO (pf (am1 T:) hr (aF (pv 5) (aM (pv 6)))))
 (aH (bV (PW.pt (lN (eC (cF K (pf (xC T:) hr (aF (pv 9) (aF (pv 8) (aM (pv 7))))) (λ_=>rfl))) (mC (PW.pt (mD (eC (cF K (pv 2) (λ_=>rfl))) (kZ (pc (qQ K (n:=cX) hr) (px K (pv 9) aG) bT))))))) (aK (aU hU)) bJ)
 (aH (pz 10 jO (px K (pv 9) aG))
 (aH (fJ (tP K (px K (pv 9) aG) (aM dG)))
 (aH (pz 11 jO (aL bU (aL gK (pf (uJ T:) hr (aF (pv 0) (aM aG))) aG) (aL (bG K) (aV (bW K) rfl T.eE cZ (aM (pv 4))) aG)))
 (aH (pz 12 jO (pf (au3 T:) hr (aF (pv 1) (aM (aL (bG K) (iD (sJ K) (pv 4) lE (iB (pv 11))) (iD (sJ K) (pv 4) (iB (aL (bG K) (pv 11) aG)) lE))))))
 (aH (pz 13 jO (pf (am1 T:) hr (aF (pv 5) (aM (aL (bG K) (iD (sJ K) (pv 6) lE (iB (pv 11))) (iD (sJ K) (pv 6) (iB (aL (bG K) (pv 11) aG)) lE))))))
 (aH (bV (PW.pt (lN (eC (cF K (pf (xC T:) hr (aF (pv 13) (aF (pv 8) (aM (pv 12))))) (λ_=>rfl))) (mC (PW.pt (mD (pc (oe K hr) (pv 10) bT) (kZ (pc (qQ K (n:=cX) hr) (px K (pv 13) aG) bT))))))) (aK (aU hU)) bJ)
 (aH (pz 14 jO (pf (am1 T:) hr (aF (pv 5) (aM (pv 6)))))
 (aK (aU (wC (iU (oe K hr) (px K (pv 14) aG) (pv 10) (qN _)) (vR (pf (xC T:) hr (aF (pv 14) (aF (pv 8) (aM (pv 7)))))))))))))))))))))))))),by unfold br4;walk_at "r"⟩) rfl (λ_=>rfl)
end
theorem ex1{l:PySem.W.OpenLaw}{w:World}{K:PySem.W.Frag}{h:Heap}{mg:Str->Option Value}{fa f0:Addr}(X:K.In h)(G:h.Ns mainGlobals mg)(hfa:mg "law"=some (.ref fa))
 {od0 an0:Option Addr}{sl0:Array (Option Value)}{oc0 kV0 dc0 pm0 cd0 ct0:Value}
 (a0:PySem.W.nsIn K mainGlobals "law"=some (some (.ref f0)))(l0:K.lookup f0=some ⟨oc0,od0,.func (PySem.W.fnOf "law" "law" (jM uV) (dO uV) (aO uV) .none kV0 dc0 pm0 an0 cd0 ct0),sl0⟩)(c0:PySem.W.codeIn K cd0 "law"=true)(k0:PySem.W.keepIn K (.ref f0)=true)
 {cn:Str->Option Addr}{c_Archive c_Ink c_Reign c_Under c_Between c_After c_Same c_Within c_Apart:Addr}{qG vI iE:List (Str×Value)}
 (T:Txt w K cn mg c_Archive c_Ink c_Reign c_Under c_Between c_After c_Same c_Within c_Apart qG vI iE)
 (main:∀ns:List Int,ns.length<=63->(∀n∈ns,Builtin.Int.intBits n<=1048576)->bl4 [.lst false (ns.map .int)]=.ok (.bl true)):
 ∃fd:FuncData,(∀(s:Shared)(v:Value),BindsTo s fd ⟨[v],[]⟩ [("_law_script",v)])/\∀base:Heap,K.In base->base.Ns mainGlobals mg->FnOk l.prog w K mg base kA 8 fa fd ["_law_script"] (bp4 K):=by
 have e:=hfa.symm.trans (PySem.W.mg_of X G a0)
 cases e
 have F0:=aj6 (st:=uV) l0 c0 k0
 have key:∀base:Heap,FnOk l.prog w K mg base kA 8 fa (PySem.W.fnOf "law" "law" (jM uV) (dO uV) (aO uV) .none kV0 dc0 pm0 an0 cd0 ct0) ["_law_script"] (bp4 K):=by
  intro base
  exact law_fn (em1 T F0) main
 exact⟨_,λs v=>.of_eq rfl,λbase _ _=>key base⟩
def iJ(n k:Int):Int:=
 let p:=(n%1000000021+4099*k+77)*30011%2140000027
 let f:=p/46133*(p%46133)+6007*(p/46133)+271*(p%46133)+k
 f*(f%1009+7919)%1700000009
theorem ab9(n k:Int):0<=iJ n k/\iJ n k<1700000009:=⟨Int.emod_nonneg _ (by decide),Int.emod_lt_of_pos _ (by decide)⟩
theorem cu0(n k:Int):eT [.int n,.int k]=.ok (.int (iJ n k)):=by
 unfold eT sX
 have q:∀f:Int,mulOk f (f%1009+7919):=λf=>br0 (by have:=Int.emod_nonneg f (show(1009:Int)≠0 by decide);omega) (by have:=Int.emod_lt_of_pos f (show(0:Int)<1009 by decide);omega)
 have q2:∀p:Int,mulOk (p/46133) (p%46133):=λp=>br0 (by have:=Int.emod_nonneg p (show(46133:Int)≠0 by decide);omega) (by have:=Int.emod_lt_of_pos p (show(0:Int)<46133 by decide);omega)
 have q3:∀p:Int,xK p 46133:=λp=>⟨by decide,by decide⟩
 walk_at "ev"
 rfl
theorem cr6(o:Bool)(ns:List Int)(k:Nat):jF [.lst o (ns.map .int),.int k]=.ok (.int (ns.getD k 0)):=by
 unfold jF uF
 by_cases h:k<ns.length
 . have h1:decide ((k:Int)<(ns.length:Nat))=true:=by simpa using h
   have h2:atI (ns.map T.int) (k:Int)=some (.int (ns.getD k 0)):=fQ (by simp[List.getD_eq_getElem?_getD,List.getElem?_eq_getElem h])
   walk_at "ev"
 . have h1:decide ((k:Int)<(ns.length:Nat))=false:=by simpa using h
   have h2:ns.getD k 0=0:=by simp[List.getD_eq_getElem?_getD,List.getElem?_eq_none (show ns.length<=k by omega)]
   walk_at "ev"
def eight:List Str:=["a","ab","abc","b","ba","zzzzzzzz","zzzzzzzy","q"]
def turned(k:Nat):List Str:=eight.drop k++eight.take k
theorem bz6{α:Type}(xs:List α)(k:Nat)(h:k<=xs.length):fH xs (some (k:Int)) none=xs.drop k:=by
 unfold fH
 have e1:HT.sIx xs.length 0 (some (k:Int))=k:=by
  simp only[HT.sIx]
  rw[if_neg (by omega)]
  omega
 have e2:HT.sIx xs.length xs.length none=xs.length:=rfl
 rw[e1,e2,List.take_of_length_le (by simp)]
theorem xP{α:Type}(xs:List α)(k:Nat):fH xs none (some (k:Int))=xs.take k:=by
 unfold fH
 have e1:HT.sIx xs.length 0 none=0:=rfl
 have e2:HT.sIx xs.length xs.length (some (k:Int))=min k xs.length:=by
  simp only[HT.sIx]
  rw[if_neg (by omega)]
  omega
 rw[e1,e2,List.drop_zero,Nat.sub_zero]
 rw[List.take_eq_take_iff]
 omega
theorem dq8(n:Int):tG [.int n]=.ok (.lst true ((turned (n%8).toNat).map .str)):=by
 unfold tG sW
 have h0:=Int.emod_nonneg n (show(8:Int)≠0 by decide)
 have h1:=Int.emod_lt_of_pos n (show(0:Int)<8 by decide)
 obtain⟨k,hk⟩:=sG h0
 have hk8:k<8:=by omega
 have c1:fH [T.str "a",.str "ab",.str "abc",.str "b",.str "ba",.str "zzzzzzzz",.str "zzzzzzzy",.str "q"] (some (n%8)) none=(eight.drop k).map .str:=by
  rw[hk]
  exact(bz6 (eight.map T.str) k (by show k<=8;omega)).trans List.map_drop.symm
 have c2:fH [T.str "a",.str "ab",.str "abc",.str "b",.str "ba",.str "zzzzzzzz",.str "zzzzzzzy",.str "q"] none (some (n%8))=(eight.take k).map .str:=by
  rw[hk]
  exact(xP (eight.map T.str) k).trans List.map_take.symm
 have l1:(eight.drop k).length+(eight.take k).length<=100000:=by simp[eight];omega
 rw[show(turned (n%8).toNat)=eight.drop k++eight.take k by rw[hk];rfl,List.map_append]
 clear hk
 walk_at "ev"
structure Fm where
 first:Int
 span:Int
 names:List Str
 inks:List (Str×List Int)
 reigns:List (Str×Int×Int)
def dU(o:Bool)(p:Str×List Int):T:=.tup [.str p.1,.lst o (p.2.map .int)]
def eZ(p:Str×Int×Int):T:=.tup [.str p.1,.int p.2.1,.int p.2.2]
def jX(o:Bool)(f:Fm):T:=.tup [.int f.first,.int (f.first+f.span),.lst o (f.names.map .str),.lst o (f.inks.map (dU o)),.lst o (f.reigns.map eZ)]
def oB(w:Str):Bool:=decide (1<=(w.length:Int))&&(decide ((w.length:Int)<=8)&&w.cps.toList.all λc=>occ "abcdefghijklmnopqrstuvwxyz" ⟨#[c]⟩)
structure TabOk (xs:List Int):Prop where
 l1:1<=xs.length
 l60:xs.length<=60
 b:∀x∈xs,0<=x/\x<=408
 f:xs.Pairwise (λa b=>b<=a)
structure Gd (f:Fm):Prop where
 s0:0<=f.span
 s1:f.span<=300
 f0:-3000<=f.first
 f1:f.first+f.span<=3000
 n1:1<=f.names.length
 n8:f.names.length<=8
 nn:∀x∈f.names,oB x=true
 nd:f.names.Nodup
 i1:2<=f.inks.length
 i6:f.inks.length<=6
 ind:(f.inks.map (·.1)).Nodup
 inn:∀p∈f.inks,oB p.1=true/\TabOk p.2
 r1:2<=f.reigns.length
 r8:f.reigns.length<=8
 rnd:(f.reigns.map (·.1)).Nodup
 rn:∀p∈f.reigns,oB p.1=true/\-4000<=p.2.1/\p.2.1<=4000/\1<=p.2.2/\p.2.2<=100
theorem bf5(l:List Int){i:Int}(h0:0<=i)(h1:i<l.length):∃v,atI (l.map T.int) i=some (.int v)/\v∈l:=by
 obtain⟨k,rfl⟩:=sG h0
 have hk:k<l.length:=by omega
 exact⟨l[k],fQ (by simp[hk]),List.getElem_mem hk⟩
def sixI:List Str:=["oak","soot","oa","ink","oakoak","s"]
def sixR:List Str:=["an","b","annab","zz","nn","a"]
theorem cv7(l:List Str){i:Nat}(h1:i<l.length):∃v,atI (l.map T.str) (0+(i:Int))=some (.str v)/\l[i]?=some v:=by
 rw[Int.zero_add]
 exact⟨l[i],fQ (by simp[h1]),List.getElem?_eq_getElem h1⟩
theorem mE(l:List (Str×List Int)):bA (l.map (dU false))=true:=jZ (λa=>by simp only[dU,bS,bA,jK,Bool.not_false,Bool.and_self]) l
theorem xL(l:List (Str×List Int)):cT (l.map (dU true))=true:=lK (λa=>by simp only[dU,cG,cT,kJ,Bool.and_self]) l
theorem mX(o:Bool):∀l:List (Str×List Int),frzs (l.map (dU o))=l.map (dU false)
 |[]=>rfl
 |p::l=>by simp only[List.map_cons,frzs,mX o l,dU,frz,lG]
theorem lT(l:List (Str×Int×Int)):bA (l.map eZ)=true:=jZ (λa=>rfl) l
theorem ax7(l:List (Str×Int×Int)):cT (l.map eZ)=true:=lK (λa=>rfl) l
theorem pU(l:List (Str×Int×Int)):frzs (l.map eZ)=l.map eZ:=vX (λa=>rfl) l
theorem dx7(ns:List Int):∃f,tE [.lst false (ns.map .int),.int 8]=.ok (jX true f)/\Gd f:=by
 unfold tE sP
 have ew:=cu0
 have ec:jF [.lst false (ns.map .int),.int 0]=.ok (.int (ns.getD 0 0)):=cr6 false ns 0
 have en:=dq8
 have hp:ah1 (.int 10) (.int 15)=.ok (.int 1000000000000000):=by
  rw[xO,jA (show ay0 10 15 from⟨by decide,by decide,by decide⟩)]
  rfl
 have hc0:0<=ns.getD 0 0%1000000000000000:=Int.emod_nonneg _ (by decide)
 generalize hc:ns.getD 0 0%1000000000000000=c at hc0
 obtain⟨span,hs,ms⟩:=bf5 [0,1,3,8,20,20,60,300] (i:=c%8) (by omega) (by simp;omega)
 obtain⟨first,hf,mf⟩:=bf5 [-3000,3000-span,-10,1400] (i:=c/8%4) (by omega) (by simp;omega)
 simp only[List.map_cons,List.map_nil]at hs hf
 walk_at "ev"
 clear hs hf hp ec en
 generalize hL:dS _ _ _ _=o
 obtain⟨ρ',rfl,inks,o7,o8,o9,o10,rfl,il,inm,iok⟩:=iX (λi ρ=>∃(inks:List (Str×List Int))(o7 o8 o9 o10:Option T),ρ=[some (T.lst false (List.map T.int ns)),some (T.int 8),some (T.int c),some (T.int span),
  some (T.int first),some (T.lst true (fH (List.map T.str (turned (c/32%8).toNat)) none (some (1+c/256%8)))),some (T.lst true (inks.map (dU true))),o7,o8,o9,o10,none,none]/\
  inks.length=i/\inks.map (·.1)=sixI.take i/\∀p∈inks,TabOk p.2) hL ⟨[],_,_,_,_,rfl,rfl,rfl,eH⟩ (by
  rintro i t ρ et ⟨inks,o7,o8,o9,o10,rfl,il,inm,iok⟩
  obtain⟨hi,rfl⟩:=lF et
  have hw:=ab9 c 6
  have hi':i<6:=by omega
  obtain⟨m,hm,mm⟩:=bf5 [12,60] (i:=c/18432%4/3) (by omega) (by simp;omega)
  obtain⟨nm,hn,en⟩:=cv7 sixI (i:=i) (by show i<6;exact hi')
  simp only[List.map_cons,List.map_nil,sixI]at hm hn
  have hm0:0<m:=by simp at mm;omega
  have hw2:=Int.emod_nonneg (iJ c (0+(i:Int))) (show m≠0 by omega)
  have hw3:=Int.emod_lt_of_pos (iJ c (0+(i:Int))) hm0
  have hw4:iJ c (0+(i:Int))%m<60:=by simp at mm;omega
  clear mm
  clear hL et
  walk_at "ev"
  generalize hL:dS _ _ _ _=o
  obtain⟨ρ',rfl,xs,d,p10,rfl,xl,xb,xf,hd0,hd1⟩:=iX (λj ρ=>∃(xs:List Int)(d:Int)(p10:Option T),ρ=[some (T.lst false (List.map T.int ns)),some (T.int 8),some (T.int c),some (T.int span),
   some (T.int first),some (T.lst true (fH (List.map T.str (turned (c/32%8).toNat)) none (some (1+c/256%8)))),some (T.lst true (inks.map (dU true))),some (.int (0+(i:Int))),some (.int d),some (.lst true (xs.map .int)),p10,none,none]/\
   xs.length=j+1/\(∀x∈xs,d<=x/\x<=408)/\xs.Pairwise (λa b=>b<=a)/\0<=d/\d<=408) hL ⟨[400+c/2048%9],_,_,rfl,rfl,by simp;omega,by simp,by omega,by omega⟩ (by
   rintro j t ρ et ⟨xs,d,p10,rfl,xl,xb,xf,hd0,hd1⟩
   obtain⟨hj,rfl⟩:=lF et
   have hj':j<60:=by omega
   have z0:=Int.emod_nonneg (iJ c (10*(0+(j:Int))+(0+(i:Int)))) (show(13:Int)≠0 by decide)
   have hl:xs.length<=100000:=by omega
   clear hL et
   walk_at "ev"
   refine⟨xs++[if d-iJ c (10*(0+(j:Int))+(0+(i:Int)))%13>0 then d-iJ c (10*(0+(j:Int))+(0+(i:Int)))%13 else 0],_,_,by rw[List.map_append];rfl,by simp[xl],?_,?_,?_,?_⟩
   . intro x hx
     rcases List.mem_append.mp hx with hx|hx
     . have:=xb x hx
       split<;>omega
     . have hx:=List.mem_singleton.mp hx
       subst hx
       split<;>omega
   . rw[List.pairwise_append]
     refine⟨xf,by simp,λa ha b hb=>?_⟩
     have hb:=List.mem_singleton.mp hb
     subst hb
     have:=xb a ha
     split<;>omega
   . split<;>omega
   . split<;>omega)
  rw[fL]at xl
  clear hL
  have hl:inks.length<=100000:=by omega
  walk_at "ev"
  refine⟨inks++[(nm,xs)],_,_,_,_,by rw[List.map_append];rfl,by simp[il],?_,?_⟩
  . rw[List.map_append,inm,List.take_succ,en]
    rfl
  . intro p hp
    rcases List.mem_append.mp hp with hp|hp
    . exact iok p hp
    . have hp:=List.mem_singleton.mp hp
      subst hp
      exact⟨by show 1<=xs.length;omega,by show xs.length<=60;omega,λx hx=>⟨Int.le_trans hd0 (xb x hx).1,(xb x hx).2⟩,xf⟩)
 rw[fL]at il inm
 clear hL
 have h9:0<span+9:=by simp at ms;omega
 have b0:=Int.emod_nonneg (iJ c 3) (show span+9≠0 by omega)
 have b1:=Int.emod_lt_of_pos (iJ c 3) h9
 have b2:=ab9 c 7
 have sb:0<=span/\span<=300:=by simp at ms;omega
 have fb:-3000<=first/\first+span<=3000:=by simp at mf;omega
 walk_at "ev"
 have t1:Int.toNat 1=1:=rfl
 generalize hL:dS _ _ _ _=o
 obtain⟨ρ',rfl,r0,rest,b,q7,rfl,e0,rn,rl,rb,hb0,hb1⟩:=iX (λi ρ=>∃(r0:Str×Int×Int)(rest:List (Str×Int×Int))(b:Int)(q7:Option T),ρ=[some (T.lst false (List.map T.int ns)),some (T.int 8),some (T.int c),some (T.int span),
  some (T.int first),some (T.lst true (fH (List.map T.str (turned (c/32%8).toNat)) none (some (1+c/256%8)))),some (T.lst true (inks.map (dU true))),q7,o8,o9,o10,some (.int b),some (.lst true (eZ r0::rest.map eZ))]/\
  r0.1="ann"/\rest.map (·.1)=(sixR.take i).reverse++[("anna":Str)]/\rest.length=i+1/\(∀p∈r0::rest,-4000<=p.2.1/\p.2.1<=4000/\1<=p.2.2/\p.2.2<=100)/\first-5-4*i<=b/\b<=first+span+3+4*i) hL
  ⟨("ann",first-5+iJ c 3%(span+9),1+iJ c 4%30),[("anna",first-5+iJ c 3%(span+9)+3,1+iJ c 5%100)],_,_,rfl,rfl,rfl,rfl,by simp;omega,by omega,by omega⟩ (by
  rintro i t ρ et ⟨r0,rest,b,q7,rfl,e0,rn,rl,rb,hb0,hb1⟩
  obtain⟨hi,rfl⟩:=lF et
  have hi':i<6:=by omega
  obtain⟨nm,hn,en⟩:=cv7 sixR (i:=i) (by show i<6;exact hi')
  simp only[List.map_cons,List.map_nil,sixR]at hn
  have l1:(rest.map eZ).length+1<=100000:=by rw[List.length_map];omega
  have l2:1<=(rest.map eZ).length+1:=by omega
  rw[List.length_map]at l1 l2
  clear hL et
  walk_at "ev"
  rw[if_pos ⟨by decide,by omega⟩]
  refine⟨r0,(nm,b+iJ c (8+(0+(i:Int)))%9-4,1+iJ c (14+(0+(i:Int)))%60)::rest,_,_,rfl,e0,?_,by simp[rl],?_,?_,?_⟩
  . rw[List.map_cons,rn,List.take_succ,en]
    simp
  . intro p hp
    rcases List.mem_cons.mp hp with rfl|hp
    . exact rb _ List.mem_cons_self
    . rcases List.mem_cons.mp hp with rfl|hp
      . simp only
        omega
      . exact rb p (List.mem_cons_of_mem _ hp)
  . omega
  . omega)
 rw[fL]at rn rl hb0 hb1
 clear hL
 have k0:0<=1+c/256%8:=by omega
 obtain⟨kn,hkn⟩:=sG k0
 have ct:fH (List.map T.str (turned (c/32%8).toNat)) none (some (1+c/256%8))=((turned (c/32%8).toNat).take kn).map .str:=by
  rw[hkn,xP,List.map_take]
 have hk8:1<=kn/\kn<=8:=by omega
 obtain⟨kt,hkt⟩:∃kt:Nat,kt<8/\(c/32%8).toNat=kt:=⟨(c/32%8).toNat,by omega,rfl⟩
 obtain⟨im,him⟩:∃im:Nat,(2<=im/\im<=6)/\(2+iJ c 6%5).toNat=im:=⟨_,by omega,rfl⟩
 obtain⟨rm,hrm⟩:∃rm:Nat,rm<=6/\(iJ c 7%7).toNat=rm:=⟨_,by omega,rfl⟩
 rw[hkt.2]at ct
 rw[him.2]at il inm
 rw[hrm.2]at rn rl
 rw[hkt.2]
 refine⟨⟨first,span,(turned kt).take kn,inks,r0::rest⟩,?_,?_⟩
 . clear hkn
   walk_at "ev"
   simp only[jX,List.map_cons]
 . have turn_ok:∀k,k<8->(turned k).length=8/\(turned k).Nodup/\∀x∈turned k,oB x=true:=by decide+kernel
   obtain⟨u1,u2,u3⟩:=turn_ok kt hkt.1
   have ink_ok:sixI.Nodup/\∀x∈sixI,oB x=true:=by decide+kernel
   have rg_ok:∀k,k<=6->(("ann":Str)::((sixR.take k).reverse++[("anna":Str)])).Nodup/\∀x∈("ann":Str)::((sixR.take k).reverse++[("anna":Str)]),oB x=true:=by decide+kernel
   obtain⟨v1,v2⟩:=rg_ok rm hrm.1
   have rnm:(r0::rest).map (·.1)=("ann":Str)::((sixR.take rm).reverse++[("anna":Str)]):=by rw[List.map_cons,rn,e0]
   exact{
    s0:=sb.1
    s1:=sb.2
    f0:=fb.1
    f1:=fb.2
    n1:=by simp[u1];omega
    n8:=by simp[u1];omega
    nn:=λx hx=>u3 x (List.mem_of_mem_take hx)
    nd:=u2.sublist (List.take_sublist _ _)
    i1:=by show 2<=inks.length;omega
    i6:=by show inks.length<=6;omega
    ind:=by show(inks.map (·.1)).Nodup;rw[inm];exact ink_ok.1.sublist (List.take_sublist _ _)
    inn:=λp hp=>⟨ink_ok.2 _ (List.mem_of_mem_take (i:=im) (by rw[<-inm];exact List.mem_map_of_mem hp)),iok p hp⟩
    r1:=by simp[rl]
    r8:=by simp[rl];omega
    rnd:=by show((r0::rest).map (·.1)).Nodup;rw[rnm];exact v1
    rn:=λp hp=>⟨v2 _ (by rw[<-rnm];exact List.mem_map_of_mem hp),rb p hp⟩}
theorem sF{n:Nat}(h:n<=100000):n<=sizeLine:=Nat.le_trans h (by decide)
theorem ew7{α:Type}(l:List α)(p:α->Bool):(l.map λc=>p c).all id=l.all p:=by
 induction l with
 |nil=>rfl
 |cons a l ih=>simp only[List.map_cons,List.all_cons,ih,id]
theorem kY{α:Type}{b:T->Fr->Option Fr}{c:Fr->Res Bool}{d:Fr->Res T}{ρ:Fr}{g f:α->T}:∀{l:List α},(∀a∈l,(match b (g a) ρ with|some ρ1=>(c ρ1).bind λk=>if k=true then d ρ1 else .no|none=>.no)=.ok (f a))->cM b c d ρ (l.map g)=.ok (l.map f)
 |[],_=>rfl
 |a::l,h=>by
  have h0:=h a List.mem_cons_self
  have ih:=kY (l:=l) λu hu=>h u (List.mem_cons_of_mem _ hu)
  simp only[List.map_cons,cM]
  cases e:b (g a) ρ with
  |none=>rw[e]at h0;cases h0
  |some ρ1=>
   rw[e]at h0
   simp only at h0⊢
   cases e2:c ρ1 with
   |ok k=>
    rw[e2]at h0
    simp only[mF]at h0⊢
    cases k with
    |true=>rw[if_pos rfl]at h0⊢;rw[h0,ih];rfl
    |false=>rw[if_neg (by decide)]at h0;cases h0
   |ex x=>rw[e2]at h0;cases h0
   |no=>rw[e2]at h0;cases h0
theorem bi6(w s:Str)(m:Int)(hw:w.length<=100000):rO [.str w,.str s,.int m]=.ok (.bl (decide (1<=(w.length:Int))&&(decide ((w.length:Int)<=m)&&w.cps.toList.all λc=>occ s ⟨#[c]⟩))):=by
 unfold rO rQ
 have h2:w.cps.toList.length<=sizeLine:=by rw[<-dt6];exact sF hw
 have hc:cM (aI 3) cK (aE (inT false) (aB 3) (aB 1)) [some (.str w),some (.str s),some (.int m),none] (w.cps.toList.map λc=>T.str ⟨#[c]⟩)=.ok ((w.cps.toList.map λc=>occ s ⟨#[c]⟩).map .bl):=by
  rw[List.map_map]
  exact eK λc _=>by walk_at "ev";rfl
 walk_at "ev"
 cases hA:decide (1<=(w.length:Int))with
 |false=>walk_at "ev"
 |true=>
  cases hB:decide ((w.length:Int)<=m)with
  |false=>walk_at "ev"
  |true=>
   walk_at "ev"
   rw[ew7]
theorem ay1{w:Str}(h:oB w=true):w.length<=8:=by
 unfold oB at h
 simp only[Bool.and_eq_true,decide_eq_true_iff]at h
 omega
theorem db0{w:Str}(h:oB w=true):tR [.str w]=.ok (.bl true):=by
 unfold tR wP
 have h1:=bi6 w "abcdefghijklmnopqrstuvwxyz" 8 (by have:=ay1 h;omega)
 rw[show(decide (1<=(w.length:Int))&&(decide ((w.length:Int)<=8)&&w.cps.toList.all λc=>occ "abcdefghijklmnopqrstuvwxyz" ⟨#[c]⟩))=true from h]at h1
 walk_at "ev"
theorem ar7(x l u:Int):dJ [.int x,.int l,.int u]=.ok (.bl (decide (l<=x)&&decide (x<=u))):=by
 have h:vA [.int x]=.ok (.bl true):=by
  unfold vA vB
  walk_at "ev"
 unfold dJ mM
 cases hA:decide (l<=x)with
 |true=>walk_at "ev"
 |false=>walk_at "ev"
theorem pS{x l u:Int}(h1:l<=x)(h2:x<=u):dJ [.int x,.int l,.int u]=.ok (.bl true):=by
 rw[ar7,decide_eq_true h1,decide_eq_true h2]
 rfl
theorem eh2{α:Type}(l:List α):l.map (λ_=>T.bl true)=(l.map λ_=>true).map T.bl:=by rw[List.map_map];rfl
theorem sH{α:Type}(o:Bool)(l:List α):kU false [.lst o (l.map λ_=>T.bl true)]=.ok (.bl true):=by
 rw[eh2,at6]
 simp
theorem nK{xs:List Int}{i:Nat}(h:i<xs.length):atI (xs.map T.int) (i:Int)=some (.int (xs.getD i 0)):=
 fQ (by rw[List.getElem?_map,List.getElem?_eq_getElem h,List.getD_eq_getElem?_getD,List.getElem?_eq_getElem h];rfl)
theorem ec3{xs:List Int}(h:xs.Pairwise (λa b=>b<=a)){i:Nat}(hi:i+1<xs.length):xs.getD (i+1) 0<=xs.getD i 0:=by
 rw[List.pairwise_iff_getElem]at h
 have:=h i (i+1) (by omega) hi (by omega)
 simpa[List.getD_eq_getElem?_getD,List.getElem?_eq_getElem hi,List.getElem?_eq_getElem (show i<xs.length by omega)]using this
theorem ch2(o:Bool){xs:List Int}(h:TabOk xs):rP [.lst o (xs.map .int)]=.ok (.bl true):=by
 unfold rP uS
 obtain⟨h1,h60,hb,hf⟩:=h
 have hc1:cM (aI 1) cK (bE 3 dJ (aD (aB 1) (aD (dC (.int 0)) (aD (dC (.int 1000000)) aJ)))) [some (.lst o (xs.map .int)),none,none] (xs.map .int)=.ok (xs.map λ_=>.bl true):=by
  refine eK λc hc=>?_
  have:=pS (hb c hc).1 (Int.le_trans (hb c hc).2 (show(408:Int)<=1000000 by decide))
  walk_at "ev"
 have hc2:cM (aI 2) cK (aE qX (aE aR (aB 0) (aB 2)) (aE aR (aB 0) (aE dD (aB 2) (dC (.int 1))))) [some (.lst o (xs.map .int)),none,none] (gZ 1 ((xs.length:Int)-1).toNat)=.ok ((List.range (xs.length-1)).map λ_=>.bl true):=by
  unfold gZ
  rw[show((xs.length:Int)-1).toNat=xs.length-1 by omega]
  refine eK λi hi=>?_
  have hi:=List.mem_range.mp hi
  have a1:atI (xs.map T.int) (1+(i:Int))=some (.int (xs.getD (i+1) 0)):=by
   rw[show(1:Int)+(i:Int)=((i+1:Nat):Int) by omega]
   exact nK (by omega)
  have a2:atI (xs.map T.int) (1+(i:Int)-1)=some (.int (xs.getD i 0)):=by
   rw[show(1:Int)+(i:Int)-1=(i:Int) by omega]
   exact nK (by omega)
  have a3:=decide_eq_true (ec3 hf (i:=i) (by omega))
  walk_at "ev"
 have hl2:(gZ 1 ((xs.length:Int)-1).toNat).length<=sizeLine:=by rw[fL];exact sF (by omega)
 have k1:decide (1<=(xs.length:Int))=true:=decide_eq_true (by omega)
 have k2:decide ((xs.length:Int)<=60)=true:=decide_eq_true (by omega)
 have y1:=λo=>sH o xs
 have y2:=λo=>sH o (List.range (xs.length-1))
 clear hb hf
 walk_at "ev"
theorem cy3{b l:Int}(h1:-4000<=b)(h2:b<=4000)(h3:1<=l)(h4:l<=100):rS [.int b,.int l]=.ok (.bl true):=by
 unfold rS uT
 have k1:=pS h1 h2
 have k2:=pS h3 h4
 walk_at "ev"
theorem bt9{a b:Int}(h1:-3000<=a)(h2:a<=b)(h3:b<=3000)(h4:b-a<=300):sZ [.int a,.int b]=.ok (.bl true):=by
 unfold sZ sS
 have k1:=pS h1 (show a<=3000 by omega)
 have k2:=pS (show -3000<=b by omega) h3
 have k3:decide (0<=b-a)=true:=decide_eq_true (by omega)
 have k4:decide (b-a<=300)=true:=decide_eq_true (by omega)
 walk_at "ev"
theorem xG{o:Bool}{ss:List Str}{l u:Int}(h1:l<=ss.length)(h2:(ss.length:Int)<=u)(h3:ss.length<=1000)(hn:∀x∈ss,oB x=true)(nd:ss.Nodup):mI [.lst o (ss.map .str),.int l,.int u]=.ok (.bl true):=by
 unfold mI sV
 have hc:cM (aI 3) cK (bE 1 tR (aD (aB 3) aJ)) [some (.lst o (ss.map .str)),some (.int l),some (.int u),none] (ss.map .str)=.ok (ss.map λ_=>.bl true):=by
  refine eK λc hc=>?_
  have:=db0 (hn c hc)
  walk_at "ev"
 have k1:decide (l<=(ss.length:Int))=true:=decide_eq_true h1
 have k2:decide ((ss.length:Int)<=u)=true:=decide_eq_true h2
 have y1:=λo=>sH o ss
 have ls:=dz1 o nd h3
 have l4:ss.length<=100000:=by omega
 clear hn nd
 walk_at "ev"
 simp
theorem cz2{is:List (Str×List Int)}(h6:is.length<=6)(nd:(is.map (·.1)).Nodup)(ok:∀p∈is,oB p.1=true/\TabOk p.2):uQ [.lst false (is.map (dU false))]=.ok (.bl true):=by
 unfold uQ vD
 have hc1:cM (eI (aX (aI 1) (aX (aI 2) eO))) cK (aQ (aB 1)) [some (.lst false (is.map (dU false))),none,none] (is.map (dU false))=.ok ((is.map (·.1)).map .str):=by
  rw[List.map_map]
  exact kY λp _=>by simp only[dU];walk_at "ev";rfl
 have hc2:cM (eI (aX (aI 1) (aX (aI 2) eO))) cK (bE 1 rP (aD (aB 2) aJ)) [some (.lst false (is.map (dU false))),none,none] (is.map (dU false))=.ok (is.map λ_=>.bl true):=by
  refine kY λp hp=>?_
  simp only[dU]
  have:=ch2 false (ok p hp).2
  walk_at "ev"
 have nm:=xG (o:=false) (ss:=is.map (·.1)) (l:=0) (u:=6) (by omega) (by simp;omega) (by simp;omega) (λx hx=>by
  obtain⟨p,hp,rfl⟩:=List.mem_map.mp hx
  exact(ok p hp).1) nd
 have y1:=λo=>sH o is
 have n1:=mE is
 have l4:is.length<=100000:=by omega
 clear ok nd
 walk_at "ev"
theorem by5{rs:List (Str×Int×Int)}(h8:rs.length<=8)(nd:(rs.map (·.1)).Nodup)(ok:∀p∈rs,oB p.1=true/\-4000<=p.2.1/\p.2.1<=4000/\1<=p.2.2/\p.2.2<=100):qS [.lst false (rs.map eZ)]=.ok (.bl true):=by
 unfold qS rH
 have hc1:cM (eI (aX (aI 1) (aX (aI 2) (aX (aI 3) eO)))) cK (aQ (aB 1)) [some (.lst false (rs.map eZ)),none,none,none] (rs.map eZ)=.ok ((rs.map (·.1)).map .str):=by
  rw[List.map_map]
  exact kY λp _=>by simp only[eZ];walk_at "ev";rfl
 have hc2:cM (eI (aX (aI 1) (aX (aI 2) (aX (aI 3) eO)))) cK (bE 2 rS (aD (aB 2) (aD (aB 3) aJ))) [some (.lst false (rs.map eZ)),none,none,none] (rs.map eZ)=.ok (rs.map λ_=>.bl true):=by
  refine kY λp hp=>?_
  simp only[eZ]
  obtain⟨_,k1,k2,k3,k4⟩:=ok p hp
  have:=cy3 k1 k2 k3 k4
  walk_at "ev"
 have nm:=xG (o:=false) (ss:=rs.map (·.1)) (l:=0) (u:=8) (by omega) (by simp;omega) (by simp;omega) (λx hx=>by
  obtain⟨p,hp,rfl⟩:=List.mem_map.mp hx
  exact(ok p hp).1) nd
 have y1:=λo=>sH o rs
 have n1:=lT rs
 have l4:rs.length<=100000:=by omega
 clear ok nd
 walk_at "ev"
def cO(o:Bool)(f:Fm):T:=.ins o "Archive" ["first","present","letters","inks","reigns"] [.int f.first,.int (f.first+f.span),.lst o (f.names.map .str),.lst o (f.inks.map (dU o)),.lst o (f.reigns.map eZ)]
theorem fi1:gM "first" []=none:=rfl
theorem fi2:gM "present" ["first"]=none:=by decide+kernel
theorem fi3:gM "letters" ["first","present"]=none:=by decide+kernel
theorem fi4:gM "inks" ["first","present","letters"]=none:=by decide+kernel
theorem fi5:gM "reigns" ["first","present","letters","inks"]=none:=by decide+kernel
theorem ct1:(["Archive"]:List Str).contains "Archive"=true:=by decide+kernel
theorem bd6{f:Fm}(g:Gd f):rN [.int f.first,.int (f.first+f.span),.lst false (f.names.map .str),.lst false (f.inks.map (dU false)),.lst false (f.reigns.map eZ)]=.ok (cO true f):=by
 unfold rN kP cO
 have k1:=bt9 g.f0 (show f.first<=f.first+f.span by have:=g.s0;omega) g.f1 (by have:=g.s1;omega)
 have k2:=xG (o:=false) (l:=1) (u:=8) (ss:=f.names) (by have:=g.n1;omega) (by have:=g.n8;omega) (by have:=g.n8;omega) g.nn g.nd
 have k3:=cz2 g.i6 g.ind g.inn
 have k4:=by5 g.r8 g.rnd g.rn
 have n1:=mE f.inks
 have n2:=lT f.reigns
 have z1:=mX false f.inks
 have z2:=pU f.reigns
 have i1:=fi1
 have i2:=fi2
 have i3:=fi3
 have i4:=fi4
 have i5:=fi5
 have c1:=ct1
 have d0:∀x y z:T,cM (eI (aX (aI 6) (aX (aI 7) eO))) cK (cQ (aD (aQ (aB 6)) (aD (bZ jQ (aD (aB 7) aJ)) aJ))) [some x,some (.int f.first),some (.int (f.first+f.span)),some y,some (.lst false (f.inks.map (dU false))),some z,none,none,none,none] (f.inks.map (dU false))=.ok (f.inks.map (dU true)):=λx y z=>
  kY λp _=>by simp only[dU];walk_at "ev"
 have d1:∀x y z:T,cM (eI (aX (aI 6) (aX (aI 8) (aX (aI 9) eO)))) cK (cQ (aD (aQ (aB 6)) (aD (aQ (aB 8)) (aD (aQ (aB 9)) aJ)))) [some x,some (.int f.first),some (.int (f.first+f.span)),some y,some z,some (.lst false (f.reigns.map eZ)),none,none,none,none] (f.reigns.map eZ)=.ok (f.reigns.map eZ):=λx y z=>
  kY λp _=>by simp only[eZ];walk_at "ev"
 have l5:f.reigns.length<=100000:=by have:=g.r8;omega
 have l4:f.inks.length<=100000:=by have:=g.i6;omega
 clear g
 have q1:decide (0<1000)=true:=rfl
 have q2:decide (1<1000)=true:=rfl
 have q3:decide (2<1000)=true:=rfl
 have q4:decide (3<1000)=true:=rfl
 have q5:decide (4<1000)=true:=rfl
 walk_at "ev"
theorem jV(o:Bool)(f:Fm):frz (cO o f)=cO false f:=by simp only[cO,frz,frzs,tV,mX,pU]
theorem kK(f:Fm):bS (cO false f)=true:=by simp only[cO,bS,bA,jL,mE,lT,Bool.not_false,Bool.and_self]
theorem bb6(f:Fm):cG (cO true f)=true:=by simp only[cO,cG,cT,oK,xL,ax7,Bool.and_self]
theorem aw5(o:Bool)(f:Fm):gC ["Archive"] "first" (cO o f)=.ok (.int f.first):=by with_unfolding_all rfl
theorem af8(o:Bool)(f:Fm):gC ["Archive"] "present" (cO o f)=.ok (.int (f.first+f.span)):=by with_unfolding_all rfl
theorem uU(o:Bool)(f:Fm):gC ["Archive"] "letters" (cO o f)=.ok (.lst o (f.names.map .str)):=by with_unfolding_all rfl
theorem cw0(o:Bool)(f:Fm):gC ["Archive"] "inks" (cO o f)=.ok (.lst o (f.inks.map (dU o))):=by with_unfolding_all rfl
theorem bf2(o:Bool)(f:Fm):gC ["Archive"] "reigns" (cO o f)=.ok (.lst o (f.reigns.map eZ)):=by with_unfolding_all rfl
theorem iF{α:Type}(a:α)(l:List α):atI (a::l) 0=some a:=fQ (j:=0) rfl
theorem iG{α:Type}(a b:α)(l:List α):atI (a::b::l) 1=some b:=fQ (j:=1) rfl
theorem oS{α:Type}(a b c:α)(l:List α):atI (a::b::c::l) 2=some c:=fQ (j:=2) rfl
theorem vZ{α:Type}(a b c d:α)(l:List α):atI (a::b::c::d::l) 3=some d:=fQ (j:=3) rfl
theorem ix4{α:Type}(a b c d e:α)(l:List α):atI (a::b::c::d::e::l) 4=some e:=fQ (j:=4) rfl
theorem bl3{f:Fm}(g:Gd f):pJ [jX false f]=.ok (cO true f):=by
 unfold pJ pA
 have hc:cM (eI (aX (aI 2) (aX (aI 3) eO))) cK (cQ (aD (aQ (aB 2)) (aD (bZ jQ (aD (aB 3) aJ)) aJ))) [some (jX false f),none,none,none] (f.inks.map (dU false))=.ok (f.inks.map (dU true)):=
  kY λp _=>by simp only[dU];walk_at "ev"
 have k:=bd6 g
 have n1:=mE f.inks
 have n2:=lT f.reigns
 have z1:=mX true f.inks
 have z2:=pU f.reigns
 have z3:=xL f.inks
 have l4:f.inks.length<=100000:=by have:=g.i6;omega
 have ca:=bb6 f
 have a0:=λl=>iF (T.int f.first) l
 simp only[jX]at hc⊢
 clear g
 have b0:=@iF T
 have b1:=@iG T
 have b2:=@oS T
 have b3:=@vZ T
 have b4:=@ix4 T
 walk_at "ev"
def mN:Option Int->T
 |none=>.non
 |some h=>.int h
def kM:List Str:=["Ink","Reign","Under","Between","After","Same","Within","Apart"]
def gO(o:Bool)(c:Str)(ls:List Int)(lo:Int)(hi:Option Int)(x:Str):T:=.ins o c ["spoken","low","high","text"] [.lst o (ls.map .int),.int lo,mN hi,.str x]
theorem aa9(h:Option Int):bS (mN h)=true/\cG (mN h)=true/\frz (mN h)=mN h:=by cases h<;>exact⟨rfl,rfl,rfl⟩
theorem yV(h:Option Int):bS (mN h)=true:=(aa9 h).1
theorem at4(h:Option Int):cG (mN h)=true:=(aa9 h).2.1
theorem cb9(h:Option Int):frz (mN h)=mN h:=(aa9 h).2.2
theorem ba8(c:Str)(ls:List Int)(lo:Int)(hi:Option Int)(x:Str):cG (gO true c ls lo hi x)=true:=by simp only[gO,cG,cT,kJ,at4,Bool.and_self]
theorem dj2(c:Str)(ls:List Int)(lo:Int)(hi:Option Int)(x:Str):bS (gO false c ls lo hi x)=true:=by simp only[gO,bS,bA,jK,yV,Bool.not_false,Bool.and_self]
theorem eo1(o:Bool)(c:Str)(ls:List Int)(lo:Int)(hi:Option Int)(x:Str):frz (gO o c ls lo hi x)=gO false c ls lo hi x:=by simp only[gO,frz,frzs,lG,cb9]
theorem fj1:gM "spoken" []=none:=rfl
theorem fj2:gM "low" ["spoken"]=none:=by decide+kernel
theorem fj3:gM "high" ["spoken","low"]=none:=by decide+kernel
theorem fj4:gM "text" ["spoken","low","high"]=none:=by decide+kernel
theorem ct8:∀c∈kM,(["Ink","Reign","Under","Between","After","Same","Within","Apart"]:List Str).contains c=true:=by decide+kernel
theorem dn7{ys:List Str}(h:∀y∈ys,y.length<=2000000)(hl:ys.length<=5)(o:Bool):zQ (.str " ") [.lst o (ys.map .str)]=.ok (.str (Txt.join " " ys)):=by
 rw[ai3,if_pos]
 have hs:(ys.map (·.length)).sum<=ys.length*2000000:=by
  clear hl
  induction ys with
  |nil=>simp
  |cons y ys ih=>
   have h1:=h y List.mem_cons_self
   have h2:=ih λz hz=>h z (List.mem_cons_of_mem _ hz)
   simp only[List.map_cons,List.sum_cons,List.length_cons]
   omega
 have h1:(" ":Str).length=1:=by decide+kernel
 rw[h1]
 have:ys.length*2000000<=5*2000000:=Nat.mul_le_mul_right _ hl
 omega
theorem aa3(n:Str):∀ss:List Str,sD (.str n) (ss.map .str)=some (ss.map λs=>s==n)
 |[]=>rfl
 |s::ss=>by
  simp only[List.map_cons,sD,aa3 n ss]
  rfl
theorem cu1{n:Str}:∀{ss:List Str}{l:Nat},ss.Nodup->ss[l]?=some n->zL (ss.map λs=>s==n)=some l
 |[],l,_,h=>by simp at h
 |s::ss,0,_,h=>by
  simp at h
  subst h
  simp[zL]
 |s::ss,l+1,nd,h=>by
  rw[List.nodup_cons]at nd
  simp only[List.getElem?_cons_succ]at h
  have hne:(s==n)=false:=by
   simp
   rintro rfl
   exact nd.1 (List.mem_of_getElem? h)
  simp only[List.map_cons,hne,zL,cu1 nd.2 h]
  rfl
theorem db8{f:Fm}(g:Gd f){l:Nat}{n:Str}(h:f.names[l]?=some n)(o:Bool):xU (.lst o (f.names.map .str)) [.str n]=.ok (.int (l:Int)):=by
 simp only[xU,aa3,cu1 g.nd h]
theorem ds2{ss:List Str}{n:Str}(h:n∈ss)(o:Bool):inT false (.str n) (.lst o (ss.map .str))=.ok (.bl true):=by
 have:(ss.map λs=>s==n).any id=true:=by
  rw[List.any_map,List.any_eq_true]
  exact⟨n,h,by simp⟩
 simp only[inT,aa3,Bool.false_eq_true,if_false,this]
theorem dx1{ts:List T}{ys:List Str}{z:Str}(hn:bA ts=true)(hl:ts.length<=100000)(hx:∀a:Option T,cM (aI 1) cK (bZ wM (aD (aB 1) aJ)) [a,none] ts=.ok (ys.map .str))(hj:zQ (.str " ") [.lst true (ys.map .str)]=.ok (.str z)):zH [.lst false ts]=.ok (.str z):=by
 unfold zH zP
 walk_at "ev"
theorem ed1{f:Fm}(g:Gd f){c w:Str}(hc:c∈kM){ps:List T}{ds:List T}{nl:List (Str×Nat)}{xs:List Str}{lo:Int}{hi:Option Int}(hp:bA ps=true)(hpl:ps.length<=4)(hk:kt_PARTS.lookup w=some (.tup ds))(hds:bA ds=true)
 (h7:∀a b d e h i:Option T,cM (eI (aX (aI 7) (aX (aI 8) eO))) (bD (aE eS (aB 8) (dC (.str "letter")))) (aQ (aB 7)) [a,b,d,e,h,i,none,none,none,none] (kB ps ds)=.ok ((nl.map (·.1)).map .str))
 (hn:nl.length<=4)(hnl:∀p∈nl,f.names[p.2]?=some p.1)
 (hx:∀a:Option T,cM (aI 1) cK (bZ wM (aD (aB 1) aJ)) [a,none] (.str w::ps)=.ok ((w::xs).map .str))(hxl:xs.length<=4)(hxb:∀y∈w::xs,y.length<=2000000):
 ∃x,jG (cE (cD 10 [.ins true c [] [],cO false f,.str w,.lst false ps,.int lo,mN hi]))=.ok (gO true c (nl.map λp=>(p.2:Int)) lo hi x):=by
 refine⟨Txt.join " " (w::xs),?_⟩
 unfold cE gO
 have hl7:(kB ps ds).length<=sizeLine:=by rw[aa1];exact sF (by omega)
 have i1:=fj1
 have i2:=fj2
 have i3:=fj3
 have i4:=fj4
 have cc:=ct8 c hc
 have fl:=uU false f
 have h9:cM (aI 9) cK (dBM yA xU (fI (gC ["Archive"] "letters") (aB 1)) (aD (aB 9) aJ)) [some (.ins true c [] []),some (cO false f),some (.str w),some (.lst false ps),some (.int lo),some (mN hi),some (.lst true ((nl.map (·.1)).map .str)),none,none,none] ((nl.map (·.1)).map .str)=.ok ((nl.map λp=>(p.2:Int)).map .int):=by
  rw[List.map_map,List.map_map]
  refine eK (α:=Str×Nat) λp hp=>?_
  have:=db8 g (hnl p hp) false
  walk_at "ev"
  exact this
 have nh:=yV hi
 have jn:=dn7 (ys:=w::xs) hxb (by simp;omega) true
 have sp:=dx1 (ts:=.str w::ps) (by simp only[bA,bS,hp,Bool.and_self]) (by simp only[List.length_cons];omega) hx jn
 have zp:=gB ps hp
 clear hx jn
 have np:=jL
 have hxl2:1+xs.length<=sizeLine:=sF (by omega)
 have hnn:(nl.map (·.1)).length<=100000:=by simp;omega
 have q1:decide (0<1000)=true:=rfl
 have q2:decide (1<1000)=true:=rfl
 have q3:decide (2<1000)=true:=rfl
 have q4:decide (3<1000)=true:=rfl
 clear g hnl hxb
 walk_at "ev"
theorem ce8{a:T}{ts us:List T}(h:a∈kB ts us):∃(i:Nat)(t u:T),ts[i]?=some t/\us[i]?=some u/\a=.tup [t,u]:=by
 obtain⟨i,hi⟩:=List.getElem?_of_mem h
 obtain⟨t,u,h1,h2,h3⟩:=br2 hi
 exact⟨i,t,u,h1,h2,h3⟩
theorem cl5{ts:List T}{i:Nat}{t:T}(h:bA ts=true)(e:ts[i]?=some t):bS t=true:=by
 rw[kF,List.all_eq_true]at h
 exact h t (List.mem_of_getElem? e)
theorem cw9{f:Fm}{w:Str}{ps:List T}{ds:List Str}(hk:kt_PARTS.lookup w=some (.tup (ds.map .str)))(hp:bA ps=true)(hl:ps.length=ds.length)(h4:ds.length<=4)
 (h:∀(i:Nat)(d:Str)(p:T),ds[i]?=some d->ps[i]?=some p->gH [cO false f,.str d,p]=.ok (.bl true)):tW [cO false f,.str w,.lst false ps]=.ok (.bl true):=by
 unfold tW wS
 have na:=kK f
 have za:=jV false f
 have hc:cM (eI (aX (aI 3) (aX (aI 4) eO))) cK (bE 3 gH (aD (aB 0) (aD (aB 3) (aD (aB 4) aJ)))) [some (cO false f),some (.str w),some (.lst false ps),none,none] (kB (ds.map .str) ps)=.ok ((kB (ds.map .str) ps).map λ_=>.bl true):=by
  have:=kY (b:=eI (aX (aI 3) (aX (aI 4) eO))) (c:=cK) (d:=bE 3 gH (aD (aB 0) (aD (aB 3) (aD (aB 4) aJ)))) (ρ:=[some (cO false f),some (.str w),some (.lst false ps),none,none]) (g:=id) (f:=λ_=>T.bl true) (l:=kB (ds.map .str) ps) λa ha=>?_
  . rw[List.map_id]at this
    exact this
  obtain⟨i,t,u,h1,h2,rfl⟩:=ce8 ha
  rw[List.getElem?_map]at h1
  cases e:ds[i]? with
  |none=>rw[e]at h1;cases h1
  |some d=>
   rw[e]at h1
   cases h1
   have k:=h i d u e h2
   have nu:=cl5 hp h2
   have zu:=ba2 u nu
   simp only[id]
   clear h hk hp ha
   walk_at "ev"
 have hs:(kt_PARTS.lookup w).isSome=true:=by rw[hk];rfl
 have e1:(!((ps.length:Int)==(ds.length:Int)))=false:=by rw[hl];simp
 have hpl:(kB (ds.map .str) ps).length<=sizeLine:=by rw[aa1,List.length_map];exact sF (by omega)
 have y:=λo=>sH o (kB (ds.map .str) ps)
 have nd:=jL ds
 clear h hl
 walk_at "ev"
theorem wE:∀d∈(["ink","reign","dark","place","year","later","gap"]:List Str),(d=="letter")=false:=by decide+kernel
theorem en2:∀d∈(["reign","dark","place","year","later","gap"]:List Str),(d=="ink")=false:=by decide+kernel
theorem eo7:∀d∈(["dark","place","year","later","gap"]:List Str),(d=="reign")=false:=by decide+kernel
theorem gG{f:Fm}{n:Str}(h:n∈f.names):gH [cO false f,.str "letter",.str n]=.ok (.bl true):=by
 unfold gH pQ
 have k:=ds2 h false
 have fl:=uU false f
 have e:(("letter":Str)=="letter")=true:=beq_self_eq_true _
 walk_at "ev"
theorem dr8{f:Fm}(g:Gd f){n:Str}(h:n∈f.inks.map (·.1)):gH [cO false f,.str "ink",.str n]=.ok (.bl true):=by
 unfold gH pQ
 have fl:=cw0 false f
 have e:(("ink":Str)=="ink")=true:=beq_self_eq_true _
 have e1:=wE "ink" (by decide+kernel)
 have k:=ds2 h true
 have b0:=@iF T
 have l6:f.inks.length<=100000:=by have:=g.i6;omega
 have n1:=mE f.inks
 have hc:cM (aI 3) cK (aQ (aE aR (aB 3) (dC (.int 0)))) [some (cO false f),some (.str "ink"),some (.str n),none,none] (f.inks.map (dU false))=.ok ((f.inks.map (·.1)).map .str):=by
  rw[List.map_map]
  exact eK λp _=>by simp only[dU];walk_at "ev";rfl
 clear g h
 walk_at "ev"
theorem bp2{f:Fm}(g:Gd f){n:Str}(h:n∈f.reigns.map (·.1)):gH [cO false f,.str "reign",.str n]=.ok (.bl true):=by
 unfold gH pQ
 have fl:=bf2 false f
 have e:(("reign":Str)=="reign")=true:=beq_self_eq_true _
 have e1:=wE "reign" (by decide+kernel)
 have e2:=en2 "reign" (by decide+kernel)
 have k:=ds2 h true
 have b0:=@iF T
 have l6:f.reigns.length<=100000:=by have:=g.r8;omega
 have n1:=lT f.reigns
 have hc:cM (aI 4) cK (aQ (aE aR (aB 4) (dC (.int 0)))) [some (cO false f),some (.str "reign"),some (.str n),none,none] (f.reigns.map eZ)=.ok ((f.reigns.map (·.1)).map .str):=by
  rw[List.map_map]
  exact eK λp _=>by simp only[eZ];walk_at "ev";rfl
 clear g h
 walk_at "ev"
theorem qF{f:Fm}{d:Str}{lo hi i:Int}(hd:d∈(["dark","place","year","later","gap"]:List Str))(hk:kt_NUMBERS.lookup d=some (.tup [.int lo,.int hi]))(h1:lo<=i)(h2:i<=hi):gH [cO false f,.str d,.int i]=.ok (.bl true):=by
 unfold gH pQ
 have e1:=wE d (List.mem_cons_of_mem _ (List.mem_cons_of_mem _ hd))
 have e2:=en2 d (List.mem_cons_of_mem _ hd)
 have e3:=eo7 d hd
 have k:=pS h1 h2
 have b0:=@iF T
 have b1:=@iG T
 walk_at "ev"
theorem cb1:kt_NUMBERS.lookup ("dark":Str)=some (.tup [.int 0,.int 1000000]):=by with_unfolding_all rfl
theorem dr0:kt_NUMBERS.lookup ("place":Str)=some (.tup [.int 1,.int 100]):=by with_unfolding_all rfl
theorem cq0:kt_NUMBERS.lookup ("year":Str)=some (.tup [.int (-4000),.int 4000]):=by with_unfolding_all rfl
theorem dz3:kt_NUMBERS.lookup ("later":Str)=some (.tup [.int 0,.int 300]):=by with_unfolding_all rfl
theorem cx7:kt_NUMBERS.lookup ("gap":Str)=some (.tup [.int (-300),.int 300]):=by with_unfolding_all rfl
abbrev d_ink:List Str:=["letter","ink","dark","dark"]
abbrev d_reign:List Str:=["letter","reign","place"]
abbrev d_under:List Str:=["letter","reign"]
abbrev d_between:List Str:=["letter","year","year"]
abbrev d_two:List Str:=["letter","letter"]
abbrev d_within:List Str:=["letter","letter","later"]
abbrev d_apart:List Str:=["letter","letter","gap","gap"]
theorem et3:kt_PARTS.lookup ("ink":Str)=some (.tup (d_ink.map .str)):=by with_unfolding_all rfl
theorem dt1:kt_PARTS.lookup ("reign":Str)=some (.tup (d_reign.map .str)):=by with_unfolding_all rfl
theorem dn2:kt_PARTS.lookup ("under":Str)=some (.tup (d_under.map .str)):=by with_unfolding_all rfl
theorem ce5:kt_PARTS.lookup ("between":Str)=some (.tup (d_between.map .str)):=by with_unfolding_all rfl
theorem dv2:kt_PARTS.lookup ("after":Str)=some (.tup (d_two.map .str)):=by with_unfolding_all rfl
theorem dj8:kt_PARTS.lookup ("same":Str)=some (.tup (d_two.map .str)):=by with_unfolding_all rfl
theorem cu9:kt_PARTS.lookup ("within":Str)=some (.tup (d_within.map .str)):=by with_unfolding_all rfl
theorem du2:kt_PARTS.lookup ("apart":Str)=some (.tup (d_apart.map .str)):=by with_unfolding_all rfl
theorem el0:tb_MAKERS.lookup ("ink":Str)=some qL:=by with_unfolding_all rfl
theorem dq1:tb_MAKERS.lookup ("reign":Str)=some nW:=by with_unfolding_all rfl
theorem dg4:tb_MAKERS.lookup ("under":Str)=some nZ:=by with_unfolding_all rfl
theorem cr2:tb_MAKERS.lookup ("between":Str)=some lU:=by with_unfolding_all rfl
theorem dr1:tb_MAKERS.lookup ("after":Str)=some nQ:=by with_unfolding_all rfl
theorem dv8:tb_MAKERS.lookup ("same":Str)=some oY:=by with_unfolding_all rfl
theorem co8:tb_MAKERS.lookup ("within":Str)=some mU:=by with_unfolding_all rfl
theorem da4:tb_MAKERS.lookup ("apart":Str)=some nP:=by with_unfolding_all rfl
theorem dt0{f:Fm}{w d1:Str}{ps ds:List T}{F:List T->Res T}{r:T}(hk:kt_PARTS.lookup w=some (.tup ds))(hp:bA ps=true)(hds:bA ds=true)(hd:tW [cO false f,.str w,.lst false ps]=.ok (.bl true))(h1:atI ds 1=some (.str d1))
 (h2:(d1=="letter")=false\/((d1=="letter")=true/\∃a b:Str,atI ps 0=some (.str a)/\atI ps 1=some (.str b)/\(a==b)=false))(hm:tb_MAKERS.lookup w=some F)(hF:F [cO false f,.lst false ps]=.ok r)(hc:cG r=true):
 dF [cO false f,.str w,.lst false ps]=.ok r:=by
 unfold dF sR
 have na:=kK f
 have za:=jV false f
 have zp:=gB ps hp
 rcases h2 with h2|⟨h2,a,b,h3,h4,h5⟩
 . walk_at "ev"
 . walk_at "ev"
def pB(xs:List Int)(d e:Int)(j:Nat):Bool:=decide ((if xs.getD (min j (xs.length-1)) 0-d<0 then -(xs.getD (min j (xs.length-1)) 0-d)else xs.getD (min j (xs.length-1)) 0-d)<=e)
def gA(xs:List Int)(d e:Int)(n:Nat):List Int:=((List.range n).filter (pB xs d e)).map λ(j:Nat)=>(j:Int)
def de1:List Int->T
 |[]=>.non
 |a::l=>.tup [.int a,.int ((a::l).getD l.length 0)]
theorem qC(xs:List Int)(d e:Int)(n:Nat):gA xs d e (n+1)=gA xs d e n++(if pB xs d e n=true then [(n:Int)]else []):=by
 unfold gA
 rw[List.range_succ,List.filter_append,List.map_append]
 congr 1
 simp only[List.filter_cons,List.filter_nil]
 split<;>rfl
theorem di4{l:List Int}{a:Int}:atI ((a::l).map T.int) (-1)=some (.int ((a::l).getD l.length 0)):=by
 have e0:rK ((a::l).map T.int).length (-1)=some l.length:=by
  unfold rK
  rw[if_neg (by decide),List.length_map,List.length_cons,if_pos (by omega)]
  congr 1
  omega
 unfold atI
 rw[e0]
 show((a::l).map T.int)[l.length]?=_
 rw[List.getElem?_map,List.getD_eq_getElem?_getD,List.getElem?_eq_getElem (by simp)]
 rfl
theorem zW(xs:List Int)(d e:Int)(n m:Nat)(h:∀j,n<=j->j<n+m->pB xs d e j=false):gA xs d e (n+m)=gA xs d e n:=by
 induction m with
 |zero=>rfl
 |succ m ih=>
  rw[<-Nat.add_assoc,qC,ih (λj h1 h2=>h j h1 (by omega)),h (n+m) (by omega) (by omega)]
  simp
theorem az1{xs:List Int}{d e:Int}{n:Nat}(h:pB xs d e n=true):∃l,gA xs d e (n+1)=l++[(n:Int)]:=⟨gA xs d e n,by rw[qC,if_pos h]⟩
theorem az6(xs:List Int)(d e:Int)(n:Nat):∀x∈gA xs d e n,x<n:=by
 intro x hx
 unfold gA at hx
 obtain⟨j,hj,rfl⟩:=List.mem_map.mp hx
 have:=List.mem_range.mp (List.mem_filter.mp hj).1
 omega
theorem bu1(l:List Int)(z:Int):(l++[z]).getD l.length 0=z:=by
 rw[List.getD_eq_getElem?_getD,List.getElem?_append_right (Nat.le_refl _)]
 simp
theorem dq6(xs:List Int)(d e:Int)(G:Nat)(h0:0<xs.length)(a:Int)(l:List Int)(hh:gA xs d e (min (xs.length-1) G+1)=a::l):
 de1 (gA xs d e (G+1))=.tup [.int a,.int (if(a::l).getD l.length 0=((xs.length-1:Nat):Int)then(G:Int)else(a::l).getD l.length 0)]:=by
 have hmem:(a::l).getD l.length 0∈a::l:=by
  rw[List.getD_eq_getElem?_getD,List.getElem?_eq_getElem (by simp)]
  exact List.getElem_mem _
 have hb:=az6 xs d e (min (xs.length-1) G+1) _ (by rw[hh];exact hmem)
 rcases Nat.lt_or_ge (xs.length-1) G with hG|hG
 . rw[Nat.min_eq_left (by omega)]at hh hb
   have same:∀j,xs.length-1<=j->pB xs d e j=pB xs d e (xs.length-1):=by
    intro j hj
    unfold pB
    rw[Nat.min_eq_right hj,Nat.min_self]
   cases hp:pB xs d e (xs.length-1)with
   |true=>
    have hG':pB xs d e G=true:=by rw[same G (by omega),hp]
    obtain⟨l1,h1⟩:=az1 hG'
    obtain⟨l2,h2⟩:=az1 hp
    rw[hh]at h2
    have pre:∀m,∃r,gA xs d e (xs.length-1+1+m)=a::l++r:=by
     intro m
     induction m with
     |zero=>exact⟨[],by rw[Nat.add_zero,hh,List.append_nil]⟩
     |succ m ih=>
      obtain⟨r,hr⟩:=ih
      rw[<-Nat.add_assoc,qC,hr,List.append_assoc]
      exact⟨_,rfl⟩
    obtain⟨r,hr⟩:=pre (G+1-(xs.length-1+1))
    rw[show xs.length-1+1+(G+1-(xs.length-1+1))=G+1 by omega]at hr
    have last:(a::l).getD l.length 0=((xs.length-1:Nat):Int):=by
     have:l.length=l2.length:=by
      have:=congrArg List.length h2
      simp at this
      exact this
     rw[h2,this,bu1]
    rw[last,if_pos rfl,hr]
    rw[hr]at h1
    show T.tup [.int a,.int ((a::(l++r)).getD (l++r).length 0)]=_
    have h1':a::(l++r)=l1++[(G:Int)]:=h1
    have hlen:(l++r).length=l1.length:=by
     have:=congrArg List.length h1'
     simp at this⊢
     exact this
    rw[h1',hlen,bu1]
   |false=>
    have hs:=zW xs d e (xs.length-1+1) (G+1-(xs.length-1+1)) (λj h1 h2=>by rw[same j (by omega),hp])
    rw[show xs.length-1+1+(G+1-(xs.length-1+1))=G+1 by omega,hh]at hs
    rw[hs]
    have hz:gA xs d e (xs.length-1+1)=gA xs d e (xs.length-1):=zW xs d e (xs.length-1) 1 (λj h1 h2=>by rw[show j=xs.length-1 by omega,hp])
    have hb2:=az6 xs d e (xs.length-1) _ (by rw[<-hz,hh];exact hmem)
    rw[if_neg (by omega)]
    rfl
 . rw[Nat.min_eq_right hG]at hh hb
   rw[hh]
   show T.tup [.int a,.int ((a::l).getD l.length 0)]=_
   have:(if(a::l).getD l.length 0=((xs.length-1:Nat):Int)then(G:Int)else(a::l).getD l.length 0)=(a::l).getD l.length 0:=by
    split
    . next h=>rw[h];rw[h]at hb;omega
    . rfl
   rw[this]
theorem dc3(xs:List Int)(d e:Int)(G:Nat)(h0:0<xs.length)(hh:gA xs d e (min (xs.length-1) G+1)=[]):gA xs d e (G+1)=[]:=by
 rcases Nat.lt_or_ge (xs.length-1) G with hG|hG
 . rw[Nat.min_eq_left (by omega)]at hh
   have hp:pB xs d e (xs.length-1)=false:=by
    cases hp:pB xs d e (xs.length-1)with
    |false=>rfl
    |true=>
     obtain⟨l,h⟩:=az1 hp
     rw[hh]at h
     simp at h
   have hs:=zW xs d e (xs.length-1+1) (G+1-(xs.length-1+1)) (λj h1 h2=>by
    have:pB xs d e j=pB xs d e (xs.length-1):=by
     unfold pB
     rw[Nat.min_eq_right (by omega),Nat.min_self]
    rw[this,hp])
   rw[show xs.length-1+1+(G+1-(xs.length-1+1))=G+1 by omega,hh]at hs
   exact hs
 . rw[Nat.min_eq_right hG]at hh
   exact hh
theorem cu7(o:Bool)(xs:List Int)(d e:Int)(G:Nat)(h0:xs≠[])(hx:xs.length<=1000)(hG:G<=1000):tU [.lst o (xs.map .int),.int d,.int e,.int G]=.ok (de1 (gA xs d e (G+1))):=by
 unfold tU wR
 have hl:0<xs.length:=List.length_pos_iff.mpr h0
 obtain⟨n,hn⟩:∃n,min (xs.length-1) G+1=n:=⟨_,rfl⟩
 have e1:(if(G:Int)<(xs.length:Int)-1 then(G:Int)else(xs.length:Int)-1)+1=(n:Int):=by
  split<;>omega
 have k1:-(2^62)<=(n:Int)/\(n:Int)<2^62:=by omega
 have k2:(gZ 0 (n:Int).toNat).length<=sizeLine:=by rw[fL];exact sF (by omega)
 have hc:cM (aI 7) (bD (aE qX (bZ ax4 (aD (aE dD (aE aR (aB 0) (aB 7)) (aB 1)) aJ)) (aB 2))) (aQ (aB 7)) [some (.lst o (xs.map .int)),some (.int d),some (.int e),some (.int G),some (.int ((xs.length:Int)-1)),none,none,none] (gZ 0 (n:Int).toNat)=.ok ((gA xs d e n).map .int):=by
  unfold gZ gA
  rw[Int.toNat_natCast,List.map_map]
  refine ab7 λi hi=>?_
  have hi:=List.mem_range.mp hi
  have a1:=nK (xs:=xs) (i:=i) (by omega)
  have hp:pB xs d e i=decide ((if xs.getD i 0-d<0 then -(xs.getD i 0-d)else xs.getD i 0-d)<=e):=by
   unfold pB
   rw[Nat.min_eq_left (by omega)]
  have z:(0:Int)+(i:Int)=(i:Int):=Int.zero_add _
  refine⟨?_,λ_=>?_⟩
  . rw[hp]
    clear hp
    walk_at "ev"
  . clear hp
    walk_at "ev"
    rfl
 walk_at "ev"
 have hlast:((xs.length:Int)-1)=((xs.length-1:Nat):Int):=by omega
 cases hh:gA xs d e n with
 |nil=>
  rw[<-hn]at hh
  have z1:=dc3 xs d e G hl hh
  have z2:(((0:Nat):Int)==0)=true:=rfl
  rw[z1]
  clear hh hn e1 hc z1 hlast
  walk_at "ev"
  rfl
 |cons a l=>
  rw[<-hn]at hh
  rw[dq6 xs d e G hl a l hh]
  have q1:atI ((a::l).map T.int) 0=some (.int a):=fQ (j:=0) rfl
  have q2:atI ((a::l).map T.int) ((((a::l).map T.int).length:Int)-1)=some (.int ((a::l).getD l.length 0)):=by
   have:=nK (xs:=a::l) (i:=l.length) (by simp)
   rw[List.length_map,List.length_cons,show((l.length+1:Nat):Int)-1=(l.length:Int) by omega]
   exact this
  have q3:((((a::l).map T.int).length:Int)==0)=false:=by
   rw[List.length_map,List.length_cons,beq_eq_false_iff_ne]
   omega
  have q3':(((l.length+1:Nat):Int)==0)=false:=by
   rw[beq_eq_false_iff_ne]
   omega
  have q4:(2:Nat)<=sizeLine:=by decide
  have q5:bA ((a::l).map T.int)=true:=jK _
  clear hh hn e1 hc
  generalize(a::l).map T.int=X at q1 q2 q3 q5⊢
  generalize(a::l).getD l.length 0=z at q2⊢
  cases hz:(z==((xs.length-1:Nat):Int))with
  |true=>
   have hz':z=((xs.length-1:Nat):Int):=eq_of_beq hz
   rw[if_pos hz']
   clear hz'
   walk_at "ev"
  |false=>
   have hz':¬z=((xs.length-1:Nat):Int):=by rw[beq_eq_false_iff_ne]at hz;exact hz
   rw[if_neg hz']
   clear hz'
   walk_at "ev"
theorem ad1{α:Type}{b:T->Fr->Option Fr}{body:Fr->bP}{g r:α->T}{key:α->Str}{n:Str}(Iv:Fr->Prop)
 (hs:∀a ρ,Iv ρ->∃ρ1,b (g a) ρ=some ρ1/\(((key a==n)=true/\body ρ1=.rt (r a))\/((key a==n)=false/\∃ρ2,body ρ1=.nx ρ2/\Iv ρ2))):
 ∀{l:List α}{ρ:Fr}{a0:α},Iv ρ->l.find? (λa=>key a==n)=some a0->dS b body (l.map g) ρ=.rt (r a0)
 |[],ρ,a0,_,h=>by simp at h
 |a::l,ρ,a0,hi,h=>by
  obtain⟨ρ1,h1,h2⟩:=hs a ρ hi
  rw[List.find?_cons]at h
  simp only[List.map_cons,dS,h1]
  rcases h2 with⟨k,h2⟩|⟨k,ρ2,h2,h3⟩
  . rw[k]at h
    cases h
    rw[h2]
  . rw[k]at h
    rw[h2]
    exact ad1 Iv hs h3 h
theorem bu0{α:Type}{key:α->Str}:∀{l:List α}{a:α},(l.map key).Nodup->a∈l->l.find? (λx=>key x==key a)=some a
 |[],a,_,h=>by cases h
 |x::l,a,nd,h=>by
  rw[List.map_cons,List.nodup_cons]at nd
  rw[List.find?_cons]
  rcases List.mem_cons.mp h with rfl|h
  . simp
  . have:(key x==key a)=false:=by
     simp
     intro e
     exact nd.1 (by rw[e];exact List.mem_map_of_mem h)
    rw[this]
    exact bu0 nd.2 h
theorem dl7{f:Fm}(g:Gd f){p:Str×List Int}(hp:p∈f.inks):fW [cO false f,.str p.1]=.ok (.lst true (p.2.map .int)):=by
 unfold fW jW
 have fl:=cw0 false f
 have n1:=mE f.inks
 have key:∀o2 o3:Option T,dS (eI (aX (aI 2) (aX (aI 3) eO))) (cP (bD (aE eS (aB 2) (aB 1))) (bI [] (bZ jQ (aD (aB 3) aJ))) bM) (f.inks.map (dU false)) [some (cO false f),some (.str p.1),o2,o3]=.rt (.lst true (p.2.map .int)):=λo2 o3=>by
  refine ad1 (key:=λq:Str×List Int=>q.1) (r:=λq:Str×List Int=>.lst true (q.2.map .int)) (λρ=>∃o2 o3,ρ=[some (cO false f),some (.str p.1),o2,o3]) ?_ ⟨o2,o3,rfl⟩ (bu0 (key:=λq:Str×List Int=>q.1) g.ind hp)
  rintro a ρ ⟨o2,o3,rfl⟩
  refine⟨[some (cO false f),some (.str p.1),some (.str a.1),some (.lst false (a.2.map .int))],rfl,?_⟩
  cases e:(a.1==p.1)with
  |true=>exact .inl ⟨rfl,by walk_at "ev"⟩
  |false=>exact .inr ⟨rfl,[some (cO false f),some (.str p.1),some (.str a.1),some (.lst false (a.2.map .int))],by walk_at "ev",_,_,rfl⟩
 clear g
 walk_at "ev"
theorem bg6{f:Fm}(g:Gd f){p:Str×Int×Int}(hp:p∈f.reigns):kS [cO false f,.str p.1]=.ok (eZ p):=by
 unfold kS oG
 have fl:=bf2 false f
 have n1:=lT f.reigns
 have b0:=@iF T
 have key:∀o2:Option T,dS (aI 2) (cP (bD (aE eS (aE aR (aB 2) (dC (.int 0))) (aB 1))) (bI [] (aQ (aB 2))) bM) (f.reigns.map eZ) [some (cO false f),some (.str p.1),o2]=.rt (eZ p):=λo2=>by
  refine ad1 (key:=λq:Str×Int×Int=>q.1) (r:=λq:Str×Int×Int=>eZ q) (λρ=>∃o2,ρ=[some (cO false f),some (.str p.1),o2]) ?_ ⟨o2,rfl⟩ (bu0 (key:=λq:Str×Int×Int=>q.1) g.rnd hp)
  rintro a ρ ⟨o2,rfl⟩
  refine⟨[some (cO false f),some (.str p.1),some (eZ a)],rfl,?_⟩
  simp only[eZ]
  cases e:(a.1==p.1)with
  |true=>exact .inl ⟨rfl,by walk_at "ev"⟩
  |false=>exact .inr ⟨rfl,[some (cO false f),some (.str p.1),some (.tup [.str a.1,.int a.2.1,.int a.2.2])],by walk_at "ev",_,rfl⟩
 clear g
 walk_at "ev"
theorem as1{b l k:Int}(h1:1<=k)(h2:k<=l):mZ [.int b,.int l,.int k]=.ok (.int (b+k-1)):=by
 unfold mZ rG
 have:=pS h1 h2
 walk_at "ev"
theorem tL{i:Int}(h1:-10000000<=i)(h2:i<=10000000):i.natAbs.log2<1920:=by
 by_cases e:i.natAbs=0
 . rw[e];decide
 . rw[Nat.log2_lt e]
   exact Nat.lt_of_lt_of_le (show i.natAbs<2^24 by omega) (Nat.pow_le_pow_right (by decide) (by decide))
theorem tX{i:Int}(h1:-1000000<=i)(h2:i<=1000000):(toString i:Str).length<=2000000:=by
 have:=PyProof.Rows.len_str_of_int i
 omega
theorem jS{f:Fm}(g:Gd f){l:Nat}{n:Str}(h:f.names[l]?=some n):n.length<=2000000:=by
 have:=ay1 (g.nn n (List.mem_of_getElem? h))
 omega
theorem eL:(("letter":Str)=="letter")=true:=beq_self_eq_true _
def dj1(f:Fm):List Str->List T->Prop
 |[],[]=>True
 |d::ds,p::ps=>gH [cO false f,.str d,p]=.ok (.bl true)/\dj1 f ds ps
 |_,_=>False
theorem bw6{f:Fm}:∀{ds:List Str}{ps:List T},dj1 f ds ps->∀(i:Nat)(d:Str)(p:T),ds[i]?=some d->ps[i]?=some p->gH [cO false f,.str d,p]=.ok (.bl true)
 |[],_,_,i,d,p,h,_=>by simp at h
 |_::_,[],h,_,_,_,_,_=>h.elim
 |d::ds,p::ps,h,0,_,_,e1,e2=>by cases e1;cases e2;exact h.1
 |d::ds,p::ps,h,i+1,_,_,e1,e2=>bw6 h.2 i _ _ e1 e2
theorem tM{f:Fm}(g:Gd f){c w d1:Str}{ps:List T}{ds:List Str}(nl:List (Str×Nat))(xs:List Str){lo:Int}{hi:Option Int}{F:List T->Res T}(hk:kt_PARTS.lookup w=some (.tup (ds.map .str)))(hm:tb_MAKERS.lookup w=some F)(hl:ps.length=ds.length)(h4:ds.length<=4/\nl.length<=4/\xs.length<=4)(hp:bA ps=true)(hd:dj1 f ds ps)(hnl:∀p∈nl,f.names[p.2]?=some p.1)(hxb:∀y∈xs,y.length<=2000000)(h1:atI (ds.map .str) 1=some (T.str d1))
 (h2:(d1=="letter")=false\/((d1=="letter")=true/\∃a b:Str,atI ps 0=some (.str a)/\atI ps 1=some (.str b)/\(a==b)=false))
 (h7:∀a b d e h i:Option T,cM (eI (aX (aI 7) (aX (aI 8) eO))) (bD (aE eS (aB 8) (dC (.str "letter")))) (aQ (aB 7)) [a,b,d,e,h,i,none,none,none,none] (kB ps (ds.map .str))=.ok ((nl.map (·.1)).map .str))
 (hx:∀a:Option T,cM (aI 1) cK (bZ wM (aD (aB 1) aJ)) [a,none] (.str w::ps)=.ok ((w::xs).map .str))
 (hF:∀x,jG (cE (cD 10 [.ins true c [] [],cO false f,.str w,.lst false ps,.int lo,mN hi]))=.ok (gO true c (nl.map λp=>(p.2:Int)) lo hi x)->cG (gO true c (nl.map λp=>(p.2:Int)) lo hi x)=true->F [cO false f,.lst false ps]=.ok (gO true c (nl.map λp=>(p.2:Int)) lo hi x))
 (hc:c∈kM:=by decide+kernel)(hw:w.length<=2000000:=by decide+kernel):
 ∃x,dF [cO false f,.str w,.lst false ps]=.ok (gO true c (nl.map λp=>(p.2:Int)) lo hi x):=by
 obtain⟨x,e⟩:=ed1 g hc (lo:=lo) (hi:=hi) hp (by omega) hk (jL ds) h7 h4.2.1 hnl hx h4.2.2 (List.forall_mem_cons.mpr ⟨hw,hxb⟩)
 have k:=ba8 c (nl.map λp=>(p.2:Int)) lo hi x
 exact⟨x,dt0 hk hp (jL ds) (cw9 hk hp hl h4.1 (bw6 hd)) h1 h2 hm (hF x e k) k⟩
theorem al1{f:Fm}{l:Nat}{n:Str}(h:f.names[l]?=some n):∀p∈[(n,l)],f.names[p.2]?=some p.1:=List.forall_mem_cons.mpr ⟨h,nofun⟩
theorem al2{f:Fm}{l m:Nat}{n k:Str}(h:f.names[l]?=some n)(h':f.names[m]?=some k):∀p∈[(n,l),(k,m)],f.names[p.2]?=some p.1:=List.forall_mem_cons.mpr ⟨h,al1 h'⟩
theorem xl{a:Str}{xs:List Str}(h:a.length<=2000000)(k:∀y∈xs,y.length<=2000000):∀y∈a::xs,y.length<=2000000:=List.forall_mem_cons.mpr ⟨h,k⟩
theorem x0:∀y∈([]:List Str),y.length<=2000000:=nofun
theorem xn{f:Fm}(g:Gd f){n:Str}(h:oB n=true):n.length<=2000000:=by
 have:=ay1 h
 omega
local macro_rules | `(tactic| walk_at "7") => `(tactic| (intros; simp only [List.map_cons, List.map_nil, kB, List.zipWith_cons_cons, List.zipWith_nil_left, cM]; walk_at "ev"))
local macro_rules | `(tactic| walk_at "x") => `(tactic| (intros; simp only [cM]; walk_at "ev"))
theorem am7{f:Fm}(g:Gd f){l:Nat}{n:Str}(h:f.names[l]?=some n){lo hi:Int}(h1:-4000<=lo)(h2:lo<=hi)(h3:hi<=4000):
 ∃x,dF [cO false f,.str "between",.lst false [.str n,.int lo,.int hi]]=.ok (gO true "Between" [(l:Int)] lo (some hi) x):=by
 have e1:=eL
 have e2:=wE "year" (by decide+kernel)
 have g_lo:=tL (show -10000000<=lo by omega) (by omega)
 have g_hi:=tL (show -10000000<=hi by omega) (by omega)
 refine tM g (c:="Between") (d1:="year") [(n,l)] [n,toString lo,toString hi] ce5 cr2 rfl ⟨by decide,by simp,by simp⟩ rfl ⟨gG (List.mem_of_getElem? h),qF (by decide+kernel) cq0 (by omega) (by omega),qF (by decide+kernel) cq0 (by omega) (by omega),trivial⟩ (al1 h) (xl (jS g h)<|xl (tX (by omega) (by omega))<|xl (tX (by omega) (by omega))<|x0) (iG _ _ _) (.inl e2) (by walk_at "7") (by walk_at "x") λx hx cs=>?_
 unfold lU lQ
 have hm:vU [cO false f,.str "between",.lst false [.str n,.int lo,.int hi],.int lo,.int hi]=.ok (gO true "Between" [(l:Int)] lo (some hi) x):=hx
 have b0:=@iF T
 have b1:=@iG T
 have b2:=@oS T
 have b3:=@vZ T
 have na:=kK f
 have za:=jV false f
 have k1:decide (hi<lo)=false:=decide_eq_false (by omega)
 clear hx
 walk_at "ev"
theorem db3{f:Fm}(g:Gd f){l m:Nat}{n k:Str}(h:f.names[l]?=some n)(h':f.names[m]?=some k)(hne:(n==k)=false):
 ∃x,dF [cO false f,.str "after",.lst false [.str n,.str k]]=.ok (gO true "After" [(l:Int),(m:Int)] 1 none x):=by
 have e1:=eL
 refine tM g (c:="After") (d1:="letter") [(n,l),(k,m)] [n,k] dv2 dr1 rfl ⟨by decide,by simp,by simp⟩ rfl ⟨gG (List.mem_of_getElem? h),gG (List.mem_of_getElem? h'),trivial⟩ (al2 h h') (xl (jS g h)<|xl (jS g h')<|x0) (iG _ _ _) (.inr ⟨e1,n,k,iF _ _,iG _ _ _,hne⟩) (by walk_at "7") (by walk_at "x") λx hx cs=>?_
 unfold nQ oC
 have hm:zK [cO false f,.str "after",.lst false [.str n,.str k],.int 1,.non]=.ok (gO true "After" [(l:Int),(m:Int)] 1 none x):=hx
 have b0:=@iF T
 have b1:=@iG T
 have b2:=@oS T
 have b3:=@vZ T
 have na:=kK f
 have za:=jV false f
 clear hx
 walk_at "ev"
theorem di8{f:Fm}(g:Gd f){l m:Nat}{n k:Str}(h:f.names[l]?=some n)(h':f.names[m]?=some k)(hne:(n==k)=false):
 ∃x,dF [cO false f,.str "same",.lst false [.str n,.str k]]=.ok (gO true "Same" [(l:Int),(m:Int)] 0 (some 0) x):=by
 have e1:=eL
 refine tM g (c:="Same") (d1:="letter") [(n,l),(k,m)] [n,k] dj8 dv8 rfl ⟨by decide,by simp,by simp⟩ rfl ⟨gG (List.mem_of_getElem? h),gG (List.mem_of_getElem? h'),trivial⟩ (al2 h h') (xl (jS g h)<|xl (jS g h')<|x0) (iG _ _ _) (.inr ⟨e1,n,k,iF _ _,iG _ _ _,hne⟩) (by walk_at "7") (by walk_at "x") λx hx cs=>?_
 unfold oY oZ
 have hm:ai1 [cO false f,.str "same",.lst false [.str n,.str k],.int 0,.int 0]=.ok (gO true "Same" [(l:Int),(m:Int)] 0 (some 0) x):=hx
 have b0:=@iF T
 have b1:=@iG T
 have b2:=@oS T
 have b3:=@vZ T
 have na:=kK f
 have za:=jV false f
 clear hx
 walk_at "ev"
theorem cy8{f:Fm}(g:Gd f){l m:Nat}{n k:Str}(h:f.names[l]?=some n)(h':f.names[m]?=some k)(hne:(n==k)=false){hi:Int}(h1:0<=hi)(h2:hi<=300):
 ∃x,dF [cO false f,.str "within",.lst false [.str n,.str k,.int hi]]=.ok (gO true "Within" [(l:Int),(m:Int)] 0 (some hi) x):=by
 have e1:=eL
 have e2:=wE "later" (by decide+kernel)
 have g_hi:=tL (show -10000000<=hi by omega) (by omega)
 refine tM g (c:="Within") (d1:="letter") [(n,l),(k,m)] [n,k,toString hi] cu9 co8 rfl ⟨by decide,by simp,by simp⟩ rfl ⟨gG (List.mem_of_getElem? h),gG (List.mem_of_getElem? h'),qF (by decide+kernel) dz3 h1 h2,trivial⟩ (al2 h h') (xl (jS g h)<|xl (jS g h')<|xl (tX (by omega) (by omega))<|x0) (iG _ _ _) (.inr ⟨e1,n,k,iF _ _,iG _ _ _,hne⟩) (by walk_at "7") (by walk_at "x") λx hx cs=>?_
 unfold mU mO
 have hm:xH [cO false f,.str "within",.lst false [.str n,.str k,.int hi],.int 0,.int hi]=.ok (gO true "Within" [(l:Int),(m:Int)] 0 (some hi) x):=hx
 have b0:=@iF T
 have b1:=@iG T
 have b2:=@oS T
 have b3:=@vZ T
 have na:=kK f
 have za:=jV false f
 clear hx
 walk_at "ev"
theorem bc7{f:Fm}(g:Gd f){l m:Nat}{n k:Str}(h:f.names[l]?=some n)(h':f.names[m]?=some k)(hne:(n==k)=false){lo hi:Int}(h1:-300<=lo)(h2:lo<=hi)(h3:hi<=300):
 ∃x,dF [cO false f,.str "apart",.lst false [.str n,.str k,.int lo,.int hi]]=.ok (gO true "Apart" [(l:Int),(m:Int)] lo (some hi) x):=by
 have e1:=eL
 have e2:=wE "gap" (by decide+kernel)
 have g_lo:=tL (show -10000000<=lo by omega) (by omega)
 have g_hi:=tL (show -10000000<=hi by omega) (by omega)
 refine tM g (c:="Apart") (d1:="letter") [(n,l),(k,m)] [n,k,toString lo,toString hi] du2 da4 rfl ⟨by decide,by simp,by simp⟩ rfl ⟨gG (List.mem_of_getElem? h),gG (List.mem_of_getElem? h'),qF (by decide+kernel) cx7 (by omega) (by omega),qF (by decide+kernel) cx7 (by omega) (by omega),trivial⟩ (al2 h h') (xl (jS g h)<|xl (jS g h')<|xl (tX (by omega) (by omega))<|xl (tX (by omega) (by omega))<|x0) (iG _ _ _) (.inr ⟨e1,n,k,iF _ _,iG _ _ _,hne⟩) (by walk_at "7") (by walk_at "x") λx hx cs=>?_
 unfold nP nT
 have hm:ad0 [cO false f,.str "apart",.lst false [.str n,.str k,.int lo,.int hi],.int lo,.int hi]=.ok (gO true "Apart" [(l:Int),(m:Int)] lo (some hi) x):=hx
 have b0:=@iF T
 have b1:=@iG T
 have b2:=@oS T
 have b3:=@vZ T
 have na:=kK f
 have za:=jV false f
 have k1:decide (hi<lo)=false:=decide_eq_false (by omega)
 clear hx
 walk_at "ev"
theorem dy3{f:Fm}(g:Gd f){l:Nat}{n:Str}(h:f.names[l]?=some n){p:Str×Int×Int}(hp:p∈f.reigns){k:Int}(h1:1<=k)(h2:k<=p.2.2):
 ∃x,dF [cO false f,.str "reign",.lst false [.str n,.str p.1,.int k]]=.ok (gO true "Reign" [(l:Int)] (p.2.1+k-1) (some (p.2.1+k-1)) x):=by
 have e1:=eL
 have h100:=(g.rn p hp).2.2.2.2
 have e2:=wE "reign" (by decide+kernel)
 have e3:=wE "place" (by decide+kernel)
 have g_k:=tL (show -10000000<=k by omega) (by omega)
 refine tM g (c:="Reign") (d1:="reign") [(n,l)] [n,p.1,toString k] dt1 dq1 rfl ⟨by decide,by simp,by simp⟩ rfl ⟨gG (List.mem_of_getElem? h),bp2 g (List.mem_map_of_mem hp),qF (by decide+kernel) dr0 h1 (by omega),trivial⟩ (al1 h) (xl (jS g h)<|xl (xn g (g.rn p hp).1)<|xl (tX (by omega) (by omega))<|x0) (iG _ _ _) (.inl e2) (by walk_at "7") (by walk_at "x") λx hx cs=>?_
 unfold nW nR
 have hm:zU [cO false f,.str "reign",.lst false [.str n,.str p.1,.int k],.int (p.2.1+k-1),.int (p.2.1+k-1)]=.ok (gO true "Reign" [(l:Int)] (p.2.1+k-1) (some (p.2.1+k-1)) x):=hx
 have b0:=@iF T
 have b1:=@iG T
 have b2:=@oS T
 have b3:=@vZ T
 have na:=kK f
 have za:=jV false f
 have k1:=bg6 g hp
 have k2:=as1 (b:=p.2.1) h1 h2
 simp only[eZ]at k1
 clear hx
 walk_at "ev"
theorem dy1{f:Fm}(g:Gd f){l:Nat}{n:Str}(h:f.names[l]?=some n){p:Str×Int×Int}(hp:p∈f.reigns):
 ∃x,dF [cO false f,.str "under",.lst false [.str n,.str p.1]]=.ok (gO true "Under" [(l:Int)] p.2.1 (some (p.2.1+p.2.2-1)) x):=by
 have e1:=eL
 have e2:=wE "reign" (by decide+kernel)
 refine tM g (c:="Under") (d1:="reign") [(n,l)] [n,p.1] dn2 dg4 rfl ⟨by decide,by simp,by simp⟩ rfl ⟨gG (List.mem_of_getElem? h),bp2 g (List.mem_map_of_mem hp),trivial⟩ (al1 h) (xl (jS g h)<|xl (xn g (g.rn p hp).1)<|x0) (iG _ _ _) (.inl e2) (by walk_at "7") (by walk_at "x") λx hx cs=>?_
 unfold nZ nU
 have hm:zY [cO false f,.str "under",.lst false [.str n,.str p.1],.int p.2.1,.int (p.2.1+p.2.2-1)]=.ok (gO true "Under" [(l:Int)] p.2.1 (some (p.2.1+p.2.2-1)) x):=hx
 have b0:=@iF T
 have b1:=@iG T
 have b2:=@oS T
 have b3:=@vZ T
 have na:=kK f
 have za:=jV false f
 have k1:=bg6 g hp
 have k2:=as1 (b:=p.2.1) (l:=p.2.2) (k:=p.2.2) (g.rn p hp).2.2.2.1 (Int.le_refl _)
 simp only[eZ]at k1
 clear hx
 walk_at "ev"
theorem dl3:gM "table" ["first","present","letters","inks","reigns"]=none:=by decide+kernel
theorem de9:tm_table.lookup ("Archive":Str)=some fW:=by with_unfolding_all rfl
theorem cl2{b:Bool}{f:Fm}{o:Fr->Res T}{r:Fr->Res (List T)}{ρ:Fr}{ts:List T}(ho:o ρ=.ok (cO b f))(hr:r ρ=.ok ts):mR 2 "table" tm_table o r ρ=tF 2 fW (cO b f::ts):=by
 simp only[mR,ho,hr,mF,cO,dl3,de9]
local macro_rules | `(tactic| walk_at "7") => `(tactic| (intros; simp only [List.map_cons, List.map_nil, kB, List.zipWith_cons_cons, List.zipWith_nil_left, cM]; walk_at "ev"))
local macro_rules | `(tactic| walk_at "x") => `(tactic| (intros; simp only [cM]; walk_at "ev"))
theorem ef0{f:Fm}(g:Gd f){l:Nat}{n:Str}(h:f.names[l]?=some n){p:Str×List Int}(hp:p∈f.inks){d e:Int}(h1:0<=d)(h2:d<=1000000)(h3:0<=e)(h4:e<=1000000){a z:Int}{r:List Int}(hh:gA p.2 d e (f.span.toNat+1)=a::r)(hz:(a::r).getD r.length 0=z):
 ∃x,dF [cO false f,.str "ink",.lst false [.str n,.str p.1,.int d,.int e]]=.ok (gO true "Ink" [(l:Int)] (f.first+f.span-z) (some (f.first+f.span-a)) x):=by
 have e1:=eL
 have e2:=wE "ink" (by decide+kernel)
 have e3:=wE "dark" (by decide+kernel)
 have g_d:=tL (show -10000000<=d by omega) (by omega)
 have g_e:=tL (show -10000000<=e by omega) (by omega)
 refine tM g (c:="Ink") (d1:="ink") [(n,l)] [n,p.1,toString d,toString e] et3 el0 rfl ⟨by decide,by simp,by simp⟩ rfl ⟨gG (List.mem_of_getElem? h),dr8 g (List.mem_map_of_mem hp),qF (by decide+kernel) cb1 (by omega) (by omega),qF (by decide+kernel) cb1 (by omega) (by omega),trivial⟩ (al1 h) (xl (jS g h)<|xl (xn g (g.inn p hp).1)<|xl (tX (by omega) (by omega))<|xl (tX (by omega) (by omega))<|x0) (iG _ _ _) (.inl e2) (by clear hh hz;walk_at "7") (by clear hh hz;walk_at "x") λx hx cs=>?_
 unfold qL qP
 have hm:as4 [cO false f,.str "ink",.lst false [.str n,.str p.1,.int d,.int e],.int (f.first+f.span-z),.int (f.first+f.span-a)]=.ok (gO true "Ink" [(l:Int)] (f.first+f.span-z) (some (f.first+f.span-a)) x):=hx
 have b0:=@iF T
 have b1:=@iG T
 have b2:=@oS T
 have b3:=@vZ T
 have na:=kK f
 have za:=jV false f
 have fp:=af8 false f
 have ff:=aw5 false f
 have ht:=dl7 g hp
 have hA:tU [.lst false (p.2.map .int),.int d,.int e,.int (f.first+f.span-f.first)]=.ok (.tup [.int a,.int z]):=by
  have:=cu7 false p.2 d e f.span.toNat (by have:=(g.inn p hp).2.l1;intro q;rw[q]at this;simp at this) (by have:=(g.inn p hp).2.l60;omega) (by have:=g.s1;omega)
  rw[hh]at this
  simp only[de1,hz]at this
  rw[show f.first+f.span-f.first=(f.span.toNat:Int) by have:=g.s0;omega]
  exact this
 have hmt:mR 2 "table" tm_table (aB 0) (aD (aE aR (aB 1) (dC (.int 1))) aJ) [some (cO false f),some (.lst false [.str n,.str p.1,.int d,.int e]),none]=.ok (.lst true (p.2.map .int)):=by
  rw[cl2 (b:=false) (f:=f) (ts:=[.str p.1]) rfl (by clear hA hm hx hh hz;walk_at "ev")]
  clear hA hm hx hh hz
  walk_at "ev"
 clear hh hz
 clear hx
 walk_at "ev"
theorem dh6(c:Int)(m:Nat)(hm:m<=8):∃xs:List Int,qA [.int c,.int m]=.ok (.lst true (xs.map .int))/\xs.length=m/\∀x∈xs,0<=x:=by
 unfold qA wU
 have ew:=cu0
 have h60:ah1 (.int 10) (.int 60)=.ok (.int 1000000000000000000000000000000000000000000000000000000000000):=by
  rw[xO,jA (show ay0 10 60 from⟨by decide,by decide,by decide⟩)]
  rfl
 have h18:ah1 (.int 10) (.int 18)=.ok (.int 1000000000000000000):=by
  rw[xO,jA (show ay0 10 18 from⟨by decide,by decide,by decide⟩)]
  rfl
 walk_at "ev"
 generalize hL:dS _ _ _ _=o
 obtain⟨ρ',rfl,xs,r,o4,rfl,xl,xb,hr⟩:=iX (λi ρ=>∃(xs:List Int)(r:Int)(o4:Option T),ρ=[some (.int c),some (.int m),some (.int r),some (.lst true (xs.map .int)),o4]/\xs.length=i/\(∀x∈xs,0<=x)/\0<=r) hL ⟨[],_,_,rfl,rfl,eH,Int.emod_nonneg _ (by decide)⟩ (by
  rintro i t ρ et ⟨xs,r,o4,rfl,xl,xb,hr⟩
  obtain⟨hi,rfl⟩:=lF et
  have hl:xs.length<=100000:=by omega
  clear hL et
  by_cases hA:c<0\/1000000000000000000<=c
  . have k:(decide (c<0)||decide (1000000000000000000<=c))=true:=by simpa using hA
    cases h1:decide (c<0)with
    |true=>
     walk_at "ev"
     exact⟨xs++[r%10007],_,_,by rw[List.map_append];rfl,by simp[xl],λx hx=>(List.mem_append.mp hx).elim (xb x) (λq=>by rw[List.mem_singleton.mp q];exact Int.emod_nonneg _ (by decide)),by omega⟩
    |false=>
     have h2:decide (1000000000000000000<=c)=true:=by rw[h1]at k;simpa using k
     walk_at "ev"
     exact⟨xs++[r%10007],_,_,by rw[List.map_append];rfl,by simp[xl],λx hx=>(List.mem_append.mp hx).elim (xb x) (λq=>by rw[List.mem_singleton.mp q];exact Int.emod_nonneg _ (by decide)),by omega⟩
  . have h1:decide (c<0)=false:=decide_eq_false (by omega)
    have h2:decide (1000000000000000000<=c)=false:=decide_eq_false (by omega)
    walk_at "ev"
    exact⟨xs++[iJ (iJ c (0+(i:Int))+c) (0+(i:Int))],_,_,by rw[List.map_append];rfl,by simp[xl],λx hx=>(List.mem_append.mp hx).elim (xb x) (λq=>by rw[List.mem_singleton.mp q];exact(ab9 _ _).1),hr⟩)
 rw[fL]at xl
 refine⟨xs,?_,by omega,xb⟩
 clear hL
 walk_at "ev"
theorem dz4(c:Int){f:Fm}(g:Gd f):∃ys:List Int,qI [.int c,jX false f]=.ok (.lst true (ys.map .int))/\ys.length=f.names.length/\∀y∈ys,f.first<=y/\y<=f.first+f.span:=by
 obtain⟨xs,h1,h2,h3⟩:=dh6 c f.names.length g.n8
 have hs:=g.s0
 have hm:0<f.first+f.span-f.first+1:=by omega
 refine⟨xs.map λx=>f.first+x%(f.first+f.span-f.first+1),?_,by simp[h2],λy hy=>?_⟩
 . unfold qI rA
   have hx:xs.length<=100000:=by have:=g.n8;omega
   have hc:cM (aI 2) cK (aE bR (aE aR (aB 1) (dC (.int 0))) (aE cI (aB 2) (aE bR (aE dD (aE aR (aB 1) (dC (.int 1))) (aE aR (aB 1) (dC (.int 0)))) (dC (.int 1))))) [some (.int c),some (jX false f),none] (xs.map .int)=.ok ((xs.map λx=>f.first+x%(f.first+f.span-f.first+1)).map .int):=by
    rw[List.map_map]
    refine eK λx _=>?_
    simp only[jX]
    have b0:=@iF T
    have b1:=@iG T
    clear h1 h2 h3
    walk_at "ev"
    rfl
   have b2:=@oS T
   simp only[jX]at hc⊢
   clear h2 h3
   walk_at "ev"
 . obtain⟨x,_,rfl⟩:=List.mem_map.mp hy
   have:=Int.emod_nonneg x (show f.first+f.span-f.first+1≠0 by omega)
   have:=Int.emod_lt_of_pos x hm
   omega
structure Sd where
 word:Str
 cls:Str
 parts:List T
 ls:List Nat
 lo:Int
 hi:Option Int
def iW(o:Bool)(s:Sd):T:=.tup [.str s.word,.lst o s.parts,.tup (s.ls.map λ(l:Nat)=>T.int (l:Int)),.tup [.int s.lo,mN s.hi]]
structure SdOk (f:Fm) (s:Sd):Prop where
 np:bA s.parts=true
 cp:cT s.parts=true
 c8:s.cls∈kM
 l12:s.ls.length=1\/s.ls.length=2
 lb:∀l∈s.ls,l<f.names.length
 made:∃x,dF [cO false f,.str s.word,.lst false s.parts]=.ok (gO true s.cls (s.ls.map λ(l:Nat)=>(l:Int)) s.lo s.hi x)
theorem lb1{i n:Nat}(h:i<n):∀l∈[i],l<n:=λl q=>by rw[List.mem_singleton.mp q];exact h
theorem lb2{i j n:Nat}(h:i<n)(k:j<n):∀l∈[i,j],l<n:=λl q=>by
 rcases List.mem_cons.mp q with rfl|q
 . exact h
 . rw[List.mem_singleton.mp q];exact k
theorem ef2:("Ink":Str)∈kM:=by decide+kernel
theorem dx4:("Reign":Str)∈kM:=by decide+kernel
theorem dy4:("Under":Str)∈kM:=by decide+kernel
theorem ae8:("Between":Str)∈kM:=by decide+kernel
theorem du3:("After":Str)∈kM:=by decide+kernel
theorem do9:("Same":Str)∈kM:=by decide+kernel
theorem cq8:("Within":Str)∈kM:=by decide+kernel
theorem bq7:("Apart":Str)∈kM:=by decide+kernel
theorem yF{f:Fm}{k:Nat}(h:k<f.names.length):∃n,f.names[k]?=some n/\atI (f.names.map T.str) (k:Int)=some (.str n):=
 ⟨f.names[k],List.getElem?_eq_getElem h,fQ (by simp[h])⟩
theorem ct9{xs:List Int}{k:Nat}(h:k<xs.length):∃v∈xs,atI (xs.map T.int) (k:Int)=some (.int v):=
 ⟨xs[k],List.getElem_mem h,fQ (by simp[h])⟩
theorem ew2{xs:List Int}(h:xs.length=6)(hb:∀x∈xs,0<=x):∃a b c d e g:Int,xs.map T.int=[.int a,.int b,.int c,.int d,.int e,.int g]/\0<=a/\0<=b/\0<=c/\0<=d/\0<=e/\0<=g:=by
 match xs,h with
 |[a,b,c,d,e,g],_=>exact⟨a,b,c,d,e,g,rfl,hb a (by simp),hb b (by simp),hb c (by simp),hb d (by simp),hb e (by simp),hb g (by simp)⟩
theorem db6{f:Fm}(g:Gd f){i j:Nat}{n k:Str}(h1:f.names[i]?=some n)(h2:f.names[j]?=some k)(h:i≠j):(n==k)=false:=by
 simp
 rintro rfl
 obtain⟨a1,a2⟩:=List.getElem?_eq_some_iff.mp h1
 obtain⟨b1,b2⟩:=List.getElem?_eq_some_iff.mp h2
 exact h ((List.getElem_inj g.nd).mp (a2.trans b2.symm))
theorem ez2 {f : Fm} (g : Gd f) {a b c d e w : Int} (hc : 0 ≤ c) (hd : 0 ≤ d) (he : 0 ≤ e) {i j : Nat} (hi : i < f.names.length) (hj : j < f.names.length) : ∃ s, rE [.lst false [.int a, .int b, .int c, .int d, .int e, .int w], jX false f, .int i, .int j] = .ok (iW true s) ∧ SdOk f s := by
  obtain ⟨n, hn, an⟩ := yF hi
  obtain ⟨k, hk, ak⟩ := yF hj
  unfold rE uR
  have b0 := @iF T
  have b1 := @iG T
  have b2 := @oS T
  have b3 := @vZ T
  have b4 := @ix4 T
  have s0 := g.s0
  have s1 := g.s1
  have f0 := g.f0
  have f1 := g.f1
  have m1 : 0 < f.first + f.span - f.first + 61 := by omega
  have m2 := Int.emod_nonneg d (show f.first + f.span - f.first + 61 ≠ 0 by omega)
  have m3 := Int.emod_lt_of_pos d m1
  simp only [jX]
  by_cases q : i = j ∨ c % 2 = 0
  · have k0 : (((i : Int) == (j : Int)) || (c % 2 == 0)) = true := by
      rcases q with q | q
      · subst q; simp
      · simp [q]
    obtain ⟨x, hx⟩ := am7 g hn (lo := f.first - 30 + d % (f.first + f.span - f.first + 61)) (hi := f.first - 30 + d % (f.first + f.span - f.first + 61) + e % 40) (by omega) (by omega) (by omega)
    refine ⟨⟨"between", "Between", [.str n, .int (f.first - 30 + d % (f.first + f.span - f.first + 61)), .int (f.first - 30 + d % (f.first + f.span - f.first + 61) + e % 40)], [i], f.first - 30 + d % (f.first + f.span - f.first + 61), some (f.first - 30 + d % (f.first + f.span - f.first + 61) + e % 40)⟩, ?_, ⟨rfl, rfl, ae8, .inl rfl, lb1 hi, x, hx⟩⟩
    have ct : fH [T.str n, T.str k] none (some 1) = [T.str n] := xP [T.str n, T.str k] 1
    clear hx hn hk
    cases h1 : ((i : Int) == (j : Int)) with
    | true =>
      walk_at "ev"
      rfl
    | false =>
      have h2 : (c % 2 == 0) = true := by rw [h1] at k0; simpa using k0
      walk_at "ev"
      rfl
  · have h1 : ((i : Int) == (j : Int)) = false := by simp; omega
    have h2 : (c % 2 == 0) = false := by simp; omega
    have hne := db6 g hn hk (by omega)
    obtain ⟨x, hx⟩ := bc7 g hn hk hne (lo := d % 601 - 300) (hi := if d % 601 - 300 + e % 40 < 300 then d % 601 - 300 + e % 40 else 300) (by omega) (by split <;> omega) (by split <;> omega)
    refine ⟨⟨"apart", "Apart", [.str n, .str k, .int (d % 601 - 300), .int (if d % 601 - 300 + e % 40 < 300 then d % 601 - 300 + e % 40 else 300)], [i, j], d % 601 - 300, some (if d % 601 - 300 + e % 40 < 300 then d % 601 - 300 + e % 40 else 300)⟩, ?_, ⟨rfl, rfl, bq7, .inr rfl, lb2 hi hj, x, hx⟩⟩
    clear hx hn hk
    walk_at "ev"
    rfl
structure Tr1 (s:Sd) (v:Int):Prop where
 lo:s.lo<=v
 hi:∀h,s.hi=some h->v<=h
theorem df4{f:Fm}(g:Gd f){num gap:Int}(hn0:0<=num){i j:Nat}(hi:i<f.names.length)(hj:j<f.names.length)(hij:i≠j)(g0:-300<=gap)(g1:gap<=300):∃s,mV [.int num,jX false f,.tup [.int i,.int j],.int gap]=.ok (iW true s)/\SdOk f s/\s.ls=[i,j]/\Tr1 s gap:=by
 obtain⟨n,hn,an⟩:=yF hi
 obtain⟨k,hk,ak⟩:=yF hj
 have hne:=db6 g hn hk hij
 unfold mV qJ
 have b2:=@oS T
 obtain⟨x1,hx1⟩:=di8 g hn hk hne
 obtain⟨x2,hx2⟩:=db3 g hn hk hne
 simp only[jX]
 have hc:∀q1 q2 q3 q4 q5:Option T,cM (aI 9) cK (aQ (aE aR (aE aR (aB 1) (dC (.int 2))) (aB 9))) [some (.int num),some (.tup [.int f.first,.int (f.first+f.span),.lst false (f.names.map .str),.lst false (f.inks.map (dU false)),.lst false (f.reigns.map eZ)]),some (.tup [.int i,.int j]),some (.int gap),q1,q2,q3,q4,q5,none] [.int i,.int j]=.ok [.str n,.str k]:=by
  intros
  simp only[cM]
  walk_at "ev"
 have z1:=Int.emod_nonneg (num/4) (show(4:Int)≠0 by decide)
 by_cases cA:gap=0/\num%4=0
 . refine⟨⟨"same","Same",[.str n,.str k],[i,j],0,some 0⟩,?_,⟨rfl,rfl,do9,.inr rfl,lb2 hi hj,x1,hx1⟩,rfl,⟨by show(0:Int)<=gap;omega,λh e=>by have e:some (0:Int)=some h:=e;cases e;omega⟩⟩
   have h1:(gap==0)=true:=by simp[cA.1]
   have h2:(num%4==0)=true:=by simp[cA.2]
   clear hx1 hx2 hn hk cA
   walk_at "ev"
   rfl
 by_cases cB:0<gap/\num%4<2
 . refine⟨⟨"after","After",[.str n,.str k],[i,j],1,none⟩,?_,⟨rfl,rfl,du3,.inr rfl,lb2 hi hj,x2,hx2⟩,rfl,⟨by show(1:Int)<=gap;omega,λh e=>nomatch e⟩⟩
   have h1:(gap==0)=false:=by simp;omega
   have h3:decide (0<gap)=true:=decide_eq_true cB.1
   have h4:decide (num%4<2)=true:=decide_eq_true cB.2
   clear hx1 hx2 hn hk cA cB
   walk_at "ev"
   rfl
 have tA:(gap==0)=false\/((gap==0)=true/\(num%4==0)=false):=by
  by_cases q:gap=0
  . exact .inr ⟨by simp[q],by simp;omega⟩
  . exact .inl (by simp[q])
 have tB:decide (0<gap)=false\/(decide (0<gap)=true/\decide (num%4<2)=false):=by
  by_cases q:0<gap
  . exact .inr ⟨decide_eq_true q,decide_eq_false (by omega)⟩
  . exact .inl (decide_eq_false q)
 by_cases cC:0<=gap/\num%4=2
 . obtain⟨x3,hx3⟩:=cy8 g hn hk hne (hi:=if gap+num/4%4<300 then gap+num/4%4 else 300) (by split<;>omega) (by split<;>omega)
   refine⟨⟨"within","Within",[.str n,.str k,.int (if gap+num/4%4<300 then gap+num/4%4 else 300)],[i,j],0,some (if gap+num/4%4<300 then gap+num/4%4 else 300)⟩,?_,⟨rfl,rfl,cq8,.inr rfl,lb2 hi hj,x3,hx3⟩,rfl,⟨by show(0:Int)<=gap;omega,λh e=>by have e:=Option.some.inj e;rw[<-e];split<;>omega⟩⟩
   have h5:decide (0<=gap)=true:=decide_eq_true cC.1
   have h6:(num%4==2)=true:=by simp[cC.2]
   clear hx1 hx2 hx3 hn hk cA cB cC
   rcases tA with h1|⟨h1,h2⟩<;>rcases tB with h3|⟨h3,h4⟩<;>(walk_at "ev";rfl)
 have tC:decide (0<=gap)=false\/(decide (0<=gap)=true/\(num%4==2)=false):=by
  by_cases q:0<=gap
  . exact .inr ⟨decide_eq_true q,by simp;omega⟩
  . exact .inl (decide_eq_false q)
 obtain⟨x4,hx4⟩:=bc7 g hn hk hne (lo:=if gap-num/4%6>-300 then gap-num/4%6 else -300) (hi:=if gap+num/4/6%6<300 then gap+num/4/6%6 else 300) (by split<;>omega) (by split<;>split<;>omega) (by split<;>omega)
 refine⟨⟨"apart","Apart",[.str n,.str k,.int (if gap-num/4%6>-300 then gap-num/4%6 else -300),.int (if gap+num/4/6%6<300 then gap+num/4/6%6 else 300)],[i,j],if gap-num/4%6>-300 then gap-num/4%6 else -300,some (if gap+num/4/6%6<300 then gap+num/4/6%6 else 300)⟩,?_,⟨rfl,rfl,bq7,.inr rfl,lb2 hi hj,x4,hx4⟩,rfl,⟨by(try dsimp only);split<;>omega,λh e=>by have e:=Option.some.inj e;rw[<-e];split<;>omega⟩⟩
 clear hx1 hx2 hx4 hn hk cA cB cC
 rcases tA with h1|⟨h1,h2⟩<;>rcases tB with h3|⟨h3,h4⟩<;>rcases tC with h5|⟨h5,h6⟩<;>(walk_at "ev";rfl)
theorem am3{a:Int}{n:Nat}(h:0<n):0<=a%(n:Int)/\a%(n:Int)<n:=⟨Int.emod_nonneg _ (by omega),Int.emod_lt_of_pos _ (by omega)⟩
theorem em4{α:Type}{g:α->T}{l:List α}(h:0<l.length)(a:Int):∃p∈l,atI (l.map g) (a%(l.length:Int))=some (g p):=by
 obtain⟨h0,h1⟩:=am3 (a:=a) h
 obtain⟨k,hk⟩:=sG h0
 rw[hk]at h1⊢
 have hk':k<l.length:=by omega
 exact⟨l[k],List.getElem_mem hk',fQ (by simp[hk'])⟩
theorem cz0{xs:List Int}(h:0<xs.length){a:Int}(ha:0<=a):atI (xs.map T.int) (if(xs.length:Int)-1<a then(xs.length:Int)-1 else a)=some (.int (xs.getD (min a.toNat (xs.length-1)) 0)):=by
 have e:(if(xs.length:Int)-1<a then(xs.length:Int)-1 else a)=((min a.toNat (xs.length-1):Nat):Int):=by split<;>omega
 rw[e]
 exact nK (by omega)
theorem do2{xs:List Int}{d e:Int}{n j:Nat}(hj:j<n)(h:pB xs d e j=true):(j:Int)∈gA xs d e n:=by
 unfold gA
 exact List.mem_map.mpr ⟨j,List.mem_filter.mpr ⟨List.mem_range.mpr hj,h⟩,rfl⟩
theorem dd9{a:Int}{r:List Int}(p:(a::r).Pairwise (· < ·)):∀x∈a::r,a<=x/\x<=(a::r).getD r.length 0:=by
 induction r generalizing a with
 |nil=>
  intro x hx
  rw[List.mem_singleton.mp hx]
  exact⟨Int.le_refl _,Int.le_refl _⟩
 |cons b r ih=>
  have p2:=List.pairwise_cons.mp p
  have ab:=p2.1 b List.mem_cons_self
  have e:(a::b::r).getD (b::r).length 0=(b::r).getD r.length 0:=by simp[List.getD_eq_getElem?_getD]
  rw[e]
  intro x hx
  rcases List.mem_cons.mp hx with rfl|hx
  . have:=(ih p2.2 b List.mem_cons_self).2
    exact⟨Int.le_refl _,by omega⟩
  . have:=ih p2.2 x hx
    exact⟨by omega,this.2⟩
theorem cn0{xs:List Int}{d e:Int}{n:Nat}{a:Int}{r:List Int}(hh:gA xs d e n=a::r){x:Int}(hx:x∈gA xs d e n):a<=x/\x<=(a::r).getD r.length 0:=by
 have p:(gA xs d e n).Pairwise (· < ·):=by
  unfold gA
  rw[List.pairwise_map]
  exact((List.pairwise_lt_range (n:=n)).filter _).imp λ{a b} h=>by omega
 rw[hh]at p hx
 exact dd9 p x hx
theorem dy0{f:Fm}(g:Gd f){num y:Int}(hn0:0<=num){i:Nat}(hi:i<f.names.length)(y0:f.first<=y)(y1:y<=f.first+f.span):∃s,nL [.int num,jX false f,.int i,.int y]=.ok (iW true s)/\SdOk f s/\s.ls=[i]/\Tr1 s y:=by
 obtain⟨n,hn,an⟩:=yF hi
 unfold nL qY
 have b0:=@iF T
 have b1:=@iG T
 have b2:=@oS T
 have b3:=@vZ T
 have b4:=@ix4 T
 have s0:=g.s0
 have s1:=g.s1
 have f0:=g.f0
 have f1:=g.f1
 simp only[jX]
 by_cases c0:num%4=0
 . have h0:(num%4==0)=true:=by simp[c0]
   clear c0
   obtain⟨p,hp,ap⟩:=em4 (g:=dU false) (l:=f.inks) (by have:=g.i1;omega) (num/4)
   obtain⟨t1,t60,tb,tf⟩:=(g.inn p hp).2
   have hlen:0<(f.inks.length:Int):=by have:=g.i1;omega
   obtain⟨er,her⟩:∃er,num/4/2%5=er:=⟨_,rfl⟩
   have e0:0<=er/\er<5:=by omega
   have ix:=cz0 (xs:=p.2) t1 (a:=f.first+f.span-y) (by omega)
   have m1:0<2*er+1:=by omega
   have z1:=Int.emod_nonneg (num/4/10) (show 2*er+1≠0 by omega)
   have z2:=Int.emod_lt_of_pos (num/4/10) m1
   obtain⟨D,hD⟩:∃D,p.2.getD (min (f.first+f.span-y).toNat (p.2.length-1)) 0=D:=⟨_,rfl⟩
   have dB:0<=D/\D<=408:=by
    rw[<-hD,List.getD_eq_getElem?_getD,List.getElem?_eq_getElem (show min (f.first+f.span-y).toNat (p.2.length-1)<p.2.length by omega)]
    exact tb _ (List.getElem_mem _)
   obtain⟨dk,hdk⟩:∃dk,(if D+num/4/10%(2*er+1)-er>0 then D+num/4/10%(2*er+1)-er else 0)=dk:=⟨_,rfl⟩
   have dkB:0<=dk/\dk<=412/\D-dk<=er/\dk-D<=er:=by rw[<-hdk];split<;>omega
   rw[hD]at ix
   simp only[dU]at ap
   have pin:pB p.2 dk er (f.first+f.span-y).toNat=true:=by
    unfold pB
    rw[hD]
    exact decide_eq_true (by split<;>omega)
   have hmem:=do2 (n:=f.span.toNat+1) (by omega) pin
   obtain⟨a,r,hh⟩:∃a r,gA p.2 dk er (f.span.toNat+1)=a::r:=by
    cases q:gA p.2 dk er (f.span.toNat+1)with
    |nil=>rw[q]at hmem;cases hmem
    |cons a r=>exact⟨a,r,rfl⟩
   have hdm:dk<=1000000:=by omega
   obtain⟨x,hx⟩:=ef0 g hn hp (d:=dk) (e:=er) (by omega) hdm (by omega) (by omega) hh rfl
   refine⟨⟨"ink","Ink",[.str n,.str p.1,.int dk,.int er],[i],f.first+f.span-(a::r).getD r.length 0,some (f.first+f.span-a)⟩,?_,⟨rfl,rfl,ef2,.inl rfl,lb1 hi,x,hx⟩,rfl,⟨by have:=(cn0 hh hmem).2;(try dsimp only);omega,λh e=>by have e:=Option.some.inj e;have:=(cn0 hh hmem).1;omega⟩⟩
   have rg:-(2^62)<=f.first+f.span-f.first+1/\f.first+f.span-f.first+1<2^62:=by omega
   clear hx hn hmem pin hD tb tf
   walk_at "ev"
   generalize hL:dS _ _ _ _=o
   obtain⟨ρ',rfl,o11,rfl⟩:=iX (λj ρ=>∃(o11:Option T),ρ=[some (.int num),some (.tup [.int f.first,.int (f.first+f.span),.lst false (f.names.map .str),.lst false (f.inks.map (dU false)),.lst false (f.reigns.map eZ)]),some (.int i),some (.int y),some (.str n),some (.int (num/4)),some (.str p.1),some (.lst false (p.2.map .int)),some (.int er),some (.int dk),some (.lst true ((gA p.2 dk er j).map .int)),o11,none,none,none,none,none,none]) hL ⟨_,rfl⟩ (by
    rintro j t ρ et ⟨o11,rfl⟩
    obtain⟨hj,rfl⟩:=lF et
    have ixj:=cz0 (xs:=p.2) t1 (a:=0+(j:Int)) (by omega)
    rw[show(0+(j:Int)).toNat=j by omega]at ixj
    have hl:(gA p.2 dk er j).length<=100000:=by
     unfold gA
     rw[List.length_map]
     exact Nat.le_trans (List.length_filter_le _ _) (by rw[List.length_range];omega)
    have hsucc:=qC p.2 dk er j
    clear hL et hh hdk ix
    cases hB:pB p.2 dk er j with
    |true=>
     rw[if_pos hB]at hsucc
     unfold pB at hB
     clear hsucc
     walk_at "ev"
     refine⟨some (.int (0+(j:Int))),?_⟩
     rw[qC,if_pos (show pB p.2 dk er j=true from hB),List.map_append,show(0+(j:Int))=(j:Int) by omega]
     rfl
    |false=>
     unfold pB at hB
     clear hsucc
     walk_at "ev"
     refine⟨some (.int (0+(j:Int))),?_⟩
     rw[qC,if_neg (by rw[show pB p.2 dk er j=false from hB];decide),List.append_nil])
   rw[fL,show(f.first+f.span-f.first+1).toNat=f.span.toNat+1 by omega,hh]
   clear hL hh hdk
   have ae:=di4 (a:=a) (l:=r)
   simp only[List.map_cons]at ae⊢
   walk_at "ev"
   rfl
 . have h0:(num%4==0)=false:=by simpa using c0
   clear c0
   have hlen:0<(f.reigns.length:Int):=by have:=g.r1;omega
   obtain⟨k0,k1⟩:=am3 (a:=num/4/2) (n:=f.reigns.length) (by omega)
   obtain⟨kn,hkn⟩:=sG k0
   have hk':kn<=f.reigns.length:=by omega
   have c1:fH (f.reigns.map eZ) (some (num/4/2%(f.reigns.length:Int))) none=(f.reigns.drop kn).map eZ:=by rw[hkn,bz6 _ _ (by simpa using hk'),List.map_drop]
   have c2:fH (f.reigns.map eZ) none (some (num/4/2%(f.reigns.length:Int)))=(f.reigns.take kn).map eZ:=by rw[hkn,xP,List.map_take]
   have n1:=lT
   have z1:=pU
   have l1:(f.reigns.drop kn).length+(f.reigns.take kn).length<=100000:=by have:=g.r8;simp;omega
   have mA:=(List.map_append (f:=eZ) (l₁:=f.reigns.drop kn) (l₂:=f.reigns.take kn)).symm
   clear hkn k0 k1
   have hmem:∀q∈f.reigns.drop kn++f.reigns.take kn,q∈f.reigns:=λq hq=>(List.mem_append.mp hq).elim List.mem_of_mem_drop List.mem_of_mem_take
   walk_at "ev"
   generalize hL:dS _ _ _ _=o
   have hx:=bd2 (λ_ ρ=>∃(o13 o14 o15:Option T),ρ=[some (.int num),some (.tup [.int f.first,.int (f.first+f.span),.lst false (f.names.map .str),.lst false (f.inks.map (dU false)),.lst false (f.reigns.map eZ)]),some (.int i),some (.int y),some (.str n),some (.int (num/4)),none,none,none,none,none,none,some (.int (num/4/2%(f.reigns.length:Int))),o13,o14,o15,none,none]) (λ_=>False) (λt=>∃s,t=iW true s/\SdOk f s/\s.ls=[i]/\Tr1 s y) hL ⟨_,_,_,rfl⟩ (by
    rintro j t ρ et ⟨o13,o14,o15,rfl⟩
    rw[List.getElem?_map]at et
    cases eq:(f.reigns.drop kn++f.reigns.take kn)[j]? with
    |none=>rw[eq]at et;cases et
    |some q=>
     rw[eq]at et
     have et:=(Option.some.inj et).symm
     subst et
     have hq:=hmem q (List.mem_of_getElem? eq)
     obtain⟨_,r1,r2,r3,r4⟩:=g.rn q hq
     simp only[eZ]
     clear hL c1 c2 mA n1 z1 l1 hmem eq
     by_cases t1:num%4=1
     . have e1:(num%4==1)=true:=by simp[t1]
       clear t1
       by_cases t2:q.2.1<=y/\y<q.2.1+q.2.2
       . have e2:decide (q.2.1<=y)=true:=decide_eq_true t2.1
         have e3:decide (y<q.2.1+q.2.2)=true:=decide_eq_true t2.2
         have t2':=t2
         cases e4:(num/4%2==0)with
         |true=>
          obtain⟨x,hx⟩:=dy3 g hn hq (k:=y-q.2.1+1) (by omega) (by omega)
          rw[show q.2.1+(y-q.2.1+1)-1=y by omega]at hx
          clear t2 hn
          walk_at "ev"
          exact⟨⟨"reign","Reign",[.str n,.str q.1,.int (y-q.2.1+1)],[i],y,some y⟩,rfl,⟨rfl,rfl,dx4,.inl rfl,lb1 hi,x,hx⟩,rfl,⟨Int.le_refl _,λh e=>by have e:=Option.some.inj e;omega⟩⟩
         |false=>
          obtain⟨x,hx⟩:=dy1 g hn hq
          clear t2 hn
          walk_at "ev"
          exact⟨⟨"under","Under",[.str n,.str q.1],[i],q.2.1,some (q.2.1+q.2.2-1)⟩,rfl,⟨rfl,rfl,dy4,.inl rfl,lb1 hi,x,hx⟩,rfl,⟨t2'.1,λh e=>by have e:=Option.some.inj e;have:=t2'.2;omega⟩⟩
       . by_cases t3:q.2.1<=y
         . have e2:decide (q.2.1<=y)=true:=decide_eq_true t3
           have e3:decide (y<q.2.1+q.2.2)=false:=decide_eq_false (by omega)
           clear t2 t3 hn
           walk_at "ev"
           exact⟨_,_,_,rfl⟩
         . have e2:decide (q.2.1<=y)=false:=decide_eq_false t3
           clear t2 t3 hn
           walk_at "ev"
           exact⟨_,_,_,rfl⟩
     . have e1:(num%4==1)=false:=by simpa using t1
       clear t1 hn
       walk_at "ev"
       exact⟨_,_,_,rfl⟩)
   rcases hx with⟨ρ',rfl,(⟨o13,o14,o15,rfl⟩|h)⟩|⟨t,rfl,s,rfl,hs⟩
   . obtain⟨x,hx⟩:=am7 g hn (lo:=if y-num/4%9>-4000 then y-num/4%9 else -4000) (hi:=if y+num/4/9%9<4000 then y+num/4/9%9 else 4000) (by split<;>omega) (by split<;>split<;>omega) (by split<;>omega)
     refine⟨⟨"between","Between",[.str n,.int (if y-num/4%9>-4000 then y-num/4%9 else -4000),.int (if y+num/4/9%9<4000 then y+num/4/9%9 else 4000)],[i],if y-num/4%9>-4000 then y-num/4%9 else -4000,some (if y+num/4/9%9<4000 then y+num/4/9%9 else 4000)⟩,?_,⟨rfl,rfl,ae8,.inl rfl,lb1 hi,x,hx⟩,rfl,⟨by(try dsimp only);split<;>omega,λh e=>by have e:=Option.some.inj e;rw[<-e];split<;>omega⟩⟩
     clear hL c1 c2 mA n1 z1 l1 hmem hx hn
     walk_at "ev"
     rfl
   . exact h.elim
   . exact⟨s,rfl,hs⟩
theorem ix5{α:Type}(a b c d e g:α)(l:List α):atI (a::b::c::d::e::g::l) 5=some g:=fQ (j:=5) rfl
theorem zI{f:Fm}{s:Sd}(h:SdOk f s):cG (iW true s)=true:=by
 have q:cT (s.ls.map λ(l:Nat)=>T.int (l:Int))=true:=lK (λ_=>rfl) _
 simp only[iW,cG,cT,h.cp,q,at4,Bool.and_self]
theorem br7{xs:List Int}{i:Nat}{y:Int}(hi:i<xs.length)(h:atI (xs.map T.int) (i:Int)=some (.int y)):xs[i]?=some y:=by
 rw[nK hi,List.getD_eq_getElem?_getD,List.getElem?_eq_getElem hi]at h
 have h:=Option.some.inj h
 injection h with h
 rw[List.getElem?_eq_getElem hi]
 exact congrArg some h
def TrL(hid:List Int)(s:Sd):Prop:=(∃(i:Nat)(y:Int),s.ls=[i]/\hid[i]?=some y/\Tr1 s y)\/∃(i j:Nat)(yi yj:Int),s.ls=[i,j]/\hid[i]?=some yi/\hid[j]?=some yj/\Tr1 s (yi-yj)
noncomputable def B4:Fr->bP:=(cP (gY (eJ (aB 2)) (bD (aE eS (aE cI (aE aR (aB 8) (dC (.int 1))) (dC (.int 3))) (dC (.int 0))))) (bF [] (dR [12] (gN lO (aD (aB 4) aJ)) (aI 12) cK (aE bR (aE aR (aB 1) (dC (.int 0))) (aE cI (aE bR (aE aR (aB 8) (dC (.int 4))) (aE mL (aE mL (dC (.int 7)) (aE aR (aB 8) (dC (.int 5)))) (aB 12))) (aE bR (aB 5) (dC (.int 1)))))) (aI 10)) bM)
noncomputable def B6:Fr->bP:=(cP (gY (eJ (aB 2)) (bD (aE eS (aE cI (aE aR (aB 8) (dC (.int 5))) (dC (.int 8))) (dC (.int 5))))) (iA 6 [] cY (bE 4 rE (aD (aB 8) (aD (aB 1) (aD (aB 9) (aD (aB 11) aJ)))))) (cP (mY (bD (aE eS (aB 4) (dC (.int 1)))) (bD (aE ltT (aE cI (aE aR (aB 8) (dC (.int 2))) (dC (.int 5))) (dC (.int 2))))) (iA 6 [] cY (bE 4 nL (aD (aE aR (aB 8) (dC (.int 3))) (aD (aB 1) (aD (aB 9) (aD (aE aR (aB 10) (aB 9)) aJ)))))) (iA 6 [] cY (bE 4 mV (aD (aE aR (aB 8) (dC (.int 3))) (aD (aB 1) (aD (cQ (aD (aQ (aB 9)) (aD (aQ (aB 11)) aJ))) (aD (aE dD (aE aR (aB 10) (aB 9)) (aE aR (aB 10) (aB 11))) aJ))))))))
theorem eq7{f:Fm}(g:Gd f)(fl:Bool)(hid:List Int)(hl:hid.length=f.names.length)(hb:∀y∈hid,f.first<=y/\y<=f.first+f.span){a b c d e w:Int}:
 ∃ys:List Int,ys.length=f.names.length/\(∀y∈ys,f.first<=y/\y<=f.first+f.span)/\(fl=false->ys=hid)/\∀o0 o3 o6 o7 o9 o11 o12:Option T,B4 [o0,some (.tup [.int f.first,.int (f.first+f.span),.lst false (f.names.map .str),.lst false (f.inks.map (dU false)),.lst false (f.reigns.map eZ)]),some (.bl fl),o3,some (.int f.names.length),some (.int (f.first+f.span-f.first)),o6,o7,some (.lst true [.int a,.int b,.int c,.int d,.int e,.int w]),o9,some (.lst true (hid.map .int)),o11,o12]=.nx [o0,some (.tup [.int f.first,.int (f.first+f.span),.lst false (f.names.map .str),.lst false (f.inks.map (dU false)),.lst false (f.reigns.map eZ)]),some (.bl fl),o3,some (.int f.names.length),some (.int (f.first+f.span-f.first)),o6,o7,some (.lst true [.int a,.int b,.int c,.int d,.int e,.int w]),o9,some (.lst true (ys.map .int)),o11,o12]:=by
 have b0:=@iF T
 have b1:=@iG T
 have b4:=@ix4 T
 have b5:=@ix5 T
 have s0:=g.s0
 have s1:=g.s1
 have n8:=g.n8
 unfold B4
 cases fl with
 |false=>exact⟨hid,hl,hb,λ_=>rfl,λo0 o3 o6 o7 o9 o11 o12=>by walk_at "ev"⟩
 |true=>
  cases h3:(b%3==0)with
  |false=>exact⟨hid,hl,hb,λ_=>rfl,λo0 o3 o6 o7 o9 o11 o12=>by walk_at "ev"⟩
  |true=>
   have rg:-(2^62)<=(f.names.length:Int)/\(f.names.length:Int)<2^62:=by omega
   have mspan:0<f.first+f.span-f.first+1:=by omega
   refine⟨(List.range f.names.length).map λ(k:Nat)=>f.first+(e+7*w*(0+(k:Int)))%(f.first+f.span-f.first+1),by simp,λy hy=>?_,nofun,λo0 o3 o6 o7 o9 o11 o12=>?_⟩
   . obtain⟨k,_,rfl⟩:=List.mem_map.mp hy
     have:=Int.emod_nonneg (e+7*w*(0+(k:Int))) (show f.first+f.span-f.first+1≠0 by omega)
     have:=Int.emod_lt_of_pos (e+7*w*(0+(k:Int))) mspan
     omega
   . have ity:(gZ 0 (f.names.length:Int).toNat).length<=sizeLine:=by rw[fL];exact sF (by omega)
     have hys:cM (aI 12) cK (aE bR (aE aR (aB 1) (dC (.int 0))) (aE cI (aE bR (aE aR (aB 8) (dC (.int 4))) (aE mL (aE mL (dC (.int 7)) (aE aR (aB 8) (dC (.int 5)))) (aB 12))) (aE bR (aB 5) (dC (.int 1))))) [o0,some (.tup [.int f.first,.int (f.first+f.span),.lst false (f.names.map .str),.lst false (f.inks.map (dU false)),.lst false (f.reigns.map eZ)]),some (.bl true),o3,some (.int f.names.length),some (.int (f.first+f.span-f.first)),o6,o7,some (.lst true [.int a,.int b,.int c,.int d,.int e,.int w]),o9,some (.lst true (hid.map .int)),o11,none] (gZ 0 (f.names.length:Int).toNat)=.ok (((List.range f.names.length).map λ(k:Nat)=>f.first+(e+7*w*(0+(k:Int)))%(f.first+f.span-f.first+1)).map .int):=by
      unfold gZ
      rw[List.map_map,Int.toNat_natCast]
      refine eK λk hk=>?_
      have hk:=List.mem_range.mp hk
      have mk:mulOk (7*w) (0+(k:Int)):=br0 (by omega) (by omega)
      clear hl hb ity
      walk_at "ev"
      rfl
     generalize((List.range f.names.length).map λ(k:Nat)=>f.first+(e+7*w*(0+(k:Int)))%(f.first+f.span-f.first+1))=ys at*
     clear hl hb
     walk_at "ev"
theorem ep7{f:Fm}(g:Gd f)(fl:Bool){a b c d e w:Int}(hc:0<=c)(hd:0<=d)(he:0<=e){i j:Nat}(hi:i<f.names.length)(hj:j<f.names.length)(hij:¬f.names.length=1->i≠j){ys:List Int}(hl:ys.length=f.names.length)(yb:∀y∈ys,f.first<=y/\y<=f.first+f.span){ss:List Sd}(hsl:ss.length<=100000):
 ∃s,SdOk f s/\(fl=false->TrL ys s)/\∀o0 o3 o7 o12:Option T,B6 [o0,some (.tup [.int f.first,.int (f.first+f.span),.lst false (f.names.map .str),.lst false (f.inks.map (dU false)),.lst false (f.reigns.map eZ)]),some (.bl fl),o3,some (.int f.names.length),some (.int (f.first+f.span-f.first)),some (.lst true (ss.map (iW true))),o7,some (.lst true [.int a,.int b,.int c,.int d,.int e,.int w]),some (.int i),some (.lst true (ys.map .int)),some (.int j),o12]=.nx [o0,some (.tup [.int f.first,.int (f.first+f.span),.lst false (f.names.map .str),.lst false (f.inks.map (dU false)),.lst false (f.reigns.map eZ)]),some (.bl fl),o3,some (.int f.names.length),some (.int (f.first+f.span-f.first)),some (.lst true (ss.map (iW true)++[iW true s])),o7,some (.lst true [.int a,.int b,.int c,.int d,.int e,.int w]),some (.int i),some (.lst true (ys.map .int)),some (.int j),o12]:=by
 have b0:=@iF T
 have b1:=@iG T
 have b2:=@oS T
 have b3:=@vZ T
 have b5:=@ix5 T
 have z1:=mX false f.inks
 have z2:=pU f.reigns
 have s1:=g.s1
 unfold B6
 cases hf:(fl&&(w%8==5))with
 |true=>
  obtain⟨rfl,h8⟩:=(Bool.and_eq_true _ _).mp hf
  obtain⟨s,hF,hs⟩:=ez2 g (a:=a) (b:=b) (w:=w) hc hd he hi hj
  simp only[jX]at hF
  have ccs:=zI hs
  refine⟨s,hs,nofun,λo0 o3 o7 o12=>?_⟩
  clear hs hf hij yb hl
  walk_at "ev"
 |false=>
  have t0:∀o0 o3 o6 o7 o9 o10 o11 o12:Option T,gY (eJ (aB 2)) (bD (aE eS (aE cI (aE aR (aB 8) (dC (.int 5))) (dC (.int 8))) (dC (.int 5)))) [o0,some (.tup [.int f.first,.int (f.first+f.span),.lst false (f.names.map .str),.lst false (f.inks.map (dU false)),.lst false (f.reigns.map eZ)]),some (.bl fl),o3,some (.int f.names.length),some (.int (f.first+f.span-f.first)),o6,o7,some (.lst true [.int a,.int b,.int c,.int d,.int e,.int w]),o9,o10,o11,o12]=.ok false:=by
   intros
   cases fl with
   |false=>walk_at "ev"
   |true=>
    have h8:(w%8==5)=false:=hf
    clear hf
    walk_at "ev"
  generalize gY (eJ (aB 2)) (bD (aE eS (aE cI (aE aR (aB 8) (dC (.int 5))) (dC (.int 8))) (dC (.int 5))))=tst at t0⊢
  obtain⟨yi,hyi,ai⟩:=ct9 (xs:=ys) (k:=i) (by omega)
  obtain⟨yj,hyj,aj⟩:=ct9 (xs:=ys) (k:=j) (by omega)
  have yi1:=yb yi hyi
  have yj1:=yb yj hyj
  cases h1:(((f.names.length:Int)==1)||decide (c%5<2))with
  |true=>
   have t1:∀o0 o1 o2 o3 o5 o6 o7 o9 o10 o11 o12:Option T,mY (bD (aE eS (aB 4) (dC (.int 1)))) (bD (aE ltT (aE cI (aE aR (aB 8) (dC (.int 2))) (dC (.int 5))) (dC (.int 2)))) [o0,o1,o2,o3,some (.int f.names.length),o5,o6,o7,some (.lst true [.int a,.int b,.int c,.int d,.int e,.int w]),o9,o10,o11,o12]=.ok true:=by
    intros
    clear t0
    cases e1:((f.names.length:Int)==1)with
    |true=>walk_at "ev"
    |false=>
     rw[e1]at h1
     have h1:decide (c%5<2)=true:=h1
     walk_at "ev"
   generalize mY (bD (aE eS (aB 4) (dC (.int 1)))) (bD (aE ltT (aE cI (aE aR (aB 8) (dC (.int 2))) (dC (.int 5))) (dC (.int 2))))=tst2 at t1⊢
   obtain⟨s,hF,hs,hls,htr⟩:=dy0 g hd hi yi1.1 yi1.2
   simp only[jX]at hF
   have ccs:=zI hs
   refine⟨s,hs,λ_=>.inl ⟨i,yi,hls,br7 (by omega) ai,htr⟩,λo0 o3 o7 o12=>?_⟩
   clear hs hf hij yb hl h1 htr hls
   walk_at "ev"
  |false=>
   obtain⟨e1,e2⟩:=(Bool.or_eq_false_iff).mp h1
   have hm1:¬f.names.length=1:=λq=>by rw[q]at e1;exact absurd e1 (by decide)
   obtain⟨s,hF,hs,hls,htr⟩:=df4 g (gap:=yi-yj) hd hi hj (hij hm1) (by omega) (by omega)
   simp only[jX]at hF
   have ccs:=zI hs
   refine⟨s,hs,λ_=>.inr ⟨i,j,yi,yj,hls,br7 (by omega) ai,br7 (by omega) aj,htr⟩,λo0 o3 o7 o12=>?_⟩
   clear hs hf hij yb hl h1 htr hls hm1
   walk_at "ev"
theorem cb7{f:Fm}(g:Gd f)(cs:List Int)(hcs:cs.length<=100)(fl:Bool)(hid:List Int)(hl:hid.length=f.names.length)(hb:∀y∈hid,f.first<=y/\y<=f.first+f.span):
 ∃ss:List Sd,pL [.lst false (cs.map .int),jX false f,.bl fl,.lst false (hid.map .int)]=.ok (.lst true (ss.map (iW true)))/\ss.length=cs.length/\(∀s∈ss,SdOk f s)/\(fl=false->∀s∈ss,TrL hid s):=by
 unfold pL pD
 have b0:=@iF T
 have b1:=@iG T
 have b2:=@oS T
 have b3:=@vZ T
 have b4:=@ix4 T
 have b5:=@ix5 T
 have z1:=mX false f.inks
 have z2:=pU f.reigns
 have s0:=g.s0
 have s1:=g.s1
 have n1:=g.n1
 have n8:=g.n8
 rw[<-B4.eq_1,<-B6.eq_1]
 simp only[jX]
 walk_at "ev"
 generalize hL:dS _ _ _ _=o
 obtain⟨ρ',rfl,ss,o7,o8,o9,o10,o11,o12,rfl,sl,sb,st⟩:=iX (λj ρ=>∃(ss:List Sd)(o7 o8 o9 o10 o11 o12:Option T),ρ=[some (.lst false (cs.map .int)),some (.tup [.int f.first,.int (f.first+f.span),.lst false (f.names.map .str),.lst false (f.inks.map (dU false)),.lst false (f.reigns.map eZ)]),some (.bl fl),some (.lst false (hid.map .int)),some (.int f.names.length),some (.int (f.first+f.span-f.first)),some (.lst true (ss.map (iW true))),o7,o8,o9,o10,o11,o12]/\ss.length=j/\(∀s∈ss,SdOk f s)/\(fl=false->∀s∈ss,TrL hid s)) hL ⟨[],_,_,_,_,_,_,rfl,rfl,eH,λ_=>eH⟩ (by
  rintro j0 t ρ et ⟨ss,o7,o8,o9,o10,o11,o12,rfl,sl,sb,st⟩
  rw[List.getElem?_map]at et
  cases eq:cs[j0]? with
  |none=>rw[eq]at et;cases et
  |some cell=>
   rw[eq]at et
   have et:=(Option.some.inj et).symm
   subst et
   have hj0:j0<cs.length:=(List.getElem?_eq_some_iff.mp eq).1
   have hsl:ss.length<=100000:=by omega
   clear hL eq
   obtain⟨xs,hr,hxl,hxb⟩:=dh6 cell 6 (by decide)
   obtain⟨a,b,c,d,e,w,hx6,ha0,hb0,hc0,hd0,he0,hw0⟩:=ew2 hxl hxb
   rw[hx6]at hr
   have hr:qA [.int cell,.int 6]=.ok (.lst true [.int a,.int b,.int c,.int d,.int e,.int w]):=hr
   clear hx6 hxl hxb
   obtain⟨i0,i1⟩:=am3 (a:=a) (n:=f.names.length) (by omega)
   obtain⟨i,hie⟩:=sG i0
   have hi:i<f.names.length:=by omega
   have mx:0<(if(f.names.length:Int)-1>1 then(f.names.length:Int)-1 else 1):=by split<;>omega
   have mx1:=Int.emod_nonneg (b/3) (show(if(f.names.length:Int)-1>1 then(f.names.length:Int)-1 else 1)≠0 by omega)
   have mx2:=Int.emod_lt_of_pos (b/3) mx
   have mp:0<(f.names.length:Int):=by omega
   obtain⟨j1,j2⟩:=am3 (a:=(i:Int)+1+b/3%(if(f.names.length:Int)-1>1 then(f.names.length:Int)-1 else 1)) (n:=f.names.length) (by omega)
   obtain⟨j,hje⟩:=sG j1
   have hj:j<f.names.length:=by omega
   have hij:¬f.names.length=1->i≠j:=by
    intro hm hq
    subst hq
    generalize b/3%(if(f.names.length:Int)-1>1 then(f.names.length:Int)-1 else 1)=v at*
    have hv:v<(f.names.length:Int)-1:=by split at mx2<;>omega
    by_cases q:(i:Int)+1+v<f.names.length
    . rw[Int.emod_eq_of_lt (by omega) q]at hje
      omega
    . rw[show(i:Int)+1+v=((i:Int)+1+v-f.names.length)+(f.names.length:Int)*1 by omega,Int.add_mul_emod_self_left,Int.emod_eq_of_lt (by omega) (by omega)]at hje
      omega
   clear i0 i1 j1 j2
   obtain⟨ys,yl,yb,yh,k4⟩:=eq7 g fl hid hl hb (a:=a) (b:=b) (c:=c) (d:=d) (e:=e) (w:=w)
   obtain⟨s,hs,htr,k6⟩:=ep7 g fl (a:=a) (b:=b) (w:=w) hc0 hd0 he0 hi hj hij yl yb hsl
   clear hij yb
   walk_at "ev"
   exact⟨ss++[s],_,_,_,_,_,_,by rw[List.map_append];rfl,by simp[sl],λq hq=>(List.mem_append.mp hq).elim (sb q) (λz=>by rw[List.mem_singleton.mp z];exact hs),λe q hq=>(List.mem_append.mp hq).elim (st e q) (λz=>by rw[List.mem_singleton.mp z,<-yh e];exact htr e)⟩)
 clear hL
 rw[List.length_map]at sl
 refine⟨ss,?_,sl,sb,st⟩
 walk_at "ev"
open Classical in
noncomputable def txt(f:Fm)(s:Sd):Str:=if h:∃x,dF [cO false f,.str s.word,.lst false s.parts]=.ok (gO true s.cls (s.ls.map λ(l:Nat)=>(l:Int)) s.lo s.hi x)then Classical.choose h else ""
noncomputable def jE(o:Bool)(f:Fm)(s:Sd):T:=gO o s.cls (s.ls.map λ(l:Nat)=>(l:Int)) s.lo s.hi (txt f s)
theorem dm8{f:Fm}{s:Sd}(h:SdOk f s):dF [cO false f,.str s.word,.lst false s.parts]=.ok (jE true f s):=by
 unfold jE txt
 rw[dif_pos h.made]
 exact Classical.choose_spec h.made
theorem ap6(o:Bool)(f:Fm)(s:Sd):frz (jE o f s)=jE false f s:=eo1 _ _ _ _ _ _
theorem bo5(f:Fm)(s:Sd):cG (jE true f s)=true:=ba8 _ _ _ _ _
theorem dn3(f:Fm)(s:Sd):bS (jE false f s)=true:=dj2 _ _ _ _ _
theorem vQ(o:Bool)(f:Fm):∀ss:List Sd,frzs (ss.map (jE o f))=ss.map (jE false f)
 |[]=>rfl
 |s::ss=>by simp only[List.map_cons,frzs,ap6,vQ o f ss]
theorem cz3(f:Fm)(ss:List Sd):cT (ss.map (jE true f))=true:=lK (bo5 f) ss
theorem uX(f:Fm)(ss:List Sd):bA (ss.map (jE false f))=true:=jZ (dn3 f) ss
theorem ei4{f:Fm}{s:Sd}(h:SdOk f s)(o:Bool):frz (iW o s)=iW false s:=by
 have q:frzs (s.ls.map λ(l:Nat)=>T.int (l:Int))=s.ls.map λ(l:Nat)=>T.int (l:Int):=vX (λ_=>rfl) _
 simp only[iW,frz,frzs,gB _ h.np,q,cb9]
theorem dc1{f:Fm}{s:Sd}(h:SdOk f s):bS (iW false s)=true:=by
 have q:bA (s.ls.map λ(l:Nat)=>T.int (l:Int))=true:=jZ (λ_=>rfl) _
 simp only[iW,bS,bA,h.np,q,yV,Bool.not_false,Bool.and_self]
theorem zM{f:Fm}(o:Bool):∀{ss:List Sd},(∀s∈ss,SdOk f s)->frzs (ss.map (iW o))=ss.map (iW false)
 |[],_=>rfl
 |s::ss,h=>by simp only[List.map_cons,frzs,ei4 (h s List.mem_cons_self),zM o λt ht=>h t (List.mem_cons_of_mem _ ht)]
theorem qR{f:Fm}:∀{ss:List Sd},(∀s∈ss,SdOk f s)->bA (ss.map (iW false))=true
 |[],_=>rfl
 |s::ss,h=>by simp only[List.map_cons,bA,dc1 (h s List.mem_cons_self),qR λt ht=>h t (List.mem_cons_of_mem _ ht),Bool.and_self]
theorem an6{f:Fm}:∀{ss:List Sd},(∀s∈ss,SdOk f s)->cT (ss.map (iW true))=true
 |[],_=>rfl
 |s::ss,h=>by simp only[List.map_cons,cT,zI (h s List.mem_cons_self),an6 λt ht=>h t (List.mem_cons_of_mem _ ht),Bool.and_self]
theorem ec1{f:Fm}{ss:List Sd}(h:∀s∈ss,SdOk f s)(hl:ss.length<=1000):uG [cO false f,.lst false (ss.map (iW false))]=.ok (.lst true (ss.map (jE true f))):=by
 unfold uG uW
 have hc:cM (eI (aX (aI 2) (aX (aI 3) (aX (aI 4) (aX (aI 5) eO))))) cK (bE 3 dF (aD (aB 0) (aD (aB 2) (aD (bZ jQ (aD (aB 3) aJ)) aJ)))) [some (cO false f),some (.lst false (ss.map (iW false))),none,none,none,none] (ss.map (iW false))=.ok (ss.map (jE true f)):=by
  refine kY λs hs=>?_
  have k:=dm8 (h s hs)
  have np:=(h s hs).np
  have zp:=gB _ np
  have za:=jV false f
  have co:=bo5 f s
  simp only[iW]
  clear h
  walk_at "ev"
 have nn:=qR h
 have l1:ss.length<=100000:=by omega
 clear h
 walk_at "ev"
def qD(s:Sd):T:=match s.ls with
 |[_,b]=>.int b
 |_=>.non
def fst(s:Sd):Int:=match s.ls with
 |a::_=>a
 |_=>0
def st(s:Sd)(k:Int):List T:=(match s.hi with
 |some h=>[.tup [qD s,.int (fst s),.int h,.int k]]
 |none=>[])++[.tup [.int (fst s),qD s,.int (0-s.lo),.int k]]
def sp(f:Fm)(l:Int):List T:=[.tup [.non,.int l,.int (f.first+f.span),.non],.tup [.int l,.non,.int (0-f.first),.non]]
theorem cf7(c:Str)(hc:c∈kM)(o:Bool)(ls:List Int)(lo:Int)(hi:Option Int)(x:Str):gC ["Ink","Reign","Under","Between","After","Same","Within","Apart"] "spoken" (gO o c ls lo hi x)=.ok (.lst o (ls.map .int)):=by
 have:=ct8 c hc
 simp only[gC,gO,this,if_true]
 with_unfolding_all rfl
theorem ez0(c:Str)(hc:c∈kM)(o:Bool)(ls:List Int)(lo:Int)(hi:Option Int)(x:Str):gC ["Ink","Reign","Under","Between","After","Same","Within","Apart"] "low" (gO o c ls lo hi x)=.ok (.int lo):=by
 have:=ct8 c hc
 simp only[gC,gO,this,if_true]
 with_unfolding_all rfl
theorem dv6(c:Str)(hc:c∈kM)(o:Bool)(ls:List Int)(lo:Int)(hi:Option Int)(x:Str):gC ["Ink","Reign","Under","Between","After","Same","Within","Apart"] "high" (gO o c ls lo hi x)=.ok (mN hi):=by
 have:=ct8 c hc
 simp only[gC,gO,this,if_true]
 with_unfolding_all rfl
theorem di1:gM "about" ["spoken","low","high","text"]=none:=by decide+kernel
theorem cg7:gM "bounds" ["spoken","low","high","text"]=none:=by decide+kernel
theorem dp6{c:Str}(h:c∈kM):tm_about.lookup c=some bC:=by
 simp only[kM,List.mem_cons,List.not_mem_nil,or_false]at h
 rcases h with rfl|rfl|rfl|rfl|rfl|rfl|rfl|rfl<;>with_unfolding_all rfl
theorem dy7{c:Str}(h:c∈kM):tm_bounds.lookup c=some aW:=by
 simp only[kM,List.mem_cons,List.not_mem_nil,or_false]at h
 rcases h with rfl|rfl|rfl|rfl|rfl|rfl|rfl|rfl<;>with_unfolding_all rfl
theorem de7{s:Sd}(c8:s.cls∈kM)(f:Fm){ρ:Fr}(h:aB 0 ρ=.ok (jE false f s)):mR 1 "about" tm_about (aB 0) aJ ρ=.ok (.lst true ((s.ls.map λ(l:Nat)=>(l:Int)).map .int)):=by
 have k:bC [jE false f s]=.ok (.lst true ((s.ls.map λ(l:Nat)=>(l:Int)).map .int)):=by
  unfold bC dZ jE
  have:=cf7 s.cls c8 false (s.ls.map λ(l:Nat)=>(l:Int)) s.lo s.hi (txt f s)
  walk_at "ev"
 have zo:=ap6 false f s
 have e:mR 1 "about" tm_about (aB 0) aJ ρ=tF 1 bC [jE false f s]:=by
  simp only[mR,h,mF,aJ,jE,gO,di1,dp6 c8]
 rw[e]
 clear h
 walk_at "ev"
theorem dk3{s:Sd}(c8:s.cls∈kM)(f:Fm){ρ:Fr}(h:aB 0 ρ=.ok (jE false f s)):mR 1 "bounds" tm_bounds (aB 0) aJ ρ=.ok (.tup [.int s.lo,mN s.hi]):=by
 have ch:=at4 s.hi
 have nh:=yV s.hi
 have k:aW [jE false f s]=.ok (.tup [.int s.lo,mN s.hi]):=by
  unfold aW dL jE
  have:=ez0 s.cls c8 false (s.ls.map λ(l:Nat)=>(l:Int)) s.lo s.hi (txt f s)
  have:=dv6 s.cls c8 false (s.ls.map λ(l:Nat)=>(l:Int)) s.lo s.hi (txt f s)
  walk_at "ev"
 have zo:=ap6 false f s
 have e:mR 1 "bounds" tm_bounds (aB 0) aJ ρ=tF 1 aW [jE false f s]:=by
  simp only[mR,h,mF,aJ,jE,gO,cg7,dy7 c8]
 rw[e]
 clear h
 walk_at "ev"
theorem bm0{f:Fm}{s:Sd}(ok:SdOk f s)(k:Int):oA [jE false f s,.int k]=.ok (.lst true (st s k)):=by
 unfold oA oF
 have ha:=de7 ok.c8 f (ρ:=[some (jE false f s),some (.int k),none,none,none,none]) rfl
 have hb:=λq=>dk3 ok.c8 f (ρ:=[some (jE false f s),some (.int k),some q,none,none,none]) rfl
 have b0:=@iF T
 have b1:=@iG T
 obtain⟨word,cls,parts,ls,lo,hi⟩:=s
 have l12:=ok.l12
 simp only at l12 ha hb
 clear ok
 have t2:((2:Nat):Int)=2:=rfl
 have q3:((2:Int)==2)=true:=rfl
 have q1:(((0+1:Nat):Int)==2)=false:=rfl
 have q2:(((0+1+1:Nat):Int)==2)=true:=rfl
 rcases ls with _|⟨a,_|⟨b,_|⟨c,r⟩⟩⟩
 . simp at l12
 . simp only[List.map_cons,List.map_nil]at ha
   cases hi with
   |none=>simp only[mN]at hb;walk_at "ev";rfl
   |some h=>simp only[mN]at hb;walk_at "ev";rfl
 . simp only[List.map_cons,List.map_nil]at ha
   cases hi with
   |none=>simp only[mN]at hb;walk_at "ev";rfl
   |some h=>simp only[mN]at hb;walk_at "ev";rfl
 . simp at l12
theorem bn5(f:Fm)(l:Int):rF [cO false f,.int l]=.ok (.lst true (sp f l)):=by
 unfold rF rW sp
 have f1:=aw5 false f
 have f2:=af8 false f
 walk_at "ev"
def av0(ss:List Sd)(k:Nat):List T:=match ss[k]? with
 |some s=>st s k
 |none=>[]
def qB(ss:List Sd)(n:Nat):List T:=(List.range n).flatMap (av0 ss)
def vY(f:Fm)(n:Nat):List T:=(List.range n).flatMap λ(l:Nat)=>sp f (l:Int)
def eF(f:Fm)(ss:List Sd):List T:=qB ss ss.length++vY f f.names.length
theorem br5{ss:List Sd}{n:Nat}{s:Sd}(h:ss[n]?=some s):qB ss (n+1)=qB ss n++st s n:=by
 unfold qB
 rw[List.range_succ,List.flatMap_append]
 simp[av0,h]
theorem aa5(f:Fm)(n:Nat):vY f (n+1)=vY f n++sp f n:=by
 unfold vY
 rw[List.range_succ,List.flatMap_append]
 simp
def uL(t:T):Prop:=∃a b c d,t=.tup [a,b,.int c,d]/\(a=.non\/∃i,a=.int i)/\(b=.non\/∃i,b=.int i)/\(d=.non\/∃i,d=.int i)
theorem cq7(s:Sd):qD s=.non\/∃i,qD s=.int i:=by
 unfold qD
 split
 . exact .inr ⟨_,rfl⟩
 . exact .inl rfl
theorem bt0(s:Sd)(k:Int):∀t∈st s k,uL t:=by
 intro t ht
 unfold st at ht
 rcases List.mem_append.mp ht with ht|ht
 . split at ht
   . rw[List.mem_singleton.mp ht]
     exact⟨_,_,_,_,rfl,cq7 s,.inr ⟨_,rfl⟩,.inr ⟨_,rfl⟩⟩
   . cases ht
 . rw[List.mem_singleton.mp ht]
   exact⟨_,_,_,_,rfl,.inr ⟨_,rfl⟩,cq7 s,.inr ⟨_,rfl⟩⟩
theorem dw3(ss:List Sd)(n:Nat):∀t∈qB ss n,uL t:=by
 intro t ht
 obtain⟨k,_,h⟩:=List.mem_flatMap.mp ht
 unfold av0 at h
 split at h
 . exact bt0 _ _ t h
 . cases h
theorem dz0(f:Fm)(n:Nat):∀t∈vY f n,uL t:=by
 intro t ht
 obtain⟨k,_,h⟩:=List.mem_flatMap.mp ht
 simp only[sp,List.mem_cons,List.not_mem_nil,or_false]at h
 rcases h with rfl|rfl
 . exact⟨_,_,_,_,rfl,.inl rfl,.inr ⟨_,rfl⟩,.inl rfl⟩
 . exact⟨_,_,_,_,rfl,.inr ⟨_,rfl⟩,.inl rfl,.inl rfl⟩
theorem tN(f:Fm)(ss:List Sd):∀t∈eF f ss,uL t:=λt ht=>(List.mem_append.mp ht).elim (dw3 _ _ t) (dz0 _ _ t)
theorem lH{t:T}(h:uL t):bS t=true/\cG t=true/\frz t=t:=by
 obtain⟨a,b,c,d,rfl,ha,hb,hd⟩:=h
 rcases ha with rfl|⟨i,rfl⟩<;>rcases hb with rfl|⟨j,rfl⟩<;>rcases hd with rfl|⟨k,rfl⟩<;>exact⟨rfl,rfl,rfl⟩
theorem iQ{ts:List T}(h:∀t∈ts,uL t):bA ts=true:=by
 rw[kF,List.all_eq_true]
 exact λt ht=>(lH (h t ht)).1
theorem tY{ts:List T}(h:∀t∈ts,uL t):cT ts=true:=by
 rw[wI,List.all_eq_true]
 exact λt ht=>(lH (h t ht)).2.1
theorem lD{ts:List T}(h:∀t∈ts,uL t):frzs ts=ts:=gB ts (iQ h)
theorem cl8(s:Sd)(k:Int):(st s k).length<=2:=by
 unfold st
 split<;>simp
theorem vF(ss:List Sd):∀n,(qB ss n).length<=2*n
 |0=>by simp[qB]
 |n+1=>by
  have ih:=vF ss n
  unfold qB at ih⊢
  rw[List.range_succ,List.flatMap_append,List.length_append]
  have:(([n]:List Nat).flatMap (av0 ss)).length<=2:=by
   simp only[List.flatMap_cons,List.flatMap_nil,List.append_nil,av0]
   split
   . exact cl8 _ _
   . simp
  omega
theorem ao3(f:Fm):∀n,(vY f n).length=2*n
 |0=>by simp[vY]
 |n+1=>by rw[aa5,List.length_append,ao3 f n];simp[sp];omega
theorem cr5{f:Fm}(g:Gd f){ss:List Sd}(h:∀s∈ss,SdOk f s)(hl:ss.length<=1000):uY [cO false f,.lst false (ss.map (jE false f))]=.ok (.lst true (eF f ss)):=by
 unfold uY uM
 have fl:=uU false f
 have no:=uX f ss
 have n8:=g.n8
 walk_at "ev"
 generalize hL:dS _ _ _ _=o
 obtain⟨ρ',rfl,o3,o4,rfl⟩:=iX (λj ρ=>∃(o3 o4:Option T),ρ=[some (cO false f),some (.lst false (ss.map (jE false f))),some (.lst true (qB ss j)),o3,o4,none]) hL ⟨_,_,rfl⟩ (by
  rintro j t ρ et ⟨o3,o4,rfl⟩
  obtain⟨t2,e2,rfl⟩:=bk2 et
  rw[List.getElem?_map]at e2
  cases eq:ss[j]? with
  |none=>rw[eq]at e2;cases e2
  |some s=>
   rw[eq]at e2
   have e2:=(Option.some.inj e2).symm
   subst e2
   have hs:=h s (List.mem_of_getElem? eq)
   have k:=bm0 hs (j:Int)
   have zo:=ap6 false f s
   have cs:=tY (bt0 s j)
   have zs:=lD (bt0 s j)
   have hj:j<ss.length:=(List.getElem?_eq_some_iff.mp eq).1
   have l1:=vF ss j
   have l2:=cl8 s j
   have l3:(qB ss j).length+(st s j).length<=100000:=by omega
   have sc:=br5 eq
   clear hL et eq h
   walk_at "ev"
   exact⟨_,_,rfl⟩)
 rw[bt1,List.length_map]
 clear hL
 walk_at "ev"
 generalize hL:dS _ _ _ _=o
 obtain⟨ρ',rfl,o5,rfl⟩:=iX (λj ρ=>∃(o5:Option T),ρ=[some (cO false f),some (.lst false (ss.map (jE false f))),some (.lst true (qB ss ss.length++vY f j)),o3,o4,o5]) hL ⟨none,by simp[vY]⟩ (by
  rintro j t ρ et ⟨o5,rfl⟩
  obtain⟨hj,rfl⟩:=lF et
  have k:=bn5 f (0+(j:Int))
  have za:=jV false f
  have l1:=vF ss ss.length
  have l2:=ao3 f j
  have l3:(qB ss ss.length++vY f j).length+(sp f (0+(j:Int))).length<=100000:=by rw[List.length_append];simp[sp];omega
  have cs:cT (sp f (0+(j:Int)))=true:=rfl
  clear hL et h l1 l2
  walk_at "ev"
  refine⟨some (.int (0+(j:Int))),?_⟩
  rw[aa5,List.append_assoc,show(0+(j:Int))=(j:Int) by omega])
 rw[fL]
 clear hL
 simp only[Int.toNat_natCast]
 walk_at "ev"
 rfl
theorem am4{f:Fm}(g:Gd f){ss:List Sd}(h:∀s∈ss,SdOk f s)(hl:ss.length<=1000):oM [jX false f,.lst false (ss.map (iW false))]=.ok (.lst true (eF f ss)):=by
 unfold oM sY
 have b0:=@iF T
 have b1:=@iG T
 have b2:=@oS T
 have b3:=@vZ T
 have n8:=g.n8
 simp only[jX]
 have rg:-(2^62)<=(ss.length:Int)/\(ss.length:Int)<2^62:=by omega
 walk_at "ev"
 generalize hL:dS _ _ _ _=o
 obtain⟨ρ',rfl,o3,o4,o5,o6,o7,rfl⟩:=iX (λj ρ=>∃(o3 o4 o5 o6 o7:Option T),ρ=[some (.tup [.int f.first,.int (f.first+f.span),.lst false (f.names.map .str),.lst false (f.inks.map (dU false)),.lst false (f.reigns.map eZ)]),some (.lst false (ss.map (iW false))),some (.lst true (qB ss j)),o3,o4,o5,o6,o7,none]) hL ⟨_,_,_,_,_,rfl⟩ (by
  rintro j t ρ et ⟨o3,o4,o5,o6,o7,rfl⟩
  obtain⟨hj,rfl⟩:=lF et
  have hj:j<ss.length:=by simpa using hj
  obtain⟨s,eq⟩:∃s,ss[j]?=some s:=⟨ss[j],List.getElem?_eq_getElem hj⟩
  have hs:=h s (List.mem_of_getElem? eq)
  have at1:atI (ss.map (iW false)) (j:Int)=some (iW false s):=by
   exact fQ (by rw[List.getElem?_map,eq];rfl)
  have l1:=vF ss j
  have l3:(qB ss j).length<=100000:=by omega
  have l4:∀x:T,(qB ss j++[x]).length<sizeLine:=λx=>Nat.lt_of_le_of_lt (show(qB ss j++[x]).length<=100000 by rw[List.length_append];simp;omega) (by decide)
  have sc:=br5 eq
  obtain⟨word,cls,parts,ls,lo,hi⟩:=s
  have l12:=hs.l12
  simp only[iW]at at1 l12
  clear hL et eq h hs l1
  have zz:(0+(j:Int))=(j:Int):=Int.zero_add _
  rcases ls with _|⟨a,_|⟨b,_|⟨c,r⟩⟩⟩
  . simp at l12
  . simp only[List.map_cons,List.map_nil]at at1
    cases hi with
    |none=>
     simp only[mN]at at1
     clear l12
     walk_at "ev"
     exact⟨_,_,_,_,_,by simp only[st,qD,fst,List.nil_append];rfl⟩
    |some hh=>
     simp only[mN]at at1
     clear l12
     walk_at "ev"
     exact⟨_,_,_,_,_,by simp only[st,qD,fst,List.append_assoc,List.cons_append,List.nil_append];rfl⟩
  . simp only[List.map_cons,List.map_nil]at at1
    cases hi with
    |none=>
     simp only[mN]at at1
     clear l12
     walk_at "ev"
     exact⟨_,_,_,_,_,by simp only[st,qD,fst,List.nil_append];rfl⟩
    |some hh=>
     simp only[mN]at at1
     clear l12
     walk_at "ev"
     exact⟨_,_,_,_,_,by simp only[st,qD,fst,List.append_assoc,List.cons_append,List.nil_append];rfl⟩
  . simp at l12)
 rw[fL]
 clear hL
 simp only[Int.toNat_natCast]
 walk_at "ev"
 generalize hL:dS _ _ _ _=o
 obtain⟨ρ',rfl,o8,rfl⟩:=iX (λj ρ=>∃(o8:Option T),ρ=[some (.tup [.int f.first,.int (f.first+f.span),.lst false (f.names.map .str),.lst false (f.inks.map (dU false)),.lst false (f.reigns.map eZ)]),some (.lst false (ss.map (iW false))),some (.lst true (qB ss ss.length++vY f j)),o3,o4,o5,o6,o7,o8]) hL ⟨none,by simp[vY]⟩ (by
  rintro j t ρ et ⟨o8,rfl⟩
  obtain⟨hj,rfl⟩:=lF et
  have l1:=vF ss ss.length
  have l2:=ao3 f j
  have l3:(qB ss ss.length++vY f j).length<=100000:=by rw[List.length_append];omega
  have l4:∀x:T,(qB ss ss.length++vY f j++[x]).length<sizeLine:=λx=>Nat.lt_of_le_of_lt (show(qB ss ss.length++vY f j++[x]).length<=100000 by rw[List.length_append,List.length_append];simp;omega) (by decide)
  clear hL et h l1 l2
  walk_at "ev"
  refine⟨some (.int (0+(j:Int))),?_⟩
  rw[aa5,show(0+(j:Int))=(j:Int) by omega]
  simp[sp])
 rw[fL]
 clear hL
 simp only[Int.toNat_natCast]
 walk_at "ev"
 rfl
def uE(ys:List Int):T->Int
 |.int i=>ys.getD i.toNat 0
 |_=>0
def kept(ys:List Int):T->Bool
 |.tup [a,b,.int c,_]=>decide (uE ys b<=uE ys a+c)
 |_=>true
def Pl(n:Nat)(a:T):Prop:=a=.non\/∃i:Nat,i<n/\a=.int i
def StepN(n:Nat)(t:T):Prop:=∃a b c d,t=.tup [a,b,.int c,d]/\Pl n a/\Pl n b/\(d=.non\/∃i,d=.int i)
theorem StepN.st{n:Nat}{t:T}(h:StepN n t):uL t:=by
 obtain⟨a,b,c,d,rfl,ha,hb,hd⟩:=h
 exact⟨a,b,c,d,rfl,ha.imp_right λ⟨i,_,e⟩=>⟨_,e⟩,hb.imp_right λ⟨i,_,e⟩=>⟨_,e⟩,hd⟩
theorem cd9(g:Int):eM [.non,.int g]=.ok (.int g):=by
 unfold eM rJ
 walk_at "ev"
theorem ck8(i g:Int):eM [.int i,.int g]=.ok (.int i):=by
 unfold eM rJ
 walk_at "ev"
theorem ee0{f:Fm}{s:Sd}(h:SdOk f s):Pl f.names.length (.int (fst s))/\Pl f.names.length (qD s):=by
 have l12:=h.l12
 have lb:=h.lb
 obtain⟨w,c,p,ls,lo,hi⟩:=s
 simp only at l12 lb
 rcases ls with _|⟨a,_|⟨b,_|⟨c',r⟩⟩⟩
 . simp at l12
 . exact⟨.inr ⟨a,lb a (by simp),rfl⟩,.inl rfl⟩
 . exact⟨.inr ⟨a,lb a (by simp),rfl⟩,.inr ⟨b,lb b (by simp),rfl⟩⟩
 . simp at l12
theorem dv3{f:Fm}{s:Sd}(h:SdOk f s)(k:Int):∀t∈st s k,StepN f.names.length t:=by
 intro t ht
 obtain⟨h1,h2⟩:=ee0 h
 unfold st at ht
 rcases List.mem_append.mp ht with ht|ht
 . split at ht
   . rw[List.mem_singleton.mp ht]
     exact⟨_,_,_,_,rfl,h2,h1,.inr ⟨_,rfl⟩⟩
   . cases ht
 . rw[List.mem_singleton.mp ht]
   exact⟨_,_,_,_,rfl,h1,h2,.inr ⟨_,rfl⟩⟩
theorem ci2{f:Fm}{ss:List Sd}(h:∀s∈ss,SdOk f s):∀t∈eF f ss,StepN f.names.length t:=by
 intro t ht
 rcases List.mem_append.mp ht with ht|ht
 . obtain⟨k,_,q⟩:=List.mem_flatMap.mp ht
   unfold av0 at q
   split at q
   . next s es=>exact dv3 (h s (List.mem_of_getElem? es)) _ t q
   . cases q
 . obtain⟨k,hk,q⟩:=List.mem_flatMap.mp ht
   have hk:=List.mem_range.mp hk
   simp only[sp,List.mem_cons,List.not_mem_nil,or_false]at q
   rcases q with rfl|rfl
   . exact⟨_,_,_,_,rfl,.inl rfl,.inr ⟨k,hk,rfl⟩,.inl rfl⟩
   . exact⟨_,_,_,_,rfl,.inr ⟨k,hk,rfl⟩,.inl rfl,.inl rfl⟩
theorem dr6{f:Fm}(g:Gd f){ss:List Sd}(h:ss.length<=1000):(eF f ss).length<=10000:=by
 unfold eF
 have:=vF ss ss.length
 have:=ao3 f f.names.length
 have:=g.n8
 rw[List.length_append]
 omega
theorem be6{b:T->Fr->Option Fr}{body:Fr->bP}{r:T}{p:T->Bool}(Iv:Fr->Prop):∀{ts:List T}{ρ:Fr},(∀t∈ts,∀ρ,Iv ρ->∃ρ1,b t ρ=some ρ1/\((p t=false/\body ρ1=.rt r)\/(p t=true/\∃ρ2,body ρ1=.nx ρ2/\Iv ρ2)))->Iv ρ->
 (ts.all p=true/\∃ρ',dS b body ts ρ=.nx ρ'/\Iv ρ')\/(ts.all p=false/\dS b body ts ρ=.rt r)
 |[],ρ,_,hi=>.inl ⟨rfl,ρ,rfl,hi⟩
 |t::ts,ρ,hs,hi=>by
  obtain⟨ρ1,h1,h2⟩:=hs t List.mem_cons_self ρ hi
  rcases h2 with⟨hp,hb⟩|⟨hp,ρ2,hb,hi2⟩
  . refine .inr ⟨by simp[hp],?_⟩
    simp only[dS,h1,hb]
  . rcases be6 (p:=p) (r:=r) Iv (λu hu=>hs u (List.mem_cons_of_mem _ hu)) hi2 with⟨ha,ρ',e,i'⟩|⟨ha,e⟩
    . refine .inl ⟨by simp[hp,ha],ρ',?_,i'⟩
      simp only[dS,h1,hb]
      exact e
    . refine .inr ⟨by simp[hp,ha],?_⟩
      simp only[dS,h1,hb]
      exact e
theorem dj5{ys:List Int}{i:Nat}(hi:i<ys.length):atI (ys.map T.int) (i:Int)=some (.int (uE ys (.int i))):=by
 refine fQ ?_
 rw[List.getElem?_map,List.getElem?_eq_getElem hi]
 simp[uE,List.getD_eq_getElem?_getD,List.getElem?_eq_getElem hi]
theorem bo9{ys:List Int}{ts:List T}(h:∀t∈ts,StepN ys.length t):sQ [.lst false (ys.map .int),.lst false ts]=.ok (.bl (ts.all (kept ys))):=by
 unfold sQ tH
 have no:=iQ λt ht=>(h t ht).st
 have key:=be6 (b:=eI (aX (aI 2) (aX (aI 3) (aX (aI 4) (aX (aI 5) eO))))) (body:=(aP (bF [] (dC (.int 0)) (aI 6)) (aP (bF [] (dC (.int 0)) (aI 7)) (aP (cP (bD (aE hV (aB 2) (dC .non))) (bF [] (aQ (aE aR (aB 0) (aB 2))) (aI 6)) bM) (aP (cP (bD (aE hV (aB 3) (dC .non))) (bF [] (aQ (aE aR (aB 0) (aB 3))) (aI 7)) bM) (cP (bD (aE gtT (aB 7) (aE bR (aB 6) (aB 4)))) (bI [] (dC (.bl false))) bM)))))) (r:=.bl false) (p:=kept ys) (λρ=>∃o2 o3 o4 o5 o6 o7:Option T,ρ=[some (.lst false (ys.map .int)),some (.lst false ts),o2,o3,o4,o5,o6,o7]) (ts:=ts) (ρ:=[some (.lst false (ys.map .int)),some (.lst false ts),none,none,none,none,none,none]) (by
  rintro t ht ρ ⟨o2,o3,o4,o5,o6,o7,rfl⟩
  obtain⟨a,b,c,d,rfl,ha,hb,hd⟩:=h t ht
  refine⟨[some (.lst false (ys.map .int)),some (.lst false ts),some a,some b,some (.int c),some d,o6,o7],rfl,?_⟩
  have kp:∀x:Bool,decide (uE ys a+c<uE ys b)=x->kept ys (.tup [a,b,.int c,d])=!x:=by
   intro x hx
   subst hx
   simp only[kept]
   by_cases q:uE ys b<=uE ys a+c
   . rw[decide_eq_true q,decide_eq_false (by omega)];rfl
   . rw[decide_eq_false q,decide_eq_true (by omega)];rfl
  have fA:∀i:Nat,i<ys.length->a=.int i->atI (ys.map T.int) (i:Int)=some (.int (uE ys a)):=λi hi e=>by rw[e];exact dj5 hi
  have fB:∀i:Nat,i<ys.length->b=.int i->atI (ys.map T.int) (i:Int)=some (.int (uE ys b)):=λi hi e=>by rw[e];exact dj5 hi
  have nA:a=.non->uE ys a=0:=λe=>by rw[e];rfl
  have nB:b=.non->uE ys b=0:=λe=>by rw[e];rfl
  have out:∃A B:Int,uE ys a=A/\uE ys b=B/\((a=.non/\A=0)\/∃i:Nat,a=.int i/\atI (ys.map T.int) (i:Int)=some (.int A))/\((b=.non/\B=0)\/∃i:Nat,b=.int i/\atI (ys.map T.int) (i:Int)=some (.int B)):=by
   refine⟨_,_,rfl,rfl,?_,?_⟩
   . rcases ha with e|⟨i,hi,e⟩
     . exact .inl ⟨e,nA e⟩
     . exact .inr ⟨i,e,fA i hi e⟩
   . rcases hb with e|⟨i,hi,e⟩
     . exact .inl ⟨e,nB e⟩
     . exact .inr ⟨i,e,fB i hi e⟩
  obtain⟨A,B,eA,eB,ca,cb⟩:=out
  rw[eA,eB]at kp
  clear fA fB nA nB ha hb hd h ht no eA eB
  cases e:decide (A+c<B)with
  |true=>
   refine .inl ⟨kp true e,?_⟩
   clear kp
   rcases ca with⟨rfl,rfl⟩|⟨i,rfl,qa⟩<;>rcases cb with⟨rfl,rfl⟩|⟨j,rfl,qb⟩<;>walk_at "ev"
  |false=>
   refine .inr ⟨kp false e,[some (.lst false (ys.map .int)),some (.lst false ts),some a,some b,some (.int c),some d,some (.int A),some (.int B)],?_,_,_,_,_,_,_,rfl⟩
   clear kp
   rcases ca with⟨rfl,rfl⟩|⟨i,rfl,qa⟩<;>rcases cb with⟨rfl,rfl⟩|⟨j,rfl,qb⟩<;>walk_at "ev") ⟨_,_,_,_,_,_,rfl⟩
 clear h
 rcases key with⟨ha,ρ',e,o2,o3,o4,o5,o6,o7,rfl⟩|⟨ha,e⟩
 . walk_at "ev"
 . walk_at "ev"
def gy(Y:List Int)(i:Nat):Int:=Y.getD i 0
theorem xY(Y:List Int)(i j:Nat)(v:Int)(h:i<Y.length):gy (Y.set i v) j=if i=j then v else gy Y j:=by
 unfold gy
 rw[List.getD_eq_getElem?_getD,List.getD_eq_getElem?_getD,List.getElem?_set]
 by_cases e:i=j
 . subst e
   simp[h]
 . simp[e]
theorem pV:∀(m:Nat)(l:List Nat),l.Nodup->(∀x∈l,x<m)->l.length<=m
 |0,l,_,h=>by
  cases l with
  |nil=>simp
  |cons a l=>exact absurd (h a List.mem_cons_self) (by omega)
 |m+1,l,nd,h=>by
  by_cases e:m∈l
  . have:=pV m (l.erase m) (nd.erase m) (λx hx=>by
     have h1:=(List.Nodup.mem_erase_iff nd).mp hx
     have:=h x h1.2
     have:=h1.1
     omega)
    rw[List.length_erase_of_mem e]at this
    omega
  . have:=pV m l nd (λx hx=>by
     have:=h x hx
     have:x≠m:=λq=>e (q▸hx)
     omega)
    omega
theorem es2(w:Nat->Nat)(n:Nat)(h:∀k,k<=n+1->w k<=n):∃i j,i<j/\j<=n+1/\w i=w j:=by
 apply Classical.byContradiction
 intro hn
 have nd:((List.range (n+2)).map w).Nodup:=by
  unfold List.Nodup
  rw[List.pairwise_map]
  refine(List.pairwise_lt_range (n:=n+2)).imp_of_mem λ{a b} ha hb hlt e=>?_
  have:=List.mem_range.mp hb
  exact hn ⟨a,b,hlt,by omega,e⟩
 have:=pV (n+1) _ nd (λx hx=>by
  obtain⟨k,hk,rfl⟩:=List.mem_map.mp hx
  have:=List.mem_range.mp hk
  have:=h k (by omega)
  omega)
 rw[List.length_map,List.length_range]at this
 omega
def it(f:Nat->Nat):Nat->Nat->Nat
 |0,a=>a
 |k+1,a=>it f k (f a)
theorem yM(f:Nat->Nat):∀k a,it f (k+1) a=f (it f k a)
 |0,_=>rfl
 |k+1,a=>yM f k (f a)
theorem tT(f:Nat->Nat)(j:Nat):∀k a,it f (k+j) a=it f k (it f j a)
 |k,a=>by
  induction j generalizing a with
  |zero=>rfl
  |succ j ih=>exact ih (f a)
section
variable {α : Type} (src dst : α → Nat) (cst : α → Int)
def Kp(Y:List Int)(t:α):Prop:=gy Y (dst t)<=gy Y (src t)+cst t
instance (Y:List Int) (t:α):Decidable (Kp src dst cst Y t):=inferInstanceAs (Decidable (_<=_))
structure Rs (α:Type) where
 Y:List Int
 R:List (Option α)
 x:Option Nat
def one(s:Rs α)(t:α):Rs α:=if Kp src dst cst s.Y t then s else⟨s.Y.set (src t) (gy s.Y (dst t)-cst t),s.R.set (src t) (some t),some (src t)⟩
def Dt(ts:List α)(n:Nat)(D:Nat->Int):Prop:=D n=0/\∀t∈ts,D (dst t)<=D (src t)+cst t
structure Gh (ts:List α) (n p i:Nat) (s:Rs α) (L Tm:Nat->Nat) (τ:Nat):Prop where
 tm:∀a,Tm a<=τ
 lp:∀a,L a<=p
 r:∀a t,s.R[a]?=some (some t)->t∈ts/\src t=a/\L a<=L (dst t)+1/\gy s.Y a<=gy s.Y (dst t)-cst t/\(Tm a<=Tm (dst t)->gy s.Y a<gy s.Y (dst t)-cst t)
 d:∀a,1<=L a->∃t,s.R[a]?=some (some t)
 k1:∀j t,ts[j]?=some t->j<i->L (dst t)<p->Kp src dst cst s.Y t
 k2:∀j t,ts[j]?=some t->i<=j->L (dst t)+1<p->Kp src dst cst s.Y t
 x1:∀a,s.x=some a->L a=p/\a<=n
 x0:s.x=none->∀a,L a<p
structure Iv (Y0:List Int) (ts:List α) (n p i:Nat) (s:Rs α):Prop where
 ly:s.Y.length=n+1
 lr:s.R.length=n+1
 up:∀j,gy Y0 j<=gy s.Y j
 low:∀D,Dt src dst cst ts n D->(∀j,j<=n->gy Y0 j<=D j)->∀j,j<=n->gy s.Y j<=D j
 gh:∃L Tm τ,Gh src dst cst ts n p i s L Tm τ
variable {src dst cst} {Y0 : List Int} {ts : List α} {n p i : Nat} {s : Rs α}
theorem Iv.start(hy:Y0.length=n+1):Iv src dst cst Y0 ts n 1 0 ⟨Y0,List.replicate (n+1) none,none⟩:=
 ⟨hy,by simp,λ_=>Int.le_refl _,λD _ h=>h,λ_=>0,λ_=>0,0,λ_=>Nat.le_refl _,λ_=>Nat.zero_le _,λa t h=>by
  simp only[List.getElem?_replicate]at h
  split at h<;>simp at h,λa h=>by omega,λj t _ h=>by omega,λj t _ _ h=>by omega,(λa h=>nomatch h),λ_ a=>by omega⟩
theorem Iv.next(h:Iv src dst cst Y0 ts n p ts.length s):Iv src dst cst Y0 ts n (p+1) 0 ⟨s.Y,s.R,none⟩:=by
 obtain⟨L,Tm,τ,g⟩:=h.gh
 refine⟨h.ly,h.lr,h.up,h.low,L,Tm,τ,g.tm,λa=>Nat.le_succ_of_le (g.lp a),g.r,g.d,λj t _ q=>by omega,λj t e _ q=>g.k1 j t e (List.getElem?_eq_some_iff.mp e).1 (by omega),(λa q=>nomatch q),λ_ a=>by have:=g.lp a;omega⟩
theorem Iv.one(h:Iv src dst cst Y0 ts n p i s)(hb:∀t∈ts,src t<=n/\dst t<=n){t:α}(et:ts[i]?=some t):Iv src dst cst Y0 ts n p (i+1) (Nk24.one src dst cst s t):=by
 obtain⟨L,Tm,τ,g⟩:=h.gh
 have tm:t∈ts:=List.mem_of_getElem? et
 obtain⟨b1,b2⟩:=hb t tm
 unfold Nk24.one
 by_cases hk:Kp src dst cst s.Y t
 . rw[if_pos hk]
   refine⟨h.ly,h.lr,h.up,h.low,L,Tm,τ,g.tm,g.lp,g.r,g.d,λj u e q l=>?_,λj u e q=>g.k2 j u e (by omega),g.x1,g.x0⟩
   by_cases ej:j=i
   . subst ej
     rw[et]at e
     cases e
     exact hk
   . exact g.k1 j u e (by omega) l
 . rw[if_neg hk]
   have hl:src t<s.Y.length:=by rw[h.ly];omega
   have lt:gy s.Y (src t)<gy s.Y (dst t)-cst t:=by unfold Kp at hk;omega
   have ge:∀j,gy s.Y j<=gy (s.Y.set (src t) (gy s.Y (dst t)-cst t)) j:=λj=>by
    rw[xY _ _ _ _ hl]
    split
    . next e=>subst e;omega
    . exact Int.le_refl _
   have lb:p<=L (dst t)+1:=by
    apply Classical.byContradiction
    intro q
    exact hk (g.k2 i t et (Nat.le_refl _) (by omega))
   refine⟨by simp[h.ly],by simp[h.lr],λj=>Int.le_trans (h.up j) (ge j),λD hD h0 j hj=>?_,λa=>if a=src t then p else L a,λa=>if a=src t then τ+1 else Tm a,τ+1,λa=>?_,λa=>?_,λa u hu=>?_,λa ha=>?_,λj u e q l=>?_,λj u e q l=>?_,λa q=>?_,λq=>by cases q⟩
   . show gy (s.Y.set (src t) (gy s.Y (dst t)-cst t)) j<=D j
     rw[xY _ _ _ _ hl]
     split
     . next e=>
       subst e
       have h1:=h.low D hD h0 (dst t) b2
       have h2:=hD.2 t tm
       omega
     . exact h.low D hD h0 j hj
   . have:=g.tm a
     show(if a=src t then τ+1 else Tm a)<=τ+1
     split<;>omega
   . show(if a=src t then p else L a)<=p
     have:=g.lp a
     split<;>omega
   . have hu:(s.R.set (src t) (some t))[a]?=some (some u):=hu
     show u∈ts/\src u=a/\(if a=src t then p else L a)<=(if dst u=src t then p else L (dst u))+1/\gy (s.Y.set (src t) (gy s.Y (dst t)-cst t)) a<=gy (s.Y.set (src t) (gy s.Y (dst t)-cst t)) (dst u)-cst u/\((if a=src t then τ+1 else Tm a)<=(if dst u=src t then τ+1 else Tm (dst u))->gy (s.Y.set (src t) (gy s.Y (dst t)-cst t)) a<gy (s.Y.set (src t) (gy s.Y (dst t)-cst t)) (dst u)-cst u)
     have G:=λj=>xY s.Y (src t) j (gy s.Y (dst t)-cst t) hl
     rw[G a,G (dst u)]
     by_cases ea:a=src t
     . subst ea
       rw[List.getElem?_set_self (by rw[h.lr];omega)]at hu
       cases hu
       have l1:=g.lp (dst t)
       have l2:=g.tm (dst t)
       by_cases e:dst t=src t
       . simp only[e,if_true]
         rw[e]at lt
         exact⟨tm,trivial,by omega,by omega,λ_=>by omega⟩
       . have e':¬src t=dst t:=λz=>e z.symm
         simp only[if_neg e,if_neg e',if_true]
         exact⟨tm,trivial,by omega,by omega,λq=>by omega⟩
     . rw[List.getElem?_set_ne (λz=>ea z.symm)]at hu
       obtain⟨q1,q2,q3,q4,q5⟩:=g.r a u hu
       have ea':¬src t=a:=λz=>ea z.symm
       have l1:=g.lp a
       by_cases e:dst u=src t
       . have e':src t=dst u:=e.symm
         rw[e]at q4
         simp only[if_neg ea,if_neg ea',if_pos e,if_pos e']
         exact⟨q1,q2,by omega,by omega,λ_=>by omega⟩
       . have e':¬src t=dst u:=λz=>e z.symm
         simp only[if_neg ea,if_neg ea',if_neg e,if_neg e']
         exact⟨q1,q2,q3,q4,q5⟩
   . show∃u,(s.R.set (src t) (some t))[a]?=some (some u)
     by_cases ea:a=src t
     . exact⟨t,by rw[ea,List.getElem?_set_self (by rw[h.lr];omega)]⟩
     . have ha:1<=(if a=src t then p else L a):=ha
       rw[if_neg ea]at ha
       rw[List.getElem?_set_ne (λz=>ea z.symm)]
       exact g.d a ha
   . have l:(if dst u=src t then p else L (dst u))<p:=l
     show gy (s.Y.set (src t) (gy s.Y (dst t)-cst t)) (dst u)<=gy (s.Y.set (src t) (gy s.Y (dst t)-cst t)) (src u)+cst u
     by_cases e2:dst u=src t
     . rw[if_pos e2]at l;omega
     . rw[if_neg e2]at l
       have h1:=ge (src u)
       have h2:gy (s.Y.set (src t) (gy s.Y (dst t)-cst t)) (dst u)=gy s.Y (dst u):=by rw[xY _ _ _ _ hl,if_neg (λz=>e2 z.symm)]
       rw[h2]
       by_cases ej:j=i
       . subst ej
         rw[et]at e
         cases e
         rw[xY _ _ _ _ hl,if_pos rfl]
         omega
       . have:gy s.Y (dst u)<=gy s.Y (src u)+cst u:=g.k1 j u e (by omega) l
         omega
   . have l:(if dst u=src t then p else L (dst u))+1<p:=l
     show gy (s.Y.set (src t) (gy s.Y (dst t)-cst t)) (dst u)<=gy (s.Y.set (src t) (gy s.Y (dst t)-cst t)) (src u)+cst u
     by_cases e2:dst u=src t
     . rw[if_pos e2]at l;omega
     . rw[if_neg e2]at l
       have h1:=ge (src u)
       have h2:gy (s.Y.set (src t) (gy s.Y (dst t)-cst t)) (dst u)=gy s.Y (dst u):=by rw[xY _ _ _ _ hl,if_neg (λz=>e2 z.symm)]
       rw[h2]
       have:gy s.Y (dst u)<=gy s.Y (src u)+cst u:=g.k2 j u e (by omega) l
       omega
   . have q:some (src t)=some a:=q
     cases q
     exact⟨by show(if src t=src t then p else _)=p;rw[if_pos rfl],b1⟩
end
theorem es4{p:Nat->Prop}(h:∃k,p k):∃k,p k/\∀m,m<k->¬p m:=by
 obtain⟨k,hk⟩:=h
 induction k using Nat.strongRecOn with
 |ind k ih=>
  by_cases q:∃m,m<k/\p m
  . obtain⟨m,h1,h2⟩:=q
    exact ih m h1 h2
  . exact⟨k,hk,λm h1 h2=>q ⟨m,h1,h2⟩⟩
section
variable {α : Type} {src dst : α → Nat} {cst : α → Int} {Y0 : List Int} {ts : List α} {n p i : Nat} {s : Rs α}
theorem Iv.fold(hb:∀t∈ts,src t<=n/\dst t<=n):∀(us:List α){i:Nat}{s:Rs α},ts.drop i=us->Iv src dst cst Y0 ts n p i s->Iv src dst cst Y0 ts n p (i+us.length) (us.foldl (Nk24.one src dst cst) s)
 |[],i,s,_,h=>h
 |t::us,i,s,e,h=>by
  have et:ts[i]?=some t:=by
   have:(ts.drop i)[0]?=some t:=by rw[e];rfl
   rw[List.getElem?_drop]at this
   exact this
  have ed:ts.drop (i+1)=us:=by
   rw[<-List.tail_drop,e]
   rfl
  have:=Iv.fold hb us ed (h.one hb et)
  rw[List.length_cons,show i+(us.length+1)=i+1+us.length by omega]
  exact this
variable (src dst cst) in
def wK(ts:List α)(s:Rs α):Rs α:=ts.foldl (Nk24.one src dst cst) ⟨s.Y,s.R,none⟩
variable (src dst cst) in
def aj3(ts:List α)(s:Rs α):Nat->Rs α
 |0=>s
 |k+1=>wK src dst cst ts (aj3 ts s k)
theorem Iv.pass(hb:∀t∈ts,src t<=n/\dst t<=n)(h:Iv src dst cst Y0 ts n p 0 ⟨s.Y,s.R,none⟩):Iv src dst cst Y0 ts n p ts.length (wK src dst cst ts s):=by
 have:=Iv.fold hb ts (i:=0) rfl h
 rwa[Nat.zero_add]at this
theorem Iv.runs(hb:∀t∈ts,src t<=n/\dst t<=n)(hy:Y0.length=n+1):∀k,Iv src dst cst Y0 ts n (k+1) ts.length (aj3 src dst cst ts ⟨Y0,List.replicate (n+1) none,none⟩ (k+1))
 |0=>Iv.pass hb (s:=⟨Y0,List.replicate (n+1) none,none⟩) (Iv.start hy)
 |k+1=>Iv.pass hb (Iv.next (Iv.runs hb hy k))
variable (dst) in
def nx(R:List (Option α))(a:Nat):Nat:=match R[a]? with
 |some (some t)=>dst t
 |_=>a
variable (dst cst) in
def cs(R:List (Option α)):Nat->Nat->Int
 |0,_=>0
 |k+1,a=>(match R[a]? with
  |some (some t)=>cst t
  |_=>0)+cs R k (nx dst R a)
theorem bw1{L Tm:Nat->Nat}{τ:Nat}(g:Gh src dst cst ts n p i s L Tm τ):∀(k a:Nat),(∀m,m<k->∃t,s.R[it (nx dst s.R) m a]?=some (some t))->
 gy s.Y a+cs dst cst s.R k a<=gy s.Y (it (nx dst s.R) k a)/\(gy s.Y a+cs dst cst s.R k a<gy s.Y (it (nx dst s.R) k a)\/Tm (it (nx dst s.R) k a)+k<=Tm a)
 |0,a,_=>⟨by simp[cs,it],.inr (by simp[it])⟩
 |k+1,a,h=>by
  obtain⟨t,et⟩:=h 0 (by omega)
  have et:s.R[a]?=some (some t):=et
  obtain⟨_,_,_,q4,q5⟩:=g.r a t et
  have en:nx dst s.R a=dst t:=by simp only[nx,et]
  obtain⟨i1,i2⟩:=bw1 g k (nx dst s.R a) (λm hm=>h (m+1) (by omega))
  have ec:cs dst cst s.R (k+1) a=cst t+cs dst cst s.R k (nx dst s.R a):=by simp only[cs,et]
  have ei:it (nx dst s.R) (k+1) a=it (nx dst s.R) k (nx dst s.R a):=rfl
  rw[ec,ei]
  rw[en]at*
  refine⟨by omega,?_⟩
  rcases i2 with i2|i2
  . exact .inl (by omega)
  . by_cases q:Tm a<=Tm (dst t)
    . have:=q5 q
      exact .inl (by omega)
    . exact .inr (by omega)
theorem cv1{L Tm:Nat->Nat}{τ:Nat}(g:Gh src dst cst ts n p i s L Tm τ){D:Nat->Int}(hD:Dt src dst cst ts n D):∀(k a:Nat),(∀m,m<k->∃t,s.R[it (nx dst s.R) m a]?=some (some t))->D (it (nx dst s.R) k a)<=D a+cs dst cst s.R k a
 |0,a,_=>by simp[cs,it]
 |k+1,a,h=>by
  obtain⟨t,et⟩:=h 0 (by omega)
  have et:s.R[a]?=some (some t):=et
  obtain⟨q1,q2,_⟩:=g.r a t et
  have en:nx dst s.R a=dst t:=by simp only[nx,et]
  have i1:=cv1 g hD k (nx dst s.R a) (λm hm=>h (m+1) (by omega))
  have ec:cs dst cst s.R (k+1) a=cst t+cs dst cst s.R k (nx dst s.R a):=by simp only[cs,et]
  have ei:it (nx dst s.R) (k+1) a=it (nx dst s.R) k (nx dst s.R a):=rfl
  have:=hD.2 t q1
  rw[ec,ei]
  rw[en]at*
  rw[q2]at this
  omega
structure Ring (src dst:α->Nat) (cst:α->Int) (ts:List α) (n:Nat) (R:List (Option α)) (a0 P k:Nat):Prop where
 at0:it (nx dst R) (n+1) a0=P
 k1:1<=k
 kn:k<=n+1
 back:it (nx dst R) k P=P
 fst:∀m,1<=m->m<k->it (nx dst R) m P≠P
 dfa:∀m,∃t,R[it (nx dst R) m a0]?=some (some t)/\t∈ts/\src t=it (nx dst R) m a0
 neg:cs dst cst R k P<0
theorem Ring.df{R:List (Option α)}{a0 P k:Nat}(h:Ring src dst cst ts n R a0 P k)(m:Nat):∃t,R[it (nx dst R) m P]?=some (some t)/\t∈ts/\src t=it (nx dst R) m P:=by
 have:=h.dfa (m+(n+1))
 rwa[tT,h.at0]at this
theorem cq1(hb:∀t∈ts,src t<=n/\dst t<=n)(h:Iv src dst cst Y0 ts n (n+1) ts.length s){a0:Nat}(hx:s.x=some a0):∃P k,Ring src dst cst ts n s.R a0 P k:=by
 obtain⟨L,Tm,τ,g⟩:=h.gh
 obtain⟨l0,a0n⟩:=g.x1 a0 hx
 let w:=λm=>it (nx dst s.R) m a0
 have df:∀a,1<=L a->∃t,s.R[a]?=some (some t)/\t∈ts/\src t=a/\nx dst s.R a=dst t/\L a<=L (dst t)+1:=λa ha=>by
  obtain⟨t,et⟩:=g.d a ha
  obtain⟨q1,q2,q3,_⟩:=g.r a t et
  exact⟨t,et,q1,q2,by simp only[nx,et],q3⟩
 have wl:∀k,k<=n+1->n+1<=L (w k)+k/\w k<=n:=by
  intro k
  induction k with
  |zero=>intro _;exact⟨by show n+1<=L a0+0;omega,a0n⟩
  |succ k ih=>
   intro hk
   obtain⟨i1,i2⟩:=ih (by omega)
   obtain⟨t,et,q1,q2,q3,q4⟩:=df (w k) (by omega)
   have e:w (k+1)=dst t:=by show it _ (k+1) a0=_;rw[yM];exact q3
   rw[e]
   exact⟨by omega,(hb t q1).2⟩
 obtain⟨i,j,hij,hj,eij⟩:=es2 w n (λk hk=>(wl k hk).2)
 have per:∀m,i<=m->w (m+(j-i))=w m:=λm hm=>by
  show it _ (m+(j-i)) a0=it _ m a0
  have e1:m+(j-i)=(m-i)+j:=by omega
  have e2:m=(m-i)+i:=by omega
  rw[e1,tT]
  conv=>rhs;rw[e2,tT]
  exact congrArg _ eij.symm
 have dw:∀m,1<=L (w m)\/∃m',m'<m/\w m=w m':=λm=>by
  by_cases hm:m<=n
  . exact .inl (by have:=(wl m (by omega)).1;omega)
  . refine .inr ⟨m-(j-i),by omega,?_⟩
    have:=per (m-(j-i)) (by omega)
    rwa[show m-(j-i)+(j-i)=m by omega]at this
 have dfa:∀m,∃t,s.R[w m]?=some (some t)/\t∈ts/\src t=w m:=by
  intro m
  induction m using Nat.strongRecOn with
  |ind m ih=>
   rcases dw m with q|⟨m',h1,h2⟩
   . obtain⟨t,et,q1,q2,_⟩:=df (w m) q
     exact⟨t,et,q1,q2⟩
   . rw[h2]
     exact ih m' h1
 have ex:∃k,1<=k/\it (nx dst s.R) k (w (n+1))=w (n+1):=⟨j-i,by omega,by
  have:=per (n+1) (by omega)
  have e:w (n+1+(j-i))=it (nx dst s.R) (j-i) (w (n+1)):=by
   show it _ (n+1+(j-i)) a0=_
   rw[Nat.add_comm,tT]
  rw[<-e]
  exact this⟩
 obtain⟨k,⟨k1,kb⟩,kf⟩:=es4 ex
 have kn:k<=n+1:=by
  apply Classical.byContradiction
  intro q
  refine kf (j-i) (by omega) ⟨by omega,?_⟩
  have:=per (n+1) (by omega)
  have e:w (n+1+(j-i))=it (nx dst s.R) (j-i) (w (n+1)):=by
   show it _ (n+1+(j-i)) a0=_
   rw[Nat.add_comm,tT]
  rw[<-e]
  exact this
 have dP:∀m,m<k->∃t,s.R[it (nx dst s.R) m (w (n+1))]?=some (some t):=λm _=>by
  obtain⟨t,et,_⟩:=dfa (m+(n+1))
  have e:w (m+(n+1))=it (nx dst s.R) m (w (n+1)):=tT _ _ _ _
  rw[e]at et
  exact⟨t,et⟩
 have neg:cs dst cst s.R k (w (n+1))<0:=by
  obtain⟨_,q⟩:=bw1 g k (w (n+1)) dP
  rw[kb]at q
  rcases q with q|q<;>omega
 exact⟨w (n+1),k,rfl,k1,kn,kb,λm h1 h2 e=>kf m h2 ⟨h1,e⟩,dfa,neg⟩
theorem dn8(hb:∀t∈ts,src t<=n/\dst t<=n)(h:Iv src dst cst Y0 ts n (n+1) ts.length s){D:Nat->Int}(hD:Dt src dst cst ts n D):s.x=none:=by
 cases hx:s.x with
 |none=>rfl
 |some a0=>
  obtain⟨P,k,r⟩:=cq1 hb h hx
  obtain⟨L,Tm,τ,g⟩:=h.gh
  have:=cv1 g hD k P (λm _=>by obtain⟨t,et,_⟩:=r.df m;exact⟨t,et⟩)
  rw[r.back]at this
  have:=r.neg
  omega
theorem cn7(h:Iv src dst cst Y0 ts n p ts.length s)(hx:s.x=none):∀t∈ts,Kp src dst cst s.Y t:=λt ht=>by
 obtain⟨L,Tm,τ,g⟩:=h.gh
 obtain⟨j,hj,e⟩:=List.mem_iff_getElem.mp ht
 exact g.k1 j t (by rw[List.getElem?_eq_getElem hj,e]) hj (g.x0 hx _)
theorem ds6(h:Iv src dst cst Y0 ts n p ts.length s)(hx:s.x=none)(h0:gy Y0 n=0)(hbase:∀D,Dt src dst cst ts n D->∀j,j<=n->gy Y0 j<=D j):gy s.Y n=0:=by
 have ak:=cn7 h hx
 have hD:Dt src dst cst ts n (λj=>gy s.Y j-gy s.Y n):=⟨by show gy s.Y n-gy s.Y n=0;omega,λt ht=>by
  have:gy s.Y (dst t)<=gy s.Y (src t)+cst t:=ak t ht
  show gy s.Y (dst t)-gy s.Y n<=gy s.Y (src t)-gy s.Y n+cst t
  omega⟩
 have q:gy s.Y n<=gy s.Y n-gy s.Y n:=h.low _ hD (hbase _ hD) n (Nat.le_refl _)
 have:=h.up n
 omega
theorem cp8(h:Iv src dst cst Y0 ts n p ts.length s)(hx:s.x=none)(h0:gy Y0 n=0)(hbase:∀D,Dt src dst cst ts n D->∀j,j<=n->gy Y0 j<=D j):Dt src dst cst ts n (gy s.Y):=⟨ds6 h hx h0 hbase,λt ht=>cn7 h hx t ht⟩
theorem ed6(h:Iv src dst cst Y0 ts n p ts.length s)(hx:s.x=none)(h0:gy Y0 n=0)(hbase:∀D,Dt src dst cst ts n D->∀j,j<=n->gy Y0 j<=D j){F:List Nat}(hF:n∈F){a:Nat}(ha:a<=n)(hn:a∉F):
 ∃t∈ts,dst t∈F/\src t∉F/\gy s.Y (src t)=gy s.Y (dst t)-cst t:=by
 apply Classical.byContradiction
 intro hc
 have dt:=cp8 h hx h0 hbase
 have hD:Dt src dst cst ts n (λj=>if j∈F then gy s.Y j else gy s.Y j-1):=⟨by show(if n∈F then _ else _)=_;rw[if_pos hF];exact dt.1,λt ht=>by
  show(if dst t∈F then gy s.Y (dst t)else gy s.Y (dst t)-1)<=(if src t∈F then gy s.Y (src t)else gy s.Y (src t)-1)+cst t
  have q:=dt.2 t ht
  by_cases e1:dst t∈F
  . by_cases e2:src t∈F
    . rw[if_pos e1,if_pos e2];exact q
    . rw[if_pos e1,if_neg e2]
      have:gy s.Y (src t)≠gy s.Y (dst t)-cst t:=λz=>hc ⟨t,ht,e1,e2,z⟩
      omega
  . rw[if_neg e1]
    split<;>omega⟩
 have q:gy s.Y a<=(if a∈F then gy s.Y a else gy s.Y a-1):=h.low _ hD (hbase _ hD) a ha
 rw[if_neg hn]at q
 omega
end
def pN(n:Nat):T->Nat
 |.int i=>i.toNat
 |_=>n
def cN(n:Nat):T->Nat
 |.tup (a::_)=>pN n a
 |_=>n
def bO(n:Nat):T->Nat
 |.tup (_::b::_)=>pN n b
 |_=>n
def bX:T->Int
 |.tup (_::_::.int c::_)=>c
 |_=>0
theorem tZ{n:Nat}{a:T}(h:Pl n a):pN n a<=n/\eM [a,.int (n:Int)]=.ok (.int ((pN n a:Nat):Int))/\bS a=true/\frz a=a/\cG a=true:=by
 rcases h with rfl|⟨i,hi,rfl⟩
 . exact⟨Nat.le_refl _,cd9 _,rfl,rfl,rfl⟩
 . exact⟨by simp[pN];omega,by simpa[pN]using ck8 (i:Int) n,rfl,rfl,rfl⟩
theorem cd2{Y:List Int}{i:Nat}(h:i<Y.length):atI (Y.map T.int) (i:Int)=some (.int (gy Y i)):=nK h
theorem aj2{n:Nat}{t:T}(h:StepN n t):cN n t<=n/\bO n t<=n:=by
 obtain⟨a,b,c,d,rfl,ha,hb,hd⟩:=h
 exact⟨(tZ ha).1,(tZ hb).1⟩
theorem en0{n:Nat}{Y:List Int}(hy:Y.length=n+1){t:T}(h:StepN n t):wV [t,.lst false (Y.map .int)]=.ok (.bl (decide (Kp (cN n) (bO n) bX Y t))):=by
 obtain⟨a,b,c,d,rfl,ha,hb,hd⟩:=h
 obtain⟨la,pa,na,za,ca⟩:=tZ ha
 obtain⟨lb,pb,nb,zb,cb⟩:=tZ hb
 have qa:=cd2 (Y:=Y) (i:=pN n a) (by omega)
 have qb:=cd2 (Y:=Y) (i:=pN n b) (by omega)
 have key:decide (Kp (cN n) (bO n) bX Y (.tup [a,b,.int c,d]))=decide (gy Y (pN n b)<=gy Y (pN n a)+c):=rfl
 rw[key]
 unfold wV wQ
 have el:(((Y.map T.int).length:Nat):Int)-1=(n:Int):=by rw[List.length_map,hy];omega
 have b0:=@iF T
 have b1:=@iG T
 have b2:=@oS T
 clear ha hb hd key hy
 generalize gy Y (pN n a)=A at*
 generalize gy Y (pN n b)=B at*
 generalize Y.map T.int=L at*
 walk_at "ev"
def xT:Option Nat->T
 |none=>.non
 |some a=>.int a
def Rt(R:List (Option T)):List T:=R.map λo=>o.getD .non
theorem en1(R:List (Option T))(k:Nat)(t:T):Rt (R.set k (some t))=(Rt R).set k t:=by
 unfold Rt
 rw[List.map_set]
 rfl
theorem ew5(Y:List Int)(k:Nat)(v:Int):(Y.set k v).map T.int=(Y.map T.int).set k (.int v):=List.map_set
theorem one_len{n:Nat}{s:Rs T}{t:T}:(one (cN n) (bO n) bX s t).Y.length=s.Y.length/\(one (cN n) (bO n) bX s t).R.length=s.R.length:=by
 unfold one
 split<;>simp
theorem dz6{l k:Nat}(h:k<l):rK l (k:Int)=some k:=by
 unfold rK
 simp
 omega
theorem df9{n:Nat}{ts:List T}(h:∀t∈ts,StepN n t){Y:List Int}{R:List (Option T)}(hy:Y.length=n+1)(hr:R.length=n+1):
 iZ (.lst false ts) (.lst true (Y.map .int)) (.lst true (Rt R))=.ok (xT (wK (cN n) (bO n) bX ts ⟨Y,R,none⟩).x,.lst true ((wK (cN n) (bO n) bX ts ⟨Y,R,none⟩).Y.map .int),.lst true (Rt (wK (cN n) (bO n) bX ts ⟨Y,R,none⟩).R)):=by
 unfold iZ pH
 have no:=iQ λt ht=>(h t ht).st
 have el:(((Y.map T.int).length:Nat):Int)-1=(n:Int):=by rw[List.length_map,hy];omega
 have en:((n+1:Nat):Int)-1=(n:Int):=by omega
 walk_at "ev"
 generalize hL:dS _ _ _ _=o
 obtain⟨ρ',rfl,o5,rfl,l1,l2⟩:=iX (λi ρ=>∃(o5:Option T),ρ=[some (.lst false ts),some (.lst true (((ts.take i).foldl (one (cN n) (bO n) bX) ⟨Y,R,none⟩).Y.map .int)),some (.lst true (Rt ((ts.take i).foldl (one (cN n) (bO n) bX) ⟨Y,R,none⟩).R)),some (.int n),some (xT ((ts.take i).foldl (one (cN n) (bO n) bX) ⟨Y,R,none⟩).x),o5]/\((ts.take i).foldl (one (cN n) (bO n) bX) ⟨Y,R,none⟩).Y.length=n+1/\((ts.take i).foldl (one (cN n) (bO n) bX) ⟨Y,R,none⟩).R.length=n+1) hL ⟨_,rfl,hy,hr⟩ (by
  rintro i t ρ et ⟨o5,rfl,l1,l2⟩
  have tm:=List.mem_of_getElem? et
  have es:(ts.take (i+1)).foldl (one (cN n) (bO n) bX) ⟨Y,R,none⟩=one (cN n) (bO n) bX ((ts.take i).foldl (one (cN n) (bO n) bX) ⟨Y,R,none⟩) t:=by
   rw[List.take_add_one,et,List.foldl_append]
   rfl
  rw[es]
  clear es
  generalize(ts.take i).foldl (one (cN n) (bO n) bX) ⟨Y,R,none⟩=s at*
  have hs:=h t tm
  have kk:=en0 l1 hs
  obtain⟨n1,c1,z1⟩:=lH (hs.st)
  have o1:(one (cN n) (bO n) bX s t).Y.length=n+1:=by rw[one_len.1,l1]
  have o2:(one (cN n) (bO n) bX s t).R.length=n+1:=by rw[one_len.2,l2]
  by_cases k:Kp (cN n) (bO n) bX s.Y t
  . have e1:one (cN n) (bO n) bX s t=s:=by unfold one;rw[if_pos k]
    rw[decide_eq_true k]at kk
    rw[e1]
    clear hL et h no el en k e1 o1 o2 hs tm
    walk_at "ev"
    exact⟨_,rfl⟩
  . obtain⟨a,b,c,d,rfl,ha,hb,hd⟩:=hs
    obtain⟨la,pa,na,za,ca⟩:=tZ ha
    obtain⟨lb,pb,nb,zb,cb⟩:=tZ hb
    have qb:=cd2 (Y:=s.Y) (i:=pN n b) (by omega)
    have e1:one (cN n) (bO n) bX s (.tup [a,b,.int c,d])=⟨s.Y.set (pN n a) (gy s.Y (pN n b)-c),s.R.set (pN n a) (some (.tup [a,b,.int c,d])),some (pN n a)⟩:=by unfold one;rw[if_neg k];rfl
    rw[decide_eq_false k]at kk
    rw[e1]at o1 o2⊢
    have x1:rK (n+1) ((pN n a:Nat):Int)=some (pN n a):=dz6 (by omega)
    have x2:(Rt s.R).length=n+1:=by unfold Rt;rw[List.length_map];omega
    have nd:bS d=true/\cG d=true/\frz d=d:=by rcases hd with rfl|⟨i,rfl⟩<;>exact⟨rfl,rfl,rfl⟩
    obtain⟨nd,cd,zd⟩:=nd
    have b0:=@iF T
    have b1:=@iG T
    have b2:=@oS T
    simp only[en1,ew5,xT]
    clear hL et h no el en k e1 tm ha hb hd o1 o2 z1 n1 c1
    walk_at "ev"
    exact⟨_,rfl,by rw[List.length_set];exact l1,by rw[List.length_set];exact l2⟩)
 rw[List.take_length]at*
 have ep:ts.foldl (one (cN n) (bO n) bX) ⟨Y,R,none⟩=wK (cN n) (bO n) bX ts ⟨Y,R,none⟩:=rfl
 rw[ep]
 generalize wK (cN n) (bO n) bX ts ⟨Y,R,none⟩=s at*
 have nx:bS (xT s.x)=true:=by cases s.x<;>rfl
 clear hL h
 walk_at "ev"
def cV(n:Nat)(R:List (Option T))(P:Nat)(m:Nat):T:=(Rt R).getD (it (nx (bO n) R) m P) .non
theorem eb4{R:List (Option T)}{a:Nat}{t:T}(e:R[a]?=some (some t)):atI (Rt R) (a:Int)=some t:=fQ (by unfold Rt;rw[List.getElem?_map,e];rfl)
theorem ae2{R:List (Option T)}{a:Nat}{t:T}(e:R[a]?=some (some t)):(Rt R).getD a .non=t:=by
 unfold Rt
 rw[List.getD_eq_getElem?_getD,List.getElem?_map,e]
 rfl
theorem ao9{n:Nat}{R:List (Option T)}(h:∀t,some t∈R->StepN n t):bA (Rt R)=true/\cT (Rt R)=true/\frzs (Rt R)=Rt R:=by
 unfold Rt
 induction R with
 |nil=>exact⟨rfl,rfl,rfl⟩
 |cons o R ih=>
  obtain⟨i1,i2,i3⟩:=ih λt ht=>h t (List.mem_cons_of_mem _ ht)
  cases o with
  |none=>simp only[List.map_cons,bA,cT,frzs,i1,i2,i3];exact⟨rfl,rfl,rfl⟩
  |some t=>
   obtain⟨n1,c1,z1⟩:=lH (h t List.mem_cons_self).st
   simp only[List.map_cons,bA,cT,frzs,i1,i2,i3,Option.getD_some,n1,c1,z1]
   exact⟨rfl,rfl,trivial⟩
theorem co1{n:Nat}{R:List (Option T)}{a:Nat}{t:T}(h:StepN n t)(e:R[a]?=some (some t)):∃x b c d,t=.tup [x,b,.int c,d]/\eM [b,.int (n:Int)]=.ok (.int ((nx (bO n) R a:Nat):Int))/\bS b=true/\cG b=true/\frz b=b/\bS x=true/\bS d=true/\cG x=true/\cG d=true:=by
 obtain⟨x,b,c,d,rfl,ha,hb,hd⟩:=h
 obtain⟨lb,pb,nb,zb,cb⟩:=tZ hb
 obtain⟨la,pa,na,za,ca⟩:=tZ ha
 have nd:bS d=true/\cG d=true:=by rcases hd with rfl|⟨i,rfl⟩<;>exact⟨rfl,rfl⟩
 refine⟨x,b,c,d,rfl,?_,nb,cb,zb,na,nd.1,ca,nd.2⟩
 have:nx (bO n) R a=pN n b:=by simp only[nx,e];rfl
 rw[this]
 exact pb
theorem ei1{n:Nat}{ts:List T}(h:∀t∈ts,StepN n t){R:List (Option T)}(hr:R.length=n+1)(hR:∀t,some t∈R->StepN n t)(n8:n<=8){a0 P k:Nat}(r:Ring (cN n) (bO n) bX ts n R a0 P k):
 pG [.lst false (Rt R),.int (a0:Int)]=.ok (.lst true ((List.range k).map (cV n R P))):=by
 unfold pG pP
 obtain⟨f1,f2,f3⟩:=ao9 hR
 have lR:(Rt R).length=n+1:=by unfold Rt;rw[List.length_map,hr]
 have en:((n+1:Nat):Int)-1=(n:Int):=by omega
 have rg:-(2^62)<=((n+1:Nat):Int)/\((n+1:Nat):Int)<2^62:=by omega
 have b1:=@iG T
 walk_at "ev"
 generalize hL:dS _ _ _ _=o
 obtain⟨ρ',rfl,o3,rfl⟩:=iX (λi ρ=>∃(o3:Option T),ρ=[some (.lst false (Rt R)),some (.int ((it (nx (bO n) R) i a0:Nat):Int)),some (.int n),o3,none,none]) hL ⟨_,rfl⟩ (by
  rintro i t ρ et ⟨o3,rfl⟩
  clear hL et
  obtain⟨u,eu,ut,us⟩:=r.dfa i
  obtain⟨x,b,c,d,rfl,pb,nb,cb,zb,na,nd,ca,cd⟩:=co1 (h u ut) eu
  have au:=eb4 eu
  rw[yM]
  generalize nx (bO n) R (it (nx (bO n) R) i a0)=N at*
  generalize it (nx (bO n) R) i a0=A at*
  clear r h hR eu ut us
  walk_at "ev"
  exact⟨_,rfl⟩)
 clear hL
 have eP:it (nx (bO n) R) (gZ 0 (((n+1:Nat):Int)).toNat).length a0=P:=by rw[fL,Int.toNat_natCast];exact r.at0
 rw[eP]
 clear eP
 have df:∀m,∃x b c d,atI (Rt R) ((it (nx (bO n) R) m P:Nat):Int)=some (.tup [x,b,.int c,d])/\cV n R P m=.tup [x,b,.int c,d]/\eM [b,.int (n:Int)]=.ok (.int ((it (nx (bO n) R) (m+1) P:Nat):Int))/\bS b=true/\cG b=true/\frz b=b/\bS x=true/\bS d=true/\cG x=true/\cG d=true:=λm=>by
  obtain⟨u,eu,ut,us⟩:=r.df m
  obtain⟨x,b,c,d,rfl,pb,rest⟩:=co1 (h u ut) eu
  exact⟨x,b,c,d,eb4 eu,ae2 eu,by rw[yM];exact pb,rest⟩
 obtain⟨x,b,c,d,q1,q2,q3,q4,q5,q6,q7,q8,q9,q10⟩:=df 0
 have q1:atI (Rt R) ((P:Nat):Int)=some (.tup [x,b,.int c,d]):=q1
 have e0:cV n R P 0=.tup [x,b,.int c,d]:=q2
 have q3:eM [b,.int (n:Int)]=.ok (.int ((it (nx (bO n) R) 1 P:Nat):Int)):=q3
 clear q2
 have er1:(List.range 1).map (cV n R P)=[.tup [x,b,.int c,d]]:=by rw[<-e0];rfl
 clear e0
 have sz:1<=sizeLine:=by have:=sizeLine_eq;omega
 walk_at "ev"
 generalize hW:au1 _ _ _=o
 obtain⟨ρ',m',rfl,⟨j,j1,jk,em,o3',rfl⟩,hc⟩:=cn6 (m:=k-1) (λm ρ=>∃j,1<=j/\j<=k/\m=k-j/\∃(o3:Option T),ρ=[some (.lst false (Rt R)),some (.int ((P:Nat):Int)),some (.int n),o3,some (.lst true ((List.range j).map (cV n R P))),some (.int ((it (nx (bO n) R) j P:Nat):Int))]) hW ⟨1,by omega,r.k1,rfl,o3,by rw[er1]⟩ (by have:=r.kn;omega) (by
  rintro m ρ ⟨j,j1,jk,em,o3,rfl⟩
  obtain⟨x,b,c,d,q1,q2,q3,q4,q5,q6,q7,q8,q9,q10⟩:=df j
  clear hW
  by_cases e:it (nx (bO n) R) j P=P
  . have t1:(((it (nx (bO n) R) j P:Nat):Int)==((P:Nat):Int))=true:=by rw[e];simp
    clear e
    walk_at "ev"
  . have t1:(((it (nx (bO n) R) j P:Nat):Int)==((P:Nat):Int))=false:=by
     rw[beq_eq_false_iff_ne]
     omega
    have hj:j<k:=by
     apply Classical.byContradiction
     intro q
     have:j=k:=by omega
     rw[this]at e
     exact e r.back
    have ll:((List.range j).map (cV n R P)).length<=100000:=by have:=r.kn;rw[List.length_map,List.length_range];omega
    have lz:j<sizeLine:=by have:=sizeLine_eq;have:=r.kn;omega
    have er:(List.range (j+1)).map (cV n R P)=(List.range j).map (cV n R P)++[.tup [x,b,.int c,d]]:=by rw[List.range_succ,List.map_append,<-q2];rfl
    have hlr:(List.range j).length=j:=List.length_range
    clear e q2
    walk_at "ev"
    exact⟨k-(j+1),by omega,j+1,by omega,hj,rfl,o3,by rw[er]⟩)
 have ek:j=k:=by
  apply Classical.byContradiction
  intro q
  have ne:=r.fst j j1 (by omega)
  have t1:(((it (nx (bO n) R) j P:Nat):Int)==((P:Nat):Int))=false:=by rw[beq_eq_false_iff_ne];omega
  have:(Res.ok true:Res Bool)=.ok false:=by
   rw[<-hc]
   clear hc hW
   walk_at "ev"
  cases this
 subst ek
 clear hc hW
 walk_at "ev"
end Nk24
local macro_rules | `(tactic| walk_at "gt") => `(tactic| first | assumption | exact ds0 (by decide) (by decide) | exact br0 (by decide) (by decide) | exact cl4 (by decide) (by decide) | exact cj4 (by decide) (by decide) (by decide) | decide | omega | (refine And.intro ?_ ?_; omega; omega))
local macro_rules | `(tactic| walk_at "ev") => `(tactic| simp (disch := walk_at "gt") only [jA,ah5,av4,aP,bF,bI,cP,cv4,iN,bM,aq1,cg2,aB,dC,aQ,aE,fI,nM,oX,dv4,yZ,dIf,bD,eJ,fF,gY,mY,eY,cQ,aD,aJ,bZ,bE,dBM,qM,iL,gU,gS,gN,dR,cK,aj5,df1,cp4,kills,aI,eI,aX,eO,bQ,cD,mF,cY,frz,frzs,bS,bA,cG,cT,ay2,yA,jK,lG,kJ,jL,tV,oK,iA,ad5,eQ,jP,yW,GoW,ay7,ak1,bm5,bf8,aq7,bg8,bh6,bj6,bg7,bs0,bc5,xO,cj5,ct3,cw4,co3,ca3,co5,cg3,ce2,ck2,cm4,ce4,ag5,ae5,aq5,az4,aw4,ch3,cn2,cw5,cb4,cn5,ct2,ct5,cc3,az7,ci4,dl4,dx0,dw2,cs3,bt4,cs2,ct4,ae1,bn4,aa7,bs4,au7,bk4,bo4,cd3,bc6,at6,bu5,bb5,cg4,cr3,ar5,bm6,bi8,az2,ai3,cu4,cq2,ci3,cw3,cu2,cl3,bq4,cx5,co2,cx4,ck4,cv2,cv5,cj2,cn4,ar1,cu5,cr4,ap4,
 al9,bg0,aq9,ba0,am9,aw9,bi0,ak9,bz4,bw4,bg5,bo7,bo6,fI,wD,bl6,al5,ap9,ab0,zO,frz1,jG,mQ,ai2,ao5,av9,dn0,da3,an3,ag1,cj3,bi5,rX,aq4,tF,yQ,ar9,List.length_map,Option.map_some,Option.isSome_some,List.isEmpty_cons,List.isEmpty_nil,Option.isSome_none,List.map_cons,List.map_nil,List.length_cons,List.length_nil,List.replicate_succ,List.replicate_zero,List.cons_append,List.nil_append,List.set_cons_zero,List.set_cons_succ,List.getElem?_cons_zero,List.getElem?_cons_succ,Nat.reduceAdd,Nat.reduceSub,Bool.not_true,Bool.not_false,Bool.and_true,Bool.true_and,Bool.and_false,Bool.false_and,Bool.or_true,Bool.true_or,Bool.or_false,Bool.false_or,if_true,if_false,Bool.false_eq_true,reduceIte,reduceCtorEq,decide_true,decide_false,and_self,and_true,true_and,Bool.and_self, *])
namespace Nk24
open PySem L2 TL
theorem ar4{α:Type}(x:α):∀n:Nat,(List.replicate n [x]).flatten=List.replicate n x
 |0=>rfl
 |n+1=>by rw[List.replicate_succ,List.flatten_cons,ar4 x n];rfl
theorem ex5{α:Type}(xs:List α)(k:Nat):fH xs (some 0) (some (k:Int))=xs.take k:=by
 have:=xP xs k
 unfold fH at this⊢
 have e:HT.sIx xs.length 0 (some 0)=HT.sIx xs.length 0 none:=by simp[HT.sIx]
 rw[e]
 exact this
def Y0(f:Fm):List Int:=List.replicate f.names.length (f.first-1)++[0]
def S0(f:Fm):Rs T:=⟨Y0 f,List.replicate (f.names.length+1) none,none⟩
def cL(f:Fm)(ts:List T)(i:Nat):Rs T:=aj3 (cN f.names.length) (bO f.names.length) bX ts (S0 f) i
theorem dw4{n:Nat}{ts:List T}:∀{s:Rs T},(ts.foldl (one (cN n) (bO n) bX) s).Y.length=s.Y.length/\(ts.foldl (one (cN n) (bO n) bX) s).R.length=s.R.length:=by
 induction ts with
 |nil=>intro s;exact⟨rfl,rfl⟩
 |cons t ts ih=>
  intro s
  rw[List.foldl_cons,ih.1,ih.2]
  exact one_len
theorem bp0(f:Fm)(ts:List T):∀i,(cL f ts i).Y.length=f.names.length+1/\(cL f ts i).R.length=f.names.length+1
 |0=>by unfold cL aj3 S0 Y0;simp
 |i+1=>by
  have ih:=bp0 f ts i
  have:=dw4 (n:=f.names.length) (ts:=ts) (s:=⟨(cL f ts i).Y,(cL f ts i).R,none⟩)
  exact⟨this.1.trans ih.1,this.2.trans ih.2⟩
theorem cg8{f:Fm}{ts:List T}(h:∀t∈ts,StepN f.names.length t):Iv (cN f.names.length) (bO f.names.length) bX (Y0 f) ts f.names.length (f.names.length+1) ts.length (cL f ts (f.names.length+1)):=
 Iv.runs (λt ht=>aj2 (h t ht)) (by unfold Y0;simp) f.names.length
theorem cp3{f:Fm}{ts:List T}(h:∀t∈ts,StepN f.names.length t):∀i,∀t,some t∈(cL f ts i).R->t∈ts
 |0,t,ht=>by
  unfold cL aj3 S0 at ht
  have:=List.eq_of_mem_replicate ht
  cases this
 |i+1,t,ht=>by
  have key:∀(us:List T)(s:Rs T),(∀u∈us,u∈ts)->(∀t,some t∈s.R->t∈ts)->∀t,some t∈(us.foldl (one (cN f.names.length) (bO f.names.length) bX) s).R->t∈ts:=by
   intro us
   induction us with
   |nil=>exact λs _ hs=>hs
   |cons u us ih=>
    intro s hu hs
    refine ih _ (λv hv=>hu v (List.mem_cons_of_mem _ hv)) λt ht=>?_
    unfold one at ht
    split at ht
    . exact hs t ht
    . rcases List.mem_or_eq_of_mem_set ht with q|q
      . exact hs t q
      . cases q;exact hu u List.mem_cons_self
  exact key ts ⟨(cL f ts i).Y,(cL f ts i).R,none⟩ (λ_ hu=>hu) (λt ht=>cp3 h i t ht) t ht
theorem dg8(n:Nat):Rt (List.replicate n none)=List.replicate n .non:=by unfold Rt;rw[List.map_replicate];rfl
theorem bj8{f:Fm}(g:Gd f){ts:List T}(h:∀t∈ts,StepN f.names.length t):
 ((cL f ts (f.names.length+1)).x=none/\nH [cO false f,.lst false ts]=.ok (.tup [.str "dating",.lst true (((cL f ts (f.names.length+1)).Y.take f.names.length).map .int)]))\/
 ∃a0 P k,(cL f ts (f.names.length+1)).x=some a0/\Ring (cN f.names.length) (bO f.names.length) bX ts f.names.length (cL f ts (f.names.length+1)).R a0 P k/\nH [cO false f,.lst false ts]=.ok (.tup [.str "ring",.lst true ((List.range k).map (cV f.names.length (cL f ts (f.names.length+1)).R P))]):=by
 have iv:=cg8 h
 have rl:=bp0 f ts
 have rR:=cp3 h
 have n8:=g.n8
 have fl:=uU false f
 have ff:=aw5 false f
 have no:=iQ λt ht=>(h t ht).st
 have zs:frzs ts=ts:=lD λt ht=>(h t ht).st
 have hY0:(cL f ts 0).Y.map T.int=List.replicate f.names.length (T.int (f.first-1))++[T.int 0]:=by
  unfold cL aj3 S0 Y0
  rw[List.map_append,List.map_replicate]
  rfl
 have hR0:Rt (cL f ts 0).R=List.replicate (f.names.length+1) T.non:=dg8 _
 have hx0:(cL f ts 0).x=none:=rfl
 obtain⟨o6,loop⟩:∃o6:Option T,dS (aI 6) (yP 5 1 3 4 iZ) (gZ 0 (f.names.length+1)) [some (cO false f),some (.lst false ts),some (.int f.names.length),some (.lst true (List.replicate f.names.length (T.int (f.first-1))++[T.int 0])),some (.lst true (List.replicate (f.names.length+1) T.non)),some .non,none]=.nx [some (cO false f),some (.lst false ts),some (.int f.names.length),some (.lst true ((cL f ts (f.names.length+1)).Y.map .int)),some (.lst true (Rt (cL f ts (f.names.length+1)).R)),some (xT (cL f ts (f.names.length+1)).x),o6]:=by
  generalize hL:dS _ _ _ _=o
  obtain⟨ρ',rfl,o6,rfl⟩:=iX (λi ρ=>∃(o6:Option T),ρ=[some (cO false f),some (.lst false ts),some (.int f.names.length),some (.lst true ((cL f ts i).Y.map .int)),some (.lst true (Rt (cL f ts i).R)),some (xT (cL f ts i).x),o6]) hL ⟨none,by rw[hY0,hR0,hx0];rfl⟩ (by
   rintro i t ρ et ⟨o6,rfl⟩
   have er:=df9 h (rl i).1 (rl i).2
   have es:wK (cN f.names.length) (bO f.names.length) bX ts ⟨(cL f ts i).Y,(cL f ts i).R,none⟩=cL f ts (i+1):=rfl
   rw[es]at er
   obtain⟨f1,f2,f3⟩:=ao9 (n:=f.names.length) (R:=(cL f ts (i+1)).R) λt ht=>h t (rR (i+1) t ht)
   have c1:cT ((cL f ts (i+1)).Y.map T.int)=true:=kJ _
   have cx:cG (xT (cL f ts (i+1)).x)=true/\bS (xT (cL f ts (i+1)).x)=true:=by cases(cL f ts (i+1)).x<;>exact⟨rfl,rfl⟩
   have cc:aw6 iZ 1 3 4 [some (cO false f),some (.lst false ts),some (.int f.names.length),some (.lst true ((cL f ts i).Y.map .int)),some (.lst true (Rt (cL f ts i).R)),some (xT (cL f ts i).x),some t]=some (xT (cL f ts (i+1)).x,.lst true ((cL f ts (i+1)).Y.map .int),.lst true (Rt (cL f ts (i+1)).R)):=by
    have z:frz (.lst false ts)=.lst false ts:=by simp only[frz,zs]
    simp only[aw6,List.getElem?_cons_zero,List.getElem?_cons_succ,z,er,cG,c1,f2,cx.1,cx.2,Bool.and_self,if_true]
   show GoB _ (yP 5 1 3 4 iZ) (some _)
   simp only[GoB,aI,List.set_cons_succ,List.set_cons_zero,yP,cc,Go]
   exact⟨_,rfl⟩)
  rw[fL]
  exact⟨o6,rfl⟩
 have g1:bA [T.int (f.first-1)]=true/\-(2^63)<=(f.names.length:Int)/\(f.names.length:Int)<2^63/\[T.int (f.first-1)].length*((f.names.length:Int)).toNat<=2^24:=⟨rfl,by omega,by omega,by simp;omega⟩
 have g2:bA [T.non]=true/\-(2^63)<=(f.names.length:Int)+1/\(f.names.length:Int)+1<2^63/\[T.non].length*((f.names.length:Int)+1).toNat<=2^24:=⟨rfl,by omega,by omega,by simp;omega⟩
 have m1:uI (.lst true [T.int (f.first-1)]) (.int f.names.length)=.ok (.lst true (List.replicate f.names.length (T.int (f.first-1)))):=by
  simp only[uI]
  rw[jA g1,ar4,Int.toNat_natCast]
 have m2:uI (.lst true [T.non]) (.int ((f.names.length:Int)+1))=.ok (.lst true (List.replicate (f.names.length+1) T.non)):=by
  simp only[uI]
  rw[jA g2,ar4]
  congr
 have nr:bA (List.replicate f.names.length (T.int (f.first-1)))=true:=by rw[kF];simp[bS]
 have a1:bR (.lst true (List.replicate f.names.length (T.int (f.first-1)))) (.lst true [.int 0])=.ok (.lst true (List.replicate f.names.length (T.int (f.first-1))++[T.int 0])):=by
  rw[aq7,jA ⟨by rw[nr];rfl,by have:=sizeLine_eq;simp;omega⟩]
 have sz1:1<=sizeLine:=by have:=sizeLine_eq;omega
 have rg1:lO [.int ((f.names.length:Int)+1)]=.ok (gZ 0 (f.names.length+1)):=by
  rw[bq4,jA ⟨by omega,by omega⟩]
  congr
 have lnames:eU [.lst false (f.names.map T.str)]=.ok (.int f.names.length):=by rw[bt4];simp only[List.length_map]
 clear g1 g2 hY0 hR0 hx0 rl no
 unfold nH rD
 cases hx:(cL f ts (f.names.length+1)).x with
 |none=>
  rw[hx]at loop
  refine .inl ⟨rfl,?_⟩
  have lt:xT none=T.non:=rfl
  rw[lt]at loop
  have cu:fH ((cL f ts (f.names.length+1)).Y.map T.int) (some 0) (some (f.names.length:Int))=((cL f ts (f.names.length+1)).Y.take f.names.length).map T.int:=by rw[ex5,List.map_take]
  clear hx iv rR h zs nr lt n8 g
  generalize cL f ts (f.names.length+1)=s at*
  generalize List.replicate (f.names.length+1) T.non=L2 at*
  walk_at "ev"
 |some a0=>
  obtain⟨P,k,r⟩:=cq1 (λt ht=>aj2 (h t ht)) iv hx
  rw[hx]at loop
  refine .inr ⟨a0,P,k,rfl,r,?_⟩
  have lt:xT (some a0)=T.int a0:=rfl
  rw[lt]at loop
  have er:=ei1 h iv.lr (λt ht=>h t (rR _ t ht)) n8 r
  obtain⟨f1,f2,f3⟩:=ao9 (n:=f.names.length) (R:=(cL f ts (f.names.length+1)).R) λt ht=>h t (rR _ t ht)
  have cr:cT ((List.range k).map (cV f.names.length (cL f ts (f.names.length+1)).R P))=true:=by
   rw[wI,List.all_eq_true]
   intro t ht
   obtain⟨m,_,rfl⟩:=List.mem_map.mp ht
   obtain⟨u,eu,ut,_⟩:=r.df m
   unfold cV
   rw[ae2 eu]
   exact(lH (h u ut).st).2.1
  clear hx iv rR h zs nr lt n8 g r
  generalize cL f ts (f.names.length+1)=s at*
  generalize List.replicate (f.names.length+1) T.non=L2 at*
  walk_at "ev"
def sc(t:T):Prop:=t=.non\/∃i:Int,t=.int i
def wL:T->T->Bool
 |.non,.non=>true
 |.int i,.int j=>i==j
 |_,_=>false
theorem cy1{x y:T}(hx:sc x)(hy:sc y):wL x y=true↔x=y:=by
 rcases hx with rfl|⟨i,rfl⟩<;>rcases hy with rfl|⟨j,rfl⟩<;>simp[wL]
theorem nE{x:T}(hx:sc x):wL x x=true:=(cy1 hx hx).mpr rfl
theorem yS{x y:T}(hx:sc x)(hy:sc y):∀m,oO m x y=some (wL x y)
 |0=>by rcases hx with rfl|⟨i,rfl⟩<;>rcases hy with rfl|⟨j,rfl⟩<;>rfl
 |m+1=>by rcases hx with rfl|⟨i,rfl⟩<;>rcases hy with rfl|⟨j,rfl⟩<;>rfl
theorem ea5{x y:T}(hx:sc x)(hy:sc y):qE x y=.ok (.bl (!wL x y)):=by
 rcases hx with rfl|⟨i,rfl⟩<;>rcases hy with rfl|⟨j,rfl⟩<;>rfl
theorem em6{x y:T}(hx:sc x)(hy:sc y):eS x y=.ok (.bl (wL x y)):=by
 rcases hx with rfl|⟨i,rfl⟩<;>rcases hy with rfl|⟨j,rfl⟩<;>rfl
theorem bo0{t:T}(ht:sc t):∀us:List T,(∀u∈us,sc u)->sD t us=some (us.map λu=>wL u t)
 |[],_=>rfl
 |u::us,h=>by
  rw[sD,yS (h u List.mem_cons_self) ht,bo0 ht us λv hv=>h v (List.mem_cons_of_mem _ hv)]
  rfl
theorem cx8{t:T}(ht:sc t){us:List T}(h:∀u∈us,sc u):((us.map λu=>wL u t).any id=true)↔t∈us:=by
 rw[List.any_map,List.any_eq_true]
 constructor
 . rintro⟨u,hu,e⟩
   rw[<-(cy1 (h u hu) ht).mp e]
   exact hu
 . exact λhu=>⟨t,hu,nE ht⟩
theorem pC{n:Nat}{a:T}(h:Pl n a):sc a:=h.imp_right λ⟨i,_,e⟩=>⟨_,e⟩
theorem tO(m:Nat)(x y:T)(xs ys:List T):pT m (x::xs) (y::ys)=(oO m x y).bind λb=>(pT m xs ys).map λes=>b::es:=by rw[pT]
theorem bh5(m:Nat):pT m [] []=some []:=by rw[pT];intros;simp_all
theorem di7(m:Nat)(xs ys:List T):oO (m+1) (.tup xs) (.tup ys)=(pT m xs ys).map λes=>es.all id&&xs.length==ys.length:=by rw[oO]
theorem de3{n m:Nat}{t u:T}(ht:StepN n t)(hu:StepN n u):∃b,oO (m+1) u t=some b/\(u=t->b=true):=by
 obtain⟨a,b,c,d,rfl,ha,hb,hd⟩:=ht
 obtain⟨a',b',c',d',rfl,ha',hb',hd'⟩:=hu
 refine⟨[wL a' a,wL b' b,wL (.int c') (.int c),wL d' d].all id&&[a',b',T.int c',d'].length==[a,b,T.int c,d].length,?_,λe=>?_⟩
 . rw[di7,tO,tO,tO,tO,bh5,yS (pC ha') (pC ha),yS (pC hb') (pC hb),yS (.inr ⟨c',rfl⟩) (.inr ⟨c,rfl⟩),yS hd' hd]
   rfl
 . cases e
   have e1:=nE (pC ha)
   have e2:=nE (pC hb)
   have e3:=nE (x:=.int c) (.inr ⟨c,rfl⟩)
   have e4:=nE hd
   simp only[List.all_cons,List.all_nil,id,e1,e2,e3,e4,Bool.and_self,List.length_cons,List.length_nil]
   rfl
theorem bu2{n:Nat}{t:T}(ht:StepN n t):∀us:List T,(∀u∈us,StepN n u)->∃es,sD t us=some es/\(t∈us->es.any id=true)
 |[],_=>⟨[],rfl,λh=>by cases h⟩
 |u::us,h=>by
  obtain⟨es,e1,e2⟩:=bu2 ht us λv hv=>h v (List.mem_cons_of_mem _ hv)
  obtain⟨b,b1,b2⟩:=de3 (m:=cX-1) ht (h u List.mem_cons_self)
  have b1:oO cX u t=some b:=b1
  refine⟨b::es,by rw[sD,b1,e1];rfl,λhm=>?_⟩
  rw[List.any_cons]
  rcases List.mem_cons.mp hm with q|q
  . rw[b2 q.symm];rfl
  . rw[e2 q,Bool.or_true]
theorem xI(x:Int):iK [.int x]=.ok (.bl true):=by
 unfold iK tD
 walk_at "ev"
theorem aj7{n:Nat}{t:T}{ts:List T}(h:∀u∈ts,StepN n u)(ht:t∈ts):jD [t,.lst false ts]=.ok (.bl true):=by
 have st:=h t ht
 obtain⟨es,e1,e2⟩:=bu2 st ts h
 have e2:=e2 ht
 have ei:inT false t (.lst false ts)=.ok (.bl true):=by
  rw[inT.eq_1,e1]
  . simp[e2]
 obtain⟨n1,c1,z1⟩:=lH st.st
 have no:=iQ λt ht=>(h t ht).st
 obtain⟨a,b,c,d,rfl,ha,hb,hd⟩:=st
 unfold jD pO
 have b0:=@iF T
 have b1:=@iG T
 have b2:=@oS T
 have b3:=@vZ T
 have kw:=xI c
 have sz3:3<=sizeLine:=by have:=sizeLine_eq;omega
 have t4:(((4:Nat):Int)==4)=true:=rfl
 have body:∀(x:T),sc x->∀o2:Option T,(cP (gY (bD (aE hV (aB 2) (dC .non))) (fF (eJ (bE 1 iK (aD (aB 2) aJ))))) (bI [] (dC (.bl false))) bM) [some (.tup [a,b,.int c,d]),some (.lst false ts),some x]=.nx [some (.tup [a,b,.int c,d]),some (.lst false ts),some x]:=by
  intro x hx o2
  rcases hx with rfl|⟨i,rfl⟩
  . clear ei e1 e2 h ht z1 n1 c1 no kw ha hb hd
    walk_at "ev"
  . have kw2:=xI i
    clear ei e1 e2 h ht z1 n1 c1 no kw ha hb hd
    walk_at "ev"
 have na:bS a=true/\cG a=true/\frz a=a:=by rcases ha with rfl|⟨i,_,rfl⟩<;>exact⟨rfl,rfl,rfl⟩
 have nb:bS b=true/\cG b=true/\frz b=b:=by rcases hb with rfl|⟨i,_,rfl⟩<;>exact⟨rfl,rfl,rfl⟩
 have nd:bS d=true/\cG d=true/\frz d=d:=by rcases hd with rfl|⟨i,rfl⟩<;>exact⟨rfl,rfl,rfl⟩
 obtain⟨na,ca,za⟩:=na
 obtain⟨nb,cb,zb⟩:=nb
 obtain⟨nd,cd,zd⟩:=nd
 have loop:dS (aI 2) (cP (gY (bD (aE hV (aB 2) (dC .non))) (fF (eJ (bE 1 iK (aD (aB 2) aJ))))) (bI [] (dC (.bl false))) bM) [a,b,d] [some (.tup [a,b,.int c,d]),some (.lst false ts),none]=.nx [some (.tup [a,b,.int c,d]),some (.lst false ts),some d]:=by
  have q1:=body a (pC ha) none
  have q2:=body b (pC hb) none
  have q3:=body d hd none
  simp only[dS,aI,List.set_cons_succ,List.set_cons_zero,q1,q2,q3]
 clear body e1 e2 h ht z1 n1 c1 ha hb hd
 walk_at "ev"
def sA:T->T
 |.tup (a::_)=>a
 |_=>.non
def sB:T->T
 |.tup (_::b::_)=>b
 |_=>.non
def Ch:T->List T->T->Prop
 |x,[],y=>x=y
 |x,t::r,y=>sA t=x/\Ch (sB t) r y
theorem eb3{n:Nat}{a b:T}(ha:Pl n a)(hb:Pl n b)(e:pN n a=pN n b):a=b:=by
 rcases ha with rfl|⟨i,hi,rfl⟩<;>rcases hb with rfl|⟨j,hj,rfl⟩
 . rfl
 . simp[pN]at e;omega
 . simp[pN]at e;omega
 . simp[pN]at e;rw[e]
theorem pE{n:Nat}{t:T}(h:StepN n t):Pl n (sA t)/\Pl n (sB t)/\cN n t=pN n (sA t)/\bO n t=pN n (sB t)/\∃d,t=.tup [sA t,sB t,.int (bX t),d]/\sc d:=by
 obtain⟨a,b,c,d,rfl,ha,hb,hd⟩:=h
 exact⟨ha,hb,rfl,rfl,d,rfl,hd⟩
theorem cv0{r:Nat->T}(h:∀m,sB (r m)=sA (r (m+1))):∀(j m:Nat),Ch (sA (r m)) ((List.range j).map λi=>r (m+i)) (sA (r (m+j)))
 |0,m=>rfl
 |j+1,m=>by
  rw[List.range_succ_eq_map,List.map_cons,List.map_map]
  refine⟨rfl,?_⟩
  have:=cv0 h j (m+1)
  rw[show m+1+j=m+(j+1) by omega]at this
  rw[show sB (r (m+0))=sA (r (m+1)) from h m]
  have e:((List.range j).map λi=>r (m+1+i))=(List.range j).map ((λi=>r (m+i))∘Nat.succ):=List.map_congr_left λi _=>by show r _=r _;congr 1;omega
  rw[<-e]
  exact this
theorem ai7{n:Nat}{y:T}{a0 a1 a2 a3:Option T}:∀(rs:List T)(x:T)(o5:Option T),(∀t∈rs,StepN n t)->sc x->Ch x rs y->∃o5',dS (aI 5) (aP (cP (bD (aE qE (aE aR (aB 5) (dC (.int 0))) (aB 4))) (bI [] (dC (.bl false))) bM) (bF [] (aQ (aE aR (aB 5) (dC (.int 1)))) (aI 4))) rs [a0,a1,a2,a3,some x,o5]=.nx [a0,a1,a2,a3,some y,o5']
 |[],x,o5,_,_,e=>⟨o5,by rw[<-show x=y from e];rfl⟩
 |t::rs,x,o5,h,hx,c=>by
  obtain⟨h1,h2,_,_,d,et,hd⟩:=pE (h t List.mem_cons_self)
  obtain⟨c1,c2⟩:=c
  obtain⟨o5',ih⟩:=ai7 (a0:=a0) (a1:=a1) (a2:=a2) (a3:=a3) rs (sB t) (some t) (λu hu=>h u (List.mem_cons_of_mem _ hu)) (pC h2) c2
  refine⟨o5',?_⟩
  have one:(aP (cP (bD (aE qE (aE aR (aB 5) (dC (.int 0))) (aB 4))) (bI [] (dC (.bl false))) bM) (bF [] (aQ (aE aR (aB 5) (dC (.int 1)))) (aI 4))) [a0,a1,a2,a3,some x,some t]=.nx [a0,a1,a2,a3,some (sB t),some t]:=by
   have q1:atI [sA t,sB t,.int (bX t),d] 0=some (sA t):=iF _ _
   have q2:atI [sA t,sB t,.int (bX t),d] 1=some (sB t):=iG _ _ _
   have q3:qE x x=.ok (.bl false):=by rw[ea5 hx hx,nE hx];rfl
   have q4:bS (sB t)=true:=by rcases h2 with e|⟨i,_,e⟩<;>rw[e]<;>rfl
   rw[c1]at q1 q2 et
   generalize sB t=B at*
   generalize bX t=C at*
   subst et
   clear ih h h1 h2 c1 c2 hd hx
   walk_at "ev"
  simp only[dS,aI,List.set_cons_succ,List.set_cons_zero,one]
  exact ih
theorem br9{n:Nat}{ts rs:List T}(h:∀u∈ts,StepN n u)(hr:∀t∈rs,t∈ts)(hl:rs.length<=100){x:T}(hx:sc x)(c:Ch x rs x):nV [.lst false rs,.lst false ts,x,x]=.ok (.bl true):=by
 unfold nV nX
 have hR:∀t∈rs,StepN n t:=λt ht=>h t (hr t ht)
 have no:=iQ λt ht=>(h t ht).st
 have nr:=iQ λt ht=>(hR t ht).st
 have zs:frzs ts=ts:=lD λt ht=>(h t ht).st
 have zr:frzs rs=rs:=lD λt ht=>(hR t ht).st
 have nx:bS x=true/\frz x=x:=by rcases hx with e|⟨i,e⟩<;>rw[e]<;>exact⟨rfl,rfl⟩
 obtain⟨nx,zx⟩:=nx
 have hc:cM (aI 5) cK (bE 2 jD (aD (aB 5) (aD (aB 1) aJ))) [some (.lst false rs),some (.lst false ts),some x,some x,none,none] rs=.ok (rs.map λ_=>T.bl true):=by
  have q:=eK (k:=5) (d:=(bE 2 jD (aD (aB 5) (aD (aB 1) aJ)))) (ρ:=[some (.lst false rs),some (.lst false ts),some x,some x,none,none]) (g:=id) (f:=λ_=>T.bl true) (l:=rs) (λt ht=>by
   have kk:=aj7 h (hr t ht)
   obtain⟨n1,c1,z1⟩:=lH (hR t ht).st
   simp only[id]
   clear h hr hR c hx
   walk_at "ev")
  rwa[List.map_id]at q
 have al:kU false [.lst true (rs.map λ_=>T.bl true)]=.ok (.bl true):=by
  have e:(rs.map λ_=>T.bl true)=(rs.map λ_=>true).map T.bl:=by simp
  rw[e,at6]
  simp
 obtain⟨o5,lp⟩:=ai7 (a0:=some (.lst false rs)) (a1:=some (.lst false ts)) (a2:=some x) (a3:=some x) rs x none hR hx c
 have ee:eS x x=.ok (.bl true):=by rw[em6 hx hx,nE hx]
 have l1:rs.length<=100000:=by omega
 have l2:rs.length<=sizeLine:=by have:=sizeLine_eq;omega
 clear h hr hR c hx hl
 walk_at "ev"
theorem ct7{n:Nat}{R:List (Option T)}:∀(k a:Nat),(∀m,m<k->∃t,R[it (nx (bO n) R) m a]?=some (some t))->((List.range k).map λm=>bX (cV n R a m)).sum=cs (bO n) bX R k a
 |0,a,_=>rfl
 |k+1,a,h=>by
  obtain⟨t,et⟩:=h 0 (by omega)
  have et:R[a]?=some (some t):=et
  have ih:=ct7 k (nx (bO n) R a) (λm hm=>h (m+1) (by omega))
  rw[List.range_succ_eq_map,List.map_cons,List.map_map,List.sum_cons]
  have e0:cV n R a 0=t:=ae2 et
  have e1:((List.range k).map ((λm=>bX (cV n R a m))∘Nat.succ))=(List.range k).map λm=>bX (cV n R (nx (bO n) R a) m):=rfl
  rw[e0,e1,ih]
  simp only[cs,et]
theorem dp7{n:Nat}{ts:List T}{R:List (Option T)}{a0 P k:Nat}(r:Ring (cN n) (bO n) bX ts n R a0 P k){i j:Nat}(hij:i<j)(hj:j<k):it (nx (bO n) R) i P≠it (nx (bO n) R) j P:=λe=>by
 have e1:it (nx (bO n) R) (k-j+j) P=P:=by rw[show k-j+j=k by omega];exact r.back
 rw[tT,<-e,<-tT]at e1
 exact r.fst (k-j+i) (by omega) (by omega) e1
theorem cq3{n:Nat}{ts:List T}(h:∀u∈ts,StepN n u){R:List (Option T)}{a0 P k:Nat}(n8:n<=8)(r:Ring (cN n) (bO n) bX ts n R a0 P k):pF [.lst false ((List.range k).map (cV n R P)),.lst false ts]=.ok (.bl true):=by
 have kn:=r.kn
 have k1:=r.k1
 have fact:∀m,cV n R P m∈ts/\cN n (cV n R P m)=it (nx (bO n) R) m P/\bO n (cV n R P m)=it (nx (bO n) R) (m+1) P:=λm=>by
  obtain⟨u,eu,ut,us⟩:=r.df m
  have e:cV n R P m=u:=ae2 eu
  rw[e,yM]
  exact⟨ut,us,by simp only[nx,eu]⟩
 have hq:∀m,StepN n (cV n R P m):=λm=>h _ (fact m).1
 have link:∀m,sB (cV n R P m)=sA (cV n R P (m+1)):=λm=>by
  obtain⟨p1,p2,p3,p4,_⟩:=pE (hq m)
  obtain⟨q1,q2,q3,q4,_⟩:=pE (hq (m+1))
  refine eb3 p2 q1 ?_
  rw[<-p4,<-q3,(fact m).2.2,(fact (m+1)).2.1]
 have e0k:cV n R P k=cV n R P 0:=by
  unfold cV
  rw[r.back]
  rfl
 have ch:Ch (sA (cV n R P 0)) ((List.range k).map (cV n R P)) (sA (cV n R P 0)):=by
  have:=cv0 (r:=cV n R P) link k 0
  simp only[Nat.zero_add,e0k]at this
  exact this
 obtain⟨rs,hrs⟩:∃rs,(List.range k).map (cV n R P)=rs:=⟨_,rfl⟩
 have lrs:rs.length=k:=by rw[<-hrs];simp
 have mem:∀t∈rs,t∈ts:=λt ht=>by
  rw[<-hrs]at ht
  obtain⟨m,_,rfl⟩:=List.mem_map.mp ht
  exact(fact m).1
 have s0:=(pE (hq 0)).1
 have kc:=br9 h mem (by omega) (pC s0) (by rw[<-hrs];exact ch)
 have ks:=aj7 h (fact 0).1
 have a0':atI rs 0=some (cV n R P 0):=by
  have:rs[0]?=some (cV n R P 0):=by rw[<-hrs,List.getElem?_map,List.getElem?_range (by omega)];rfl
  exact fQ (j:=0) this
 have mS:∀t∈rs,StepN n t:=λt ht=>h t (mem t ht)
 have nr:=iQ λt ht=>(mS t ht).st
 have no:=iQ λt ht=>(h t ht).st
 have zs:frzs ts=ts:=lD λt ht=>(h t ht).st
 have zr:frzs rs=rs:=lD λt ht=>(mS t ht).st
 have c1:∀o2 o4:Option T,cM (aI 3) cK (aQ (aE aR (aB 3) (dC (.int 0)))) [some (.lst false rs),some (.lst false ts),o2,none,o4] rs=.ok (rs.map sA):=λo2 o4=>by
  have q:=eK (k:=3) (d:=(aQ (aE aR (aB 3) (dC (.int 0))))) (ρ:=[some (.lst false rs),some (.lst false ts),o2,none,o4]) (g:=id) (f:=sA) (l:=rs) (λt ht=>by
   obtain⟨p1,_,_,_,d,et,_⟩:=pE (mS t ht)
   have q1:atI [sA t,sB t,.int (bX t),d] 0=some (sA t):=iF _ _
   have q4:bS (sA t)=true:=by rcases p1 with e|⟨i,_,e⟩<;>rw[e]<;>rfl
   simp only[id]
   generalize sA t=A at*
   generalize sB t=B at*
   generalize bX t=C at*
   subst et
   clear ht kc ks a0' p1 ch
   walk_at "ev")
  rwa[List.map_id]at q
 have c3:∀o2 o4:Option T,cM (aI 3) cK (aQ (aE aR (aB 3) (dC (.int 2)))) [some (.lst false rs),some (.lst false ts),o2,none,o4] rs=.ok ((rs.map bX).map .int):=λo2 o4=>by
  have q:=eK (k:=3) (d:=(aQ (aE aR (aB 3) (dC (.int 2))))) (ρ:=[some (.lst false rs),some (.lst false ts),o2,none,o4]) (g:=id) (f:=λt=>T.int (bX t)) (l:=rs) (λt ht=>by
   obtain⟨p1,_,_,_,d,et,_⟩:=pE (mS t ht)
   have q1:atI [sA t,sB t,.int (bX t),d] 2=some (.int (bX t)):=oS _ _ _ _
   simp only[id]
   generalize sA t=A at*
   generalize sB t=B at*
   generalize bX t=C at*
   subst et
   clear ht kc ks a0' p1 ch
   walk_at "ev")
  rw[List.map_id]at q
  rw[q,List.map_map]
  rfl
 have nS:bA (rs.map sA)=true:=by
  rw[kF,List.all_map,List.all_eq_true]
  intro t ht
  rcases(pE (mS t ht)).1 with e|⟨i,_,e⟩<;>simp[e,bS]
 have scS:∀u∈rs.map sA,sc u:=λu hu=>by
  obtain⟨t,ht,rfl⟩:=List.mem_map.mp hu
  exact pC (pE (mS t ht)).1
 have atS:∀i,i<k->(rs.map sA)[i]?=some (sA (cV n R P i)):=λi hi=>by
  rw[<-hrs,List.map_map,List.getElem?_map,List.getElem?_range hi]
  rfl
 have c2:∀o3:Option T,cM (aI 4) cK (aE (inT false) (aE aR (aB 2) (aB 4)) (qM oQ (aB 2) gU (iL (aB 4)))) [some (.lst false rs),some (.lst false ts),some (.lst true (rs.map sA)),o3,none] (gZ 0 k)=.ok ((List.range k).map λ_=>T.bl false):=λo3=>by
  unfold gZ
  refine eK λi hi=>?_
  have hi:=List.mem_range.mp hi
  have ai:atI (rs.map sA) (0+(i:Int))=some (sA (cV n R P i)):=by rw[Int.zero_add];exact fQ (atS i hi)
  have cu:fH (rs.map sA) none (some (0+(i:Int)))=(rs.map sA).take i:=by rw[Int.zero_add];exact xP _ _
  have si:sc (sA (cV n R P i)):=pC (pE (hq i)).1
  have ei:inT false (sA (cV n R P i)) (.lst true ((rs.map sA).take i))=.ok (.bl false):=by
   have e1:=bo0 si ((rs.map sA).take i) λu hu=>scS u (List.mem_of_mem_take hu)
   have e2:(((rs.map sA).take i).map λu=>wL u (sA (cV n R P i))).any id=false:=by
    rw[Bool.eq_false_iff]
    intro q
    have hm:=(cx8 si λu hu=>scS u (List.mem_of_mem_take hu)).mp q
    obtain⟨j,e⟩:=List.mem_iff_getElem?.mp hm
    have hj:j<i:=by
     have:=(List.getElem?_eq_some_iff.mp e).1
     rw[List.length_take]at this
     omega
    rw[List.getElem?_take_of_lt hj,atS j (by omega)]at e
    have e:=Option.some.inj e
    refine dp7 r hj hi ?_
    rw[<-(fact j).2.1,<-(fact i).2.1,(pE (hq j)).2.2.1,(pE (hq i)).2.2.1,e]
   rcases si with e|⟨x,e⟩
   all_goals
    rw[e]at e1 e2⊢
    simp only[inT,e1,e2]
    rfl
  clear kc ks a0' ch c1 c3 si
  generalize sA (cV n R P i)=A at*
  walk_at "ev"
 have an:kU true [.lst true ((List.range k).map λ_=>T.bl false)]=.ok (.bl false):=by
  have e:((List.range k).map λ_=>T.bl false)=((List.range k).map λ_=>false).map T.bl:=by rw[List.map_map];rfl
  rw[e]
  simp only[kU,ax0]
  simp
 have sneg:(rs.map bX).sum<0:=by
  have:=ct7 (n:=n) (R:=R) k P (λm _=>by obtain⟨t,et,_⟩:=r.df m;exact⟨t,et⟩)
  have e:rs.map bX=(List.range k).map λm=>bX (cV n R P m):=by rw[<-hrs,List.map_map];rfl
  rw[e,this]
  exact r.neg
 have dneg:decide ((rs.map bX).sum<0)=true:=decide_eq_true sneg
 have enil:eS (.lst false rs) (.lst true [])=.ok (.bl false):=by
  cases rs with
  |nil=>simp at lrs;omega
  |cons t rs=>rfl
 rw[hrs]
 have l1:rs.length<=100000:=by omega
 have lz:rs.length<=sizeLine:=by have:=sizeLine_eq;omega
 have rg:-(2^62)<=(k:Int)/\(k:Int)<2^62:=by omega
 have tk:(k:Int).toNat=k:=by omega
 have li:=fL 0 k
 have lk:k<=sizeLine:=by have:=sizeLine_eq;omega
 obtain⟨p1,p2,_,_,d,et,hd⟩:=pE (hq 0)
 have q1:atI [sA (cV n R P 0),sB (cV n R P 0),.int (bX (cV n R P 0)),d] 0=some (sA (cV n R P 0)):=iF _ _
 have nA:bS (sA (cV n R P 0))=true/\frz (sA (cV n R P 0))=sA (cV n R P 0):=by rcases p1 with e|⟨i,_,e⟩<;>rw[e]<;>exact⟨rfl,rfl⟩
 obtain⟨nA,zA⟩:=nA
 obtain⟨n1,_,z1⟩:=lH (hq 0).st
 generalize hq0:cV n R P 0=q0 at*
 have ixq:aR q0 (.int 0)=.ok (sA q0):=by
  rw[et]
  simp only[az7]
  rw[show atI [sA q0,sB q0,T.int (bX q0),d] 0=some (sA q0) from q1]
  rfl
 unfold pF pI
 have b0:=a0'
 clear a0' et hq0 fact hq link e0k ch mem mS scS atS sneg h r hd p1 p2 q1 s0 hrs n8 kn k1
 walk_at "ev"
theorem cr9{n:Nat}{Y:List Int}(hy:Y.length=n+1)(h0:gy Y n=0){a:T}(h:Pl n a):uE (Y.take n) a=gy Y (pN n a):=by
 rcases h with rfl|⟨i,hi,rfl⟩
 . exact h0.symm
 . simp only[uE,pN,gy,Int.toNat_natCast,List.getD_eq_getElem?_getD,List.getElem?_take_of_lt hi]
theorem dd7{n:Nat}{Y:List Int}(hy:Y.length=n+1)(h0:gy Y n=0){t:T}(h:StepN n t)(k:Kp (cN n) (bO n) bX Y t):kept (Y.take n) t=true:=by
 obtain⟨a,b,c,d,rfl,ha,hb,hd⟩:=h
 simp only[kept]
 rw[cr9 hy h0 ha,cr9 hy h0 hb]
 exact decide_eq_true k
theorem bm7{n:Nat}{ts:List T}(h:∀u∈ts,StepN n u){ys:List Int}(yl:ys.length=n)(n8:n<=8)(hk:∀t∈ts,kept ys t=true):mP [.lst false (ys.map .int),.int (n:Int),.lst false ts]=.ok (.bl true):=by
 unfold mP mT
 have kh:=bo9 (ys:=ys) (ts:=ts) (by rw[yl];exact h)
 have ek:ts.all (kept ys)=true:=List.all_eq_true.mpr hk
 rw[ek]at kh
 have zs:frzs ts=ts:=lD λt ht=>(h t ht).st
 have hc:cM (aI 3) cK (bE 1 iK (aD (aB 3) aJ)) [some (.lst false (ys.map .int)),some (.int n),some (.lst false ts),none] (ys.map .int)=.ok (ys.map λ_=>T.bl true):=by
  refine eK λy _=>?_
  have kw:=xI y
  clear kh
  walk_at "ev"
 have al:=sH true ys
 have ll:ys.length<=100000:=by omega
 have nn:((n:Int)==(n:Int))=true:=by simp
 clear h hk ek n8
 subst yl
 walk_at "ev"
def fN:T->T
 |.tup [a,b,c,d]=>.tup [b,a,c,d]
 |t=>t
theorem do1{n:Nat}{ts:List T}(h:∀u∈ts,StepN n u)(hl:ts.length<=100000):rY [.lst false ts]=.ok (.lst true (ts.map fN)):=by
 unfold rY qW
 have hc:cM (eI (aX (aI 1) (aX (aI 2) (aX (aI 3) (aX (aI 4) eO))))) cK (cQ (aD (aQ (aB 2)) (aD (aQ (aB 1)) (aD (aQ (aB 3)) (aD (aQ (aB 4)) aJ))))) [some (.lst false ts),none,none,none,none] ts=.ok (ts.map fN):=by
  have q:=kY (b:=eI (aX (aI 1) (aX (aI 2) (aX (aI 3) (aX (aI 4) eO))))) (c:=cK) (d:=(cQ (aD (aQ (aB 2)) (aD (aQ (aB 1)) (aD (aQ (aB 3)) (aD (aQ (aB 4)) aJ)))))) (ρ:=[some (.lst false ts),none,none,none,none]) (g:=id) (f:=fN) (l:=ts) (λt ht=>by
   obtain⟨a,b,c,d,rfl,ha,hb,hd⟩:=h t ht
   have na:bS a=true:=by rcases ha with rfl|⟨i,_,rfl⟩<;>rfl
   have nb:bS b=true:=by rcases hb with rfl|⟨i,_,rfl⟩<;>rfl
   have nd:bS d=true:=by rcases hd with rfl|⟨i,rfl⟩<;>rfl
   have sz4:4<=sizeLine:=by have:=sizeLine_eq;omega
   simp only[id,fN]
   clear h ht ha hb hd
   walk_at "ev")
  rwa[List.map_id]at q
 have no:=iQ λt ht=>(h t ht).st
 have sz:ts.length<=sizeLine:=by have:=sizeLine_eq;omega
 clear h
 walk_at "ev"
section
variable {α : Type} (src dst : α → Nat) (cst : α → Int) (Y : List Int)
def mW(F:List Nat)(t:α):List Nat:=if dst t∈F/\src t∉F/\gy Y (src t)=gy Y (dst t)-cst t then F++[src t]else F
variable {src dst cst Y}
theorem cw1{F:List Nat}{t:α}:∀a∈F,a∈mW src dst cst Y F t:=λa ha=>by
 unfold mW
 split
 . exact List.mem_append_left _ ha
 . exact ha
theorem ai5:∀(us:List α)(F:List Nat),(∀a∈F,a∈us.foldl (mW src dst cst Y) F)/\F.length<=(us.foldl (mW src dst cst Y) F).length
 |[],F=>⟨λ_ h=>h,Nat.le_refl _⟩
 |u::us,F=>by
  obtain⟨h1,h2⟩:=ai5 us (mW src dst cst Y F u)
  refine⟨λa ha=>h1 a (cw1 a ha),Nat.le_trans ?_ h2⟩
  unfold mW
  split
  . simp
  . exact Nat.le_refl _
theorem bl5:∀(us:List α)(F:List Nat){t:α},t∈us->dst t∈F->gy Y (src t)=gy Y (dst t)-cst t->src t∈us.foldl (mW src dst cst Y) F
 |u::us,F,t,h,hd,e=>by
  rcases List.mem_cons.mp h with rfl|h
  . refine(ai5 us _).1 _ ?_
    unfold mW
    split
    . exact List.mem_append_right _ (List.mem_singleton.mpr rfl)
    . next q=>
      apply Classical.byContradiction
      intro z
      exact q ⟨hd,z,e⟩
  . exact bl5 us _ h (cw1 _ hd) e
theorem ay9{n:Nat}:∀(us:List α)(F:List Nat),(∀t∈us,src t<=n)->F.Nodup->(∀a∈F,a<=n)->(us.foldl (mW src dst cst Y) F).Nodup/\∀a∈us.foldl (mW src dst cst Y) F,a<=n
 |[],F,_,h1,h2=>⟨h1,h2⟩
 |u::us,F,hs,h1,h2=>by
  refine ay9 us _ (λt ht=>hs t (List.mem_cons_of_mem _ ht)) ?_ ?_
  . unfold mW
    split
    . next q=>
      rw[List.nodup_append]
      exact⟨h1,by simp,λa ha b hb e=>by rw[List.mem_singleton.mp hb]at e;exact q.2.1 (e▸ha)⟩
    . exact h1
  . unfold mW
    split
    . intro a ha
      rcases List.mem_append.mp ha with q|q
      . exact h2 a q
      . rw[List.mem_singleton.mp q];exact hs u List.mem_cons_self
    . exact h2
end
theorem cl0:∀(m:Nat)(F:List Nat),(∀a,a<m->a∈F)->m<=F.length
 |0,_,_=>Nat.zero_le _
 |m+1,F,h=>by
  have hm:=h m (Nat.lt_succ_self _)
  have:=cl0 m (F.erase m) λa ha=>(List.mem_erase_of_ne (by omega)).mpr (h a (by omega))
  rw[List.length_erase_of_mem hm]at this
  have:0<F.length:=List.length_pos_of_mem hm
  omega
theorem es7{n:Nat}{F:List Nat}(h:F.length<=n):∃a,a<=n/\a∉F:=by
 apply Classical.byContradiction
 intro q
 have:=cl0 (n+1) F λa ha=>Classical.byContradiction λz=>q ⟨a,by omega,z⟩
 omega
def fT(F:List Nat):List T:=F.map λ(a:Nat)=>T.int (a:Int)
theorem dw5(F:List Nat):∀u∈fT F,sc u:=λu hu=>by
 obtain⟨a,_,rfl⟩:=List.mem_map.mp hu
 exact .inr ⟨_,rfl⟩
theorem ee2{F:List Nat}{a:Nat}:T.int (a:Int)∈fT F↔a∈F:=by
 unfold fT
 rw[List.mem_map]
 constructor
 . rintro⟨b,hb,e⟩
   have:(b:Int)=(a:Int):=by injection e
   have:b=a:=by omega
   exact this▸hb
 . exact λh=>⟨a,h,rfl⟩
theorem ek3(neg o:Bool)(F:List Nat)(a:Nat):inT neg (.int (a:Int)) (.lst o (fT F))=.ok (.bl (if neg=true then !decide (a∈F)else decide (a∈F))):=by
 have e1:=bo0 (t:=.int (a:Int)) (.inr ⟨_,rfl⟩) (fT F) (dw5 F)
 have e2:((fT F).map λu=>wL u (.int (a:Int))).any id=decide (a∈F):=by
  rw[Bool.eq_iff_iff,cx8 (.inr ⟨_,rfl⟩) (dw5 F),ee2,decide_eq_true_iff]
 simp only[inT,e1,e2]
theorem bt6{n:Nat}{a:T}(h:Pl n a):kN [a,.int (n:Int)]=.ok (.int ((pN n a:Nat):Int)):=by
 unfold kN sU
 rcases h with rfl|⟨i,hi,rfl⟩
 . walk_at "ev"
   rfl
 . walk_at "ev"
   simp[pN]
def lX(n:Nat)(Y:List Int):List Int:=(Y.take n).map (λy=>0-y)++[0]
theorem cj7{n:Nat}{Y:List Int}(hy:Y.length=n+1)(h0:gy Y n=0){i:Nat}(hi:i<=n):atI ((lX n Y).map T.int) (i:Int)=some (.int (0-gy Y i)):=by
 have ll:(lX n Y).length=n+1:=by unfold lX;simp[hy]
 have:=nK (xs:=lX n Y) (i:=i) (by omega)
 rw[this]
 congr 2
 unfold lX
 by_cases e:i<n
 . rw[List.getD_eq_getElem?_getD,List.getElem?_append_left (by simp[hy];omega),List.getElem?_map,List.getElem?_take_of_lt e,List.getElem?_eq_getElem (by omega)]
   simp[gy,List.getD_eq_getElem?_getD,List.getElem?_eq_getElem (show i<Y.length by omega)]
 . have:i=n:=by omega
   subst this
   rw[h0,List.getD_eq_getElem?_getD,List.getElem?_append_right (by simp[hy])]
   simp[hy]
theorem ee6{n:Nat}{ts:List T}(h:∀u∈ts,StepN n u){Y:List Int}(hy:Y.length=n+1)(h0:gy Y n=0)(n8:n<=8){F:List Nat}(nd:F.Nodup)(fb:∀a∈F,a<=n)(q0 q1 q2 q5 q6 q7 q8 q9 q10 q11:Option T)(hq0:q0=some (.lst false ((lX n Y).map .int))):
 ∃r6 r7 r8 r9 r10 r11,dS (eI (aX (aI 6) (aX (aI 7) (aX (aI 8) (aX (aI 9) eO))))) (aP (bF [] (bE 2 kN (aD (aB 6) (aD (aB 3) aJ))) (aI 10)) (aP (bF [] (bE 2 kN (aD (aB 7) (aD (aB 3) aJ))) (aI 11)) (cP (gY (bD (aE (inT false) (aB 10) (aB 4))) (gY (bD (aE (inT true) (aB 11) (aB 4))) (bD (aE eS (aE aR (aB 0) (aB 11)) (aE bR (aE aR (aB 0) (aB 10)) (aB 8)))))) (iA 4 [] cY (aQ (aB 11))) bM))) (ts.map fN) [q0,q1,q2,some (.int n),some (.lst true (fT F)),q5,q6,q7,q8,q9,q10,q11]=.nx [q0,q1,q2,some (.int n),some (.lst true (fT (ts.foldl (mW (cN n) (bO n) bX Y) F))),q5,r6,r7,r8,r9,r10,r11]:=by
 generalize hL:dS _ _ _ _=o
 obtain⟨ρ',rfl,p6,p7,p8,p9,p10,p11,rfl⟩:=iX (λi ρ=>∃p6 p7 p8 p9 p10 p11:Option T,ρ=[q0,q1,q2,some (.int n),some (.lst true (fT ((ts.take i).foldl (mW (cN n) (bO n) bX Y) F))),q5,p6,p7,p8,p9,p10,p11]) hL ⟨_,_,_,_,_,_,rfl⟩ (by
  rintro i t' ρ et ⟨p6,p7,p8,p9,p10,p11,rfl⟩
  rw[List.getElem?_map]at et
  cases eg:ts[i]? with
  |none=>rw[eg]at et;cases et
  |some t=>
   rw[eg]at et
   have et:=(Option.some.inj et).symm
   subst et
   have tm:=List.mem_of_getElem? eg
   have es:(ts.take (i+1)).foldl (mW (cN n) (bO n) bX Y) F=mW (cN n) (bO n) bX Y ((ts.take i).foldl (mW (cN n) (bO n) bX Y) F) t:=by
    rw[List.take_add_one,eg,List.foldl_append]
    rfl
   rw[es]
   obtain⟨nd2,fb2⟩:=ay9 (Y:=Y) (src:=cN n) (dst:=bO n) (cst:=bX) (n:=n) (ts.take i) F (λt ht=>(aj2 (h t (List.mem_of_mem_take ht))).1) nd fb
   clear es hL
   generalize(ts.take i).foldl (mW (cN n) (bO n) bX Y) F=G at*
   have gl:G.length<=n+1:=pV (n+1) G nd2 λx hx=>by have:=fb2 x hx;omega
   have glz:(fT G).length<sizeLine:=by unfold fT;rw[List.length_map];have:=sizeLine_eq;omega
   obtain⟨a,b,c,d,rfl,ha,hb,hd⟩:=h t tm
   have ea:=bt6 ha
   have eb:=bt6 hb
   have ra:=cj7 hy h0 (tZ ha).1
   have rb:=cj7 hy h0 (tZ hb).1
   have na:=(tZ ha).2.2
   have nb:=(tZ hb).2.2
   obtain⟨na,za,ca⟩:=na
   obtain⟨nb,zb,cb⟩:=nb
   have i1:=ek3 false true G (pN n b)
   have i2:=ek3 true true G (pN n a)
   have bt:eI (aX (aI 6) (aX (aI 7) (aX (aI 8) (aX (aI 9) eO)))) (fN (.tup [a,b,.int c,d])) [q0,q1,q2,some (.int n),some (.lst true (fT G)),q5,p6,p7,p8,p9,p10,p11]=some [q0,q1,q2,some (.int n),some (.lst true (fT G)),q5,some b,some a,some (.int c),some d,p10,p11]:=rfl
   rw[bt]
   have e1:mW (cN n) (bO n) bX Y G (.tup [a,b,.int c,d])=if pN n b∈G/\pN n a∉G/\gy Y (pN n a)=gy Y (pN n b)-c then G++[pN n a]else G:=rfl
   rw[e1]
   have fa:fT (G++[pN n a])=fT G++[.int ((pN n a:Nat):Int)]:=by unfold fT;rw[List.map_append];rfl
   subst hq0
   generalize hA:gy Y (pN n a)=A at*
   generalize hB:gy Y (pN n b)=B at*
   clear e1 bt eg tm nd2 fb2 gl ha hb hd hA hB h nd fb
   by_cases c1:pN n b∈G
   . rw[decide_eq_true c1]at i1
     by_cases c2:pN n a∈G
     . rw[decide_eq_true c2]at i2
       rw[if_neg (λz=>z.2.1 c2)]
       clear c1 c2
       walk_at "ev"
       exact⟨_,_,_,_,_,_,rfl⟩
     . rw[decide_eq_false c2]at i2
       by_cases c3:A=B-c
       . rw[if_pos ⟨c1,c2,c3⟩,fa]
         have t3:(0-A==0-B+c)=true:=by rw[beq_iff_eq];omega
         clear c1 c2 c3
         walk_at "ev"
         exact⟨_,_,_,_,_,_,rfl⟩
       . rw[if_neg (λz=>c3 z.2.2)]
         have t3:(0-A==0-B+c)=false:=by rw[beq_eq_false_iff_ne];omega
         clear c1 c2 c3
         walk_at "ev"
         exact⟨_,_,_,_,_,_,rfl⟩
   . rw[decide_eq_false c1]at i1
     rw[if_neg (λz=>c1 z.1)]
     clear c1
     walk_at "ev"
     exact⟨_,_,_,_,_,_,rfl⟩)
 rw[List.length_map,List.take_length]
 exact⟨_,_,_,_,_,_,rfl⟩
end Nk24
local macro_rules | `(tactic| walk_at "gt") => `(tactic| first | assumption | exact ds0 (by decide) (by decide) | exact br0 (by decide) (by decide) | exact cl4 (by decide) (by decide) | exact cj4 (by decide) (by decide) (by decide) | decide | omega | (refine And.intro ?_ ?_; omega; omega))
local macro_rules | `(tactic| walk_at "ev") => `(tactic| simp (disch := walk_at "gt") only [jA,ah5,av4,aP,bF,bI,cP,cv4,iN,bM,aq1,cg2,aB,dC,aQ,aE,fI,nM,oX,dv4,yZ,dIf,bD,eJ,fF,mY,eY,cQ,aD,aJ,bZ,bE,dBM,qM,iL,gU,gS,gN,dR,cK,aj5,df1,cp4,kills,aI,eI,aX,eO,bQ,cD,mF,cY,frz,frzs,bS,bA,cG,cT,ay2,yA,jK,lG,kJ,jL,tV,oK,ad5,eQ,jP,yW,GoW,ay7,ak1,bm5,bf8,aq7,bg8,bh6,bj6,bg7,bs0,bc5,xO,cj5,ct3,cw4,co3,ca3,co5,cg3,ce2,ck2,cm4,ce4,ag5,ae5,aq5,az4,aw4,ch3,cn2,cw5,cb4,cn5,ct2,ct5,cc3,az7,ci4,dl4,dx0,dw2,cs3,bt4,cs2,ct4,ae1,bn4,aa7,bs4,au7,bk4,bo4,cd3,bc6,at6,bu5,bb5,cg4,cr3,bm6,bi8,az2,ai3,cu4,cq2,ci3,cw3,cu2,cl3,bq4,cx5,co2,cx4,ck4,cv2,cv5,cj2,cn4,ar1,cu5,cr4,ap4,
 al9,bg0,aq9,ba0,am9,aw9,bi0,ak9,bz4,bw4,bg5,bo7,bo6,fI,wD,bl6,al5,ap9,ab0,zO,frz1,jG,mQ,ai2,ao5,av9,dn0,da3,an3,ag1,cj3, rX,aq4,tF,yQ,ar9,List.length_map,Option.map_some,Option.isSome_some,List.isEmpty_cons,List.isEmpty_nil,Option.isSome_none,List.map_cons,List.map_nil,List.length_cons,List.length_nil,List.replicate_succ,List.replicate_zero,List.cons_append,List.nil_append,List.set_cons_zero,List.set_cons_succ,List.getElem?_cons_zero,List.getElem?_cons_succ,Nat.reduceAdd,Nat.reduceSub,Bool.not_true,Bool.not_false,Bool.and_true,Bool.true_and,Bool.and_false,Bool.false_and,Bool.or_true,Bool.true_or,Bool.or_false,Bool.false_or,if_true,if_false,Bool.false_eq_true,reduceIte,reduceCtorEq,decide_true,decide_false,and_self,and_true,true_and,Bool.and_self, *])
namespace Nk24
open PySem L2 TL
theorem cm6(o o':Bool)(ns:List Int):eS (.lst o (ns.map .int)) (.lst o' (ns.map .int))=.ok (.bl true):=by
 have e:∀(m:Nat)(ns:List Int),pT m (ns.map T.int) (ns.map T.int)=some (ns.map λ_=>true):=by
  intro m ns
  induction ns with
  |nil=>exact bh5 m
  |cons x ns ih=>rw[List.map_cons,tO,yS (.inr ⟨x,rfl⟩) (.inr ⟨x,rfl⟩),ih,nE (.inr ⟨x,rfl⟩)];rfl
 have e2:oO cX (.lst o (ns.map .int)) (.lst o' (ns.map .int))=some true:=by
  have:oO (5+1) (.lst o (ns.map T.int)) (.lst o' (ns.map T.int))=if(ns.map T.int).length=(ns.map T.int).length then(pT 5 (ns.map T.int) (ns.map T.int)).map λes=>es.all id else some false:=by rw[oO]
  show oO (5+1) _ _=_
  rw[this,if_pos rfl,e 5 ns]
  simp
 have e3:eqB (.lst o (ns.map .int)) (.lst o' (ns.map .int))=some true:=by
  unfold eqB
  rw[if_pos ⟨rfl,rfl⟩]
  exact e2
 unfold eS
 rw[e3]
theorem cs6{n:Nat}{F:List Nat}(nd:F.Nodup)(fb:∀a∈F,a<=n)(hl:n+1<=F.length):zT (F.map Int.ofNat)=(List.range (n+1)).map Int.ofNat:=by
 have mem:∀a,a<=n->a∈F:=λa ha=>by
  apply Classical.byContradiction
  intro q
  have:=pV (n+1) (a::F) (List.nodup_cons.mpr ⟨q,nd⟩) (λx hx=>by
   rcases List.mem_cons.mp hx with e|e
   . omega
   . have:=fb x e;omega)
  rw[List.length_cons]at this
  omega
 have p:F.Perm (List.range (n+1)):=(List.perm_ext_iff_of_nodup nd List.nodup_range).mpr λa=>by
  rw[List.mem_range]
  exact⟨λh=>by have:=fb a h;omega,λh=>mem a (by omega)⟩
 refine zV ((yX _).trans (p.map _)) (wB _) ?_
 rw[List.pairwise_map]
 refine(List.pairwise_lt_range (n:=n+1)).imp λ{a b} h=>?_
 show(a:Int)<=(b:Int)
 omega
theorem cm8:∀(l F:List Nat),l.Nodup->(∀x∈l,x∈F)->l.length<=F.length
 |[],_,_,_=>Nat.zero_le _
 |x::l,F,nd,h=>by
  have hx:=h x List.mem_cons_self
  obtain⟨n1,n2⟩:=List.nodup_cons.mp nd
  have:=cm8 l (F.erase x) n2 λy hy=>(List.mem_erase_of_ne (show y≠x from λe=>n1 (e▸hy))).mpr (h y (List.mem_cons_of_mem _ hy))
  rw[List.length_erase_of_mem hx]at this
  have:0<F.length:=List.length_pos_of_mem hx
  rw[List.length_cons]
  omega
theorem cv9{n:Nat}{ts:List T}(h:∀u∈ts,StepN n u)(hl:ts.length<=10000){Y:List Int}(hy:Y.length=n+1)(h0:gy Y n=0)(n8:n<=8)
 (ht:∀F:List Nat,n∈F->∀a,a<=n->a∉F->∃t∈ts,bO n t∈F/\cN n t∉F/\gy Y (cN n t)=gy Y (bO n t)-bX t):
 oW [.lst false ((lX n Y).map .int),.lst false (ts.map fN),.int (n:Int)]=.ok (.bl true):=by
 unfold oW pK
 have ll:(lX n Y).length=n+1:=by unfold lX;simp[hy]
 have en:((n+1:Nat):Int)-1=(n:Int):=by omega
 have rg:-(2^62)<=(n:Int)+1/\(n:Int)+1<2^62:=by omega
 have tn:((n:Int)+1).toNat=n+1:=by omega
 have sz:n+1<=sizeLine:=by have:=sizeLine_eq;omega
 have sz1:1<=sizeLine:=by omega
 have no:bA (ts.map fN)=true:=by
  rw[kF,List.all_map,List.all_eq_true]
  intro t ht
  obtain⟨a,b,c,d,rfl,ha,hb,hd⟩:=h t ht
  have na:bS a=true:=by rcases ha with rfl|⟨i,_,rfl⟩<;>rfl
  have nb:bS b=true:=by rcases hb with rfl|⟨i,_,rfl⟩<;>rfl
  have nd:bS d=true:=by rcases hd with rfl|⟨i,rfl⟩<;>rfl
  show bS (fN _)=true
  simp only[fN,bS,bA,na,nb,nd]
  rfl
 have lt:(ts.map fN).length<=100000:=by rw[List.length_map];omega
 walk_at "ev"
 generalize hL:dS _ _ _ _=o
 have key:=bd2 (λi ρ=>∃(F:List Nat)(q5 q6 q7 q8 q9 q10 q11:Option T),ρ=[some (.lst false ((lX n Y).map .int)),some (.lst false (ts.map fN)),some (.int (n:Int)),some (.int (n:Int)),some (.lst true (fT F)),q5,q6,q7,q8,q9,q10,q11]/\F.Nodup/\(∀a∈F,a<=n)/\n∈F/\i+1<=F.length)
  (λρ=>∃(F:List Nat)(q5 q6 q7 q8 q9 q10 q11:Option T),ρ=[some (.lst false ((lX n Y).map .int)),some (.lst false (ts.map fN)),some (.int (n:Int)),some (.int (n:Int)),some (.lst true (fT F)),q5,q6,q7,q8,q9,q10,q11]/\F.Nodup/\(∀a∈F,a<=n)/\n+1<=F.length) (λ_=>False) hL
  ⟨[n],_,_,_,_,_,_,_,rfl,by simp,by simp,by simp,by simp⟩ (by
  rintro i t ρ et ⟨F,q5,q6,q7,q8,q9,q10,q11,rfl,nd,fb,hn,li⟩
  clear hL et
  have fl:(fT F).length=F.length:=by unfold fT;rw[List.length_map]
  have f1:F.length<=n+1:=pV (n+1) F nd λx hx=>by have:=fb x hx;omega
  have flz:F.length<=sizeLine:=by omega
  by_cases c:n<F.length
  . have t1:decide ((n:Int)<(F.length:Int))=true:=decide_eq_true (by omega)
    have res:∃(F_1:List Nat)(p5 p6 p7 p8 p9 p10 p11:Option T),[some (T.lst false ((lX n Y).map .int)),some (.lst false (ts.map fN)),some (.int (n:Int)),some (.int (n:Int)),some (.lst true (fT F)),some t,q6,q7,q8,q9,q10,q11]=[some (.lst false ((lX n Y).map .int)),some (.lst false (ts.map fN)),some (.int (n:Int)),some (.int (n:Int)),some (.lst true (fT F_1)),p5,p6,p7,p8,p9,p10,p11]/\F_1.Nodup/\(∀a∈F_1,a<=n)/\n+1<=F_1.length:=⟨F,_,_,_,_,_,_,_,rfl,nd,fb,c⟩
    clear nd fb hn li f1 h ht c
    walk_at "ev"
  . have t1:decide ((n:Int)<(F.length:Int))=false:=decide_eq_false (by omega)
    obtain⟨a,ha,hna⟩:=es7 (n:=n) (F:=F) (by omega)
    obtain⟨u,um,u1,u2,u3⟩:=ht F hn a ha hna
    have got:=bl5 (Y:=Y) (src:=cN n) (dst:=bO n) (cst:=bX) ts F um u1 u3
    obtain⟨g1,g2⟩:=ai5 (Y:=Y) (src:=cN n) (dst:=bO n) (cst:=bX) ts F
    obtain⟨g3,g4⟩:=ay9 (Y:=Y) (src:=cN n) (dst:=bO n) (cst:=bX) (n:=n) ts F (λt ht=>(aj2 (h t ht)).1) nd fb
    have g5:F.length+1<=(ts.foldl (mW (cN n) (bO n) bX Y) F).length:=by
     have nd2:(cN n u::F).Nodup:=List.nodup_cons.mpr ⟨u2,nd⟩
     have sub:∀x∈cN n u::F,x∈ts.foldl (mW (cN n) (bO n) bX Y) F:=λx hx=>by
      rcases List.mem_cons.mp hx with e|e
      . rw[e];exact got
      . exact g1 x e
     have:=cm8 _ _ nd2 sub
     rwa[List.length_cons]at this
    obtain⟨r6,r7,r8,r9,r10,r11,lp⟩:=ee6 h hy h0 n8 nd fb (some (.lst false ((lX n Y).map .int))) (some (.lst false (ts.map fN))) (some (.int (n:Int))) (some t) q6 q7 q8 q9 q10 q11 rfl
    have gn:=g1 n hn
    have res:∃(F_1:List Nat)(p5 p6 p7 p8 p9 p10 p11:Option T),[some (T.lst false ((lX n Y).map .int)),some (.lst false (ts.map fN)),some (.int (n:Int)),some (.int (n:Int)),some (.lst true (fT (ts.foldl (mW (cN n) (bO n) bX Y) F))),some t,r6,r7,r8,r9,r10,r11]=[some (.lst false ((lX n Y).map .int)),some (.lst false (ts.map fN)),some (.int (n:Int)),some (.int (n:Int)),some (.lst true (fT F_1)),p5,p6,p7,p8,p9,p10,p11]/\F_1.Nodup/\(∀a∈F_1,a<=n)/\n∈F_1/\i+1+1<=F_1.length:=⟨_,_,_,_,_,_,_,_,rfl,g3,g4,gn,by omega⟩
    clear nd fb hn li f1 h ht c a ha hna u um u1 u2 u3 got g1 g2 g3 g4 g5 gn
    generalize ts.foldl (mW (cN n) (bO n) bX Y) F=G at*
    walk_at "ev")
 have bQ:∃(F:List Nat)(q5 q6 q7 q8 q9 q10 q11:Option T),o=.nx [some (.lst false ((lX n Y).map .int)),some (.lst false (ts.map fN)),some (.int (n:Int)),some (.int (n:Int)),some (.lst true (fT F)),q5,q6,q7,q8,q9,q10,q11]/\F.Nodup/\(∀a∈F,a<=n)/\n+1<=F.length:=by
  rcases key with⟨ρ',rfl,⟨F,q5,q6,q7,q8,q9,q10,q11,rfl,nd,fb,_,li⟩|⟨F,q5,q6,q7,q8,q9,q10,q11,rfl,nd,fb,li⟩⟩|⟨t,_,q⟩
  . rw[fL]at li
    exact⟨F,_,_,_,_,_,_,_,rfl,nd,fb,by omega⟩
  . exact⟨F,_,_,_,_,_,_,_,rfl,nd,fb,li⟩
  . exact q.elim
 obtain⟨F,q5,q6,q7,q8,q9,q10,q11,rfl,nd,fb,li⟩:=bQ
 have f1:F.length<=n+1:=pV (n+1) F nd λx hx=>by have:=fb x hx;omega
 have es:vG [.lst true (fT F)]=.ok (.lst true (((List.range (n+1)).map Int.ofNat).map .int)):=by
  have e:fT F=(F.map Int.ofNat).map T.int:=by unfold fT;rw[List.map_map];rfl
  rw[e,ar5,cs6 nd fb li,if_pos (by rw[List.length_map];omega)]
 have el:at7 [.int ((n:Int)+1)]=.ok (.lst true (((List.range (n+1)).map Int.ofNat).map .int)):=by
  rw[bi5,jA ⟨by omega,by omega⟩,tn]
 have ee:=cm6 true true ((List.range (n+1)).map Int.ofNat)
 clear hL key nd fb li f1 h ht no lt en rg tn
 generalize((List.range (n+1)).map Int.ofNat).map T.int=LL at*
 walk_at "ev"
abbrev DtF(f:Fm)(ss:List Sd)(D:Nat->Int):Prop:=Dt (cN f.names.length) (bO f.names.length) bX (eF f ss) f.names.length D
def cp2(n:Nat)(D:Nat->Int)(s:Sd):Prop:=D (pN n (qD s))<=D (pN n (.int (fst s)))+(0-s.lo)/\∀h,s.hi=some h->D (pN n (.int (fst s)))<=D (pN n (qD s))+h
def ef5(f:Fm)(D:Nat->Int):Prop:=∀j,j<f.names.length->D j<=D f.names.length+(f.first+f.span)/\D f.names.length<=D j+(0-f.first)
theorem bj7(f:Fm)(ss:List Sd)(D:Nat->Int):DtF f ss D↔D f.names.length=0/\(∀s∈ss,cp2 f.names.length D s)/\ef5 f D:=by
 constructor
 . rintro⟨h0,h⟩
   refine⟨h0,λs hs=>?_,λj hj=>?_⟩
   . obtain⟨k,hk,e⟩:=List.mem_iff_getElem.mp hs
     have inn:∀t∈st s (k:Int),t∈eF f ss:=λt ht=>by
      refine List.mem_append_left _ (List.mem_flatMap.mpr ⟨k,List.mem_range.mpr hk,?_⟩)
      unfold av0
      rw[List.getElem?_eq_getElem hk,e]
      exact ht
     refine⟨h (.tup [.int (fst s),qD s,.int (0-s.lo),.int k]) (inn _ ?_),λx hx=>h (.tup [qD s,.int (fst s),.int x,.int k]) (inn _ ?_)⟩
     . unfold st
       exact List.mem_append_right _ (List.mem_singleton.mpr rfl)
     . unfold st
       rw[hx]
       exact List.mem_append_left _ (List.mem_singleton.mpr rfl)
   . have inn:∀t∈sp f (j:Int),t∈eF f ss:=λt ht=>List.mem_append_right _ (List.mem_flatMap.mpr ⟨j,List.mem_range.mpr hj,ht⟩)
     have h1:=h (.tup [.non,.int j,.int (f.first+f.span),.non]) (inn _ (by simp[sp]))
     have h2:=h (.tup [.int j,.non,.int (0-f.first),.non]) (inn _ (by simp[sp]))
     simp only[bO,cN,bX,pN,Int.toNat_natCast]at h1 h2
     exact⟨h1,h2⟩
 . rintro⟨h0,h1,h2⟩
   refine⟨h0,λt ht=>?_⟩
   rcases List.mem_append.mp ht with ht|ht
   . obtain⟨k,hk,q⟩:=List.mem_flatMap.mp ht
     unfold av0 at q
     split at q
     . next s es=>
       obtain⟨a1,a2⟩:=h1 s (List.mem_of_getElem? es)
       unfold st at q
       rcases List.mem_append.mp q with q|q
       . split at q
         . next x hx=>rw[List.mem_singleton.mp q];exact a2 x hx
         . cases q
       . rw[List.mem_singleton.mp q]
         exact a1
     . cases q
   . obtain⟨k,hk,q⟩:=List.mem_flatMap.mp ht
     obtain⟨b1,b2⟩:=h2 k (List.mem_range.mp hk)
     simp only[sp,List.mem_cons,List.not_mem_nil,or_false]at q
     rcases q with rfl|rfl
     . simp only[bO,cN,bX,pN,Int.toNat_natCast]
       exact b1
     . simp only[bO,cN,bX,pN,Int.toNat_natCast]
       exact b2
theorem ej3{f:Fm}{ss us:List Sd}{D:Nat->Int}(h:DtF f ss D)(hs:∀s∈us,s∈ss):DtF f us D:=by
 rw[bj7]at h⊢
 exact⟨h.1,λs q=>h.2.1 s (hs s q),h.2.2⟩
theorem eh4{f:Fm}{ss:List Sd}{hid:List Int}(hl:hid.length=f.names.length)(hb:∀y∈hid,f.first<=y/\y<=f.first+f.span)(ht:∀s∈ss,TrL hid s):DtF f ss (gy (hid++[0])):=by
 have g0:gy (hid++[0]) f.names.length=0:=by
  unfold gy
  rw[List.getD_eq_getElem?_getD,List.getElem?_append_right (by omega)]
  simp[hl]
 have gi:∀(i:Nat) y,hid[i]?=some y->gy (hid++[0]) i=y:=λi y e=>by
  unfold gy
  have hi:=(List.getElem?_eq_some_iff.mp e).1
  rw[List.getD_eq_getElem?_getD,List.getElem?_append_left hi,e]
  rfl
 rw[bj7]
 refine⟨g0,λs hs=>?_,λj hj=>?_⟩
 . rcases ht s hs with⟨i,y,e,ey,t1,t2⟩|⟨i,j,yi,yj,e,ei,ej,t1,t2⟩
   . have o:qD s=.non:=by unfold qD;rw[e]
     have fs:fst s=(i:Int):=by unfold fst;rw[e]
     have p1:pN f.names.length (.int (fst s))=i:=by rw[fs];simp[pN]
     have p2:pN f.names.length (qD s)=f.names.length:=by rw[o];rfl
     unfold cp2
     rw[p1,p2,g0,gi i y ey]
     exact⟨by omega,λh q=>by have:=t2 h q;omega⟩
   . have o:qD s=.int (j:Int):=by unfold qD;rw[e]
     have fs:fst s=(i:Int):=by unfold fst;rw[e]
     have p1:pN f.names.length (.int (fst s))=i:=by rw[fs];simp[pN]
     have p2:pN f.names.length (qD s)=j:=by rw[o];simp[pN]
     unfold cp2
     rw[p1,p2,gi i yi ei,gi j yj ej]
     exact⟨by omega,λh q=>by have:=t2 h q;omega⟩
 . have hj':j<hid.length:=by omega
   have e:=gi j hid[j] (List.getElem?_eq_getElem hj')
   have:=hb _ (List.getElem_mem hj')
   rw[g0,e]
   omega
theorem cd1{f:Fm}{ss:List Sd}:∀D,DtF f ss D->∀j,j<=f.names.length->gy (Y0 f) j<=D j:=λD h j hj=>by
 obtain⟨h0,_,h2⟩:=(bj7 f ss D).mp h
 unfold gy Y0
 by_cases e:j<f.names.length
 . rw[List.getD_eq_getElem?_getD,List.getElem?_append_left (by simpa using e),List.getElem?_replicate,if_pos e]
   have:=(h2 j e).2
   show f.first-1<=D j
   omega
 . have:j=f.names.length:=by omega
   subst this
   rw[List.getD_eq_getElem?_getD,List.getElem?_append_right (by simp),h0]
   simp
theorem ed2(f:Fm):gy (Y0 f) f.names.length=0:=by
 unfold gy Y0
 rw[List.getD_eq_getElem?_getD,List.getElem?_append_right (by simp)]
 simp
theorem co6{f:Fm}(g:Gd f){ss:List Sd}(h:∀s∈ss,SdOk f s)(hl:ss.length<=1000):
 ∃(w:Str)(xs:List T),nF [cO false f,.lst false (ss.map (jE false f))]=.ok (.tup [.str w,.lst true xs])/\cT xs=true/\bA xs=true/\frzs xs=xs/\xs.length<=100/\kL [.tup [.str w,.lst false xs],.int f.names.length,.lst false (eF f ss)]=.ok (.bl true)/\
  ((w="dating"/\∃D,DtF f ss D)\/(w="ring"/\∀D,¬DtF f ss D)):=by
 have n8:=g.n8
 have aS:=ci2 h
 have ks:=cr5 g h hl
 have za:=jV false f
 have zo:=vQ false f ss
 have aT:=tN f ss
 have zS:=lD aT
 have cS:=tY aT
 have lS:=dr6 g hl
 have iv:=cg8 aS
 have hb:∀t∈eF f ss,cN f.names.length t<=f.names.length/\bO f.names.length t<=f.names.length:=λt ht=>aj2 (aS t ht)
 have b0:=@iF T
 have b1:=@iG T
 have t2:(((2:Nat):Int)==2)=true:=rfl
 rcases bj8 g aS with⟨hx,e⟩|⟨a0,P,k,hx,r,e⟩
 . have dt:DtF f ss (gy (cL f (eF f ss) (f.names.length+1)).Y):=cp8 iv hx (ed2 f) cd1
   have yl:=(bp0 f (eF f ss) (f.names.length+1)).1
   have tl:((cL f (eF f ss) (f.names.length+1)).Y.take f.names.length).length=f.names.length:=by rw[List.length_take];omega
   refine⟨"dating",((cL f (eF f ss) (f.names.length+1)).Y.take f.names.length).map .int,?_,kJ _,jK _,lG _,by rw[List.length_map,tl];omega,?_,.inl ⟨rfl,_,dt⟩⟩
   . unfold nF tK
     generalize((cL f (eF f ss) (f.names.length+1)).Y.take f.names.length)=ys at*
     clear iv hb hx dt yl tl aS aT h g
     generalize eF f ss=S at*
     walk_at "ev"
   . have kd:=bm7 aS tl n8 (λt ht=>dd7 yl dt.1 (aS t ht) (dt.2 t ht))
     have kt:=do1 aS (by omega)
     have kr:=cv9 aS lS yl dt.1 n8 (λF hF a ha hn=>ed6 iv hx (ed2 f) cd1 hF ha hn)
     unfold kL oR
     have er:(lX f.names.length (cL f (eF f ss) (f.names.length+1)).Y).map T.int=((cL f (eF f ss) (f.names.length+1)).Y.take f.names.length).map (λy=>T.int (0-y))++[.int 0]:=by
      unfold lX
      rw[List.map_append,List.map_map]
      rfl
     have hc:∀q:List Int,q.length<=8->cM (aI 3) cK (aE dD (dC (.int 0)) (aB 3)) [some (.tup [.str "dating",.lst false (q.map .int)]),some (.int f.names.length),some (.lst false (eF f ss)),none] (q.map .int)=.ok (q.map λy=>T.int (0-y)):=λq _=>by
      refine eK λy _=>?_
      clear kd kt kr er ks
      walk_at "ev"
     rw[er]at kr
     have hc:=hc ((cL f (eF f ss) (f.names.length+1)).Y.take f.names.length) (by omega)
     have nm:bA (((cL f (eF f ss) (f.names.length+1)).Y.take f.names.length).map (λy=>T.int (0-y)))=true:=jZ (λ_=>rfl) _
     have zm:frzs (((cL f (eF f ss) (f.names.length+1)).Y.take f.names.length).map (λy=>T.int (0-y))++[.int 0])=((cL f (eF f ss) (f.names.length+1)).Y.take f.names.length).map (λy=>T.int (0-y))++[.int 0]:=gB _ (by rw[kF,List.all_append,<-kF,nm];rfl)
     have zt:frzs ((eF f ss).map fN)=(eF f ss).map fN/\cT ((eF f ss).map fN)=true:=by
      have key:∀t∈eF f ss,bS (fN t)=true/\cG (fN t)=true:=λt ht=>by
       obtain⟨a,b,c,d,rfl,ha,hb,hd⟩:=aS t ht
       have na:bS a=true/\cG a=true:=by rcases ha with rfl|⟨i,_,rfl⟩<;>exact⟨rfl,rfl⟩
       have nb:bS b=true/\cG b=true:=by rcases hb with rfl|⟨i,_,rfl⟩<;>exact⟨rfl,rfl⟩
       have nd:bS d=true/\cG d=true:=by rcases hd with rfl|⟨i,rfl⟩<;>exact⟨rfl,rfl⟩
       simp only[fN,bS,bA,cG,cT,na.1,na.2,nb.1,nb.2,nd.1,nd.2]
       exact⟨rfl,rfl⟩
      refine⟨gB _ ?_,?_⟩
      . rw[kF,List.all_map,List.all_eq_true];exact λt ht=>(key t ht).1
      . rw[wI,List.all_map,List.all_eq_true];exact λt ht=>(key t ht).2
     obtain⟨zt,ct⟩:=zt
     have e1:(("dating":Str)==("ring":Str))=false:=by decide
     have e2:(("dating":Str)==("dating":Str))=true:=by decide
     have sz:((cL f (eF f ss) (f.names.length+1)).Y.take f.names.length).length+1<=sizeLine:=by have:=sizeLine_eq;omega
     have sz0:((cL f (eF f ss) (f.names.length+1)).Y.take f.names.length).length<=sizeLine:=by omega
     have sz1:1<=sizeLine:=by omega
     have lt:((eF f ss).map fN).length<=sizeLine:=by rw[List.length_map];have:=sizeLine_eq;omega
     have zy:=lG ((cL f (eF f ss) (f.names.length+1)).Y.take f.names.length)
     clear iv hb hx dt yl aS aT h g er e ks
     generalize((cL f (eF f ss) (f.names.length+1)).Y.take f.names.length)=ys at*
     generalize(eF f ss).map fN=S2 at*
     generalize eF f ss=S at*
     clear tl
     walk_at "ev"
 . have kr:=cq3 aS n8 r
   have rR:=cp3 aS (f.names.length+1)
   have flat:∀t∈(List.range k).map (cV f.names.length (cL f (eF f ss) (f.names.length+1)).R P),StepN f.names.length t:=λt ht=>by
    obtain⟨m,_,rfl⟩:=List.mem_map.mp ht
    obtain⟨u,eu,ut,_⟩:=r.df m
    unfold cV
    rw[ae2 eu]
    exact aS u ut
   have nr:=iQ λt ht=>(flat t ht).st
   have cr:=tY λt ht=>(flat t ht).st
   have zr:=lD λt ht=>(flat t ht).st
   refine⟨"ring",(List.range k).map (cV f.names.length (cL f (eF f ss) (f.names.length+1)).R P),?_,cr,nr,zr,by rw[List.length_map,List.length_range];have:=r.kn;omega,?_,.inr ⟨rfl,λD hD=>?_⟩⟩
   . unfold nF tK
     clear iv hb hx aS aT h g kr rR flat r
     generalize(List.range k).map (cV f.names.length (cL f (eF f ss) (f.names.length+1)).R P)=xs at*
     generalize eF f ss=S at*
     walk_at "ev"
   . unfold kL oR
     have e1:(("ring":Str)==("ring":Str))=true:=by decide
     clear iv hb hx aS aT h g rR flat r ks e
     generalize(List.range k).map (cV f.names.length (cL f (eF f ss) (f.names.length+1)).R P)=xs at*
     generalize eF f ss=S at*
     walk_at "ev"
   . have:=dn8 hb iv hD
     rw[hx]at this
     cases this
theorem ea3(o:Bool)(f:Fm):frz (jX o f)=jX false f:=by simp only[jX,frz,frzs,tV,mX,pU]
theorem dz2(f:Fm):cG (jX true f)=true:=by simp only[jX,cG,cT,oK,xL,ax7,Bool.and_self]
theorem ef7(o:Bool)(f:Fm):aR (jX o f) (.int 2)=.ok (.lst o (f.names.map .str)):=by
 simp only[jX,az7,oS]
theorem yT{α β:Type}(g:α->β)(xs:List α)(lo hi:Option Int):fH (xs.map g) lo hi=(fH xs lo hi).map g:=by
 unfold fH
 rw[List.length_map,List.map_take,List.map_drop]
theorem aj9{α:Type}(xs:List α)(lo hi:Option Int):(fH xs lo hi).length<=xs.length:=by
 unfold fH
 rw[List.length_take,List.length_drop]
 omega
theorem cp0{α:Type}{xs:List α}{lo hi:Option Int}{x:α}(h:x∈fH xs lo hi):x∈xs:=by
 unfold fH at h
 exact List.mem_of_mem_drop (List.mem_of_mem_take h)
theorem eg2(w:Str)(xs:List T)(hl:xs.length<sizeLine)(r:Fr->bP)(a0 a1 a2 a3 a4 a5 a6 a7 a8 a10 a11 a12 a13 a14:Option T):
 iA 9 [] (pIx 9 cY (dC (.int 1))) (dC .non) [a0,a1,a2,a3,a4,a5,a6,a7,a8,some (.tup [.str w,.lst true xs]),a10,a11,a12,a13,a14]=.nx [a0,a1,a2,a3,a4,a5,a6,a7,a8,some (.tup [.str w,.lst true (xs++[.non])]),a10,a11,a12,a13,a14]:=by
 have e:pIx 9 cY (dC (.int 1)) [a0,a1,a2,a3,a4,a5,a6,a7,a8,some (.tup [.str w,.lst true xs]),a10,a11,a12,a13,a14]=.ok [1]:=rfl
 have q:eQ [1] (.tup [.str w,.lst true xs])=some (.lst true xs):=rfl
 simp only[iA,List.getElem?_cons_succ,List.getElem?_cons_zero,e,q,dC,hl,if_true,kills]
 rfl
theorem ea7{fl:Bool}{w:Str}{x:T}(h:fl=false->w="dating")(a0 a1 a3 a4 a5 a6 a7 a8 a10 a11 a12 a13 a14:Option T):gY (fF (eJ (aB 2))) (bD (aE qE (aE aR (aB 9) (dC (.int 0))) (dC (.str "dating")))) [a0,a1,some (.bl fl),a3,a4,a5,a6,a7,a8,some (.tup [.str w,x]),a10,a11,a12,a13,a14]=.ok false:=by
 have b0:=@iF T
 have e1:(("dating":Str)==("dating":Str))=true:=by decide
 simp only[gY]
 cases fl with
 |true=>clear h;walk_at "ev"
 |false=>cases h rfl;clear h;walk_at "ev"
theorem eb7{w v:Str}{x:T}(h:w="dating"->v="dating")(a0 a1 a2 a3 a4 a5 a6 a7 a8 a9 a11 a12 a14:Option T):gY (bD (aE eS (aB 10) (dC (.str "dating")))) (bD (aE qE (aE aR (aB 13) (dC (.int 0))) (dC (.str "dating")))) [a0,a1,a2,a3,a4,a5,a6,a7,a8,a9,some (.str w),a11,a12,some (.tup [.str v,x]),a14]=.ok false:=by
 have b0:=@iF T
 have e1:(("dating":Str)==("dating":Str))=true:=by decide
 simp only[gY]
 cases e:(w=="dating")with
 |false=>clear h;walk_at "ev"
 |true=>
  have:=h (by simpa using e)
  subst this
  clear h
  walk_at "ev"
theorem main(ns:List Int)(h63:ns.length<=63)(hb:∀n∈ns,Builtin.Int.intBits n<=1048576):bl4 [.lst false (ns.map .int)]=.ok (.bl true):=by
 unfold bl4 br4
 obtain⟨f,hf,g⟩:=dx7 ns
 have ec:jF [.lst false (ns.map .int),.int 1]=.ok (.int (ns.getD 1 0)):=cr6 false ns 1
 obtain⟨hid,hh,hl,hhb⟩:=dz4 (ns.getD 1 0/32) g
 have ct:=yT T.int ns (some 2) (some 18)
 have ctl:=aj9 ns (some 2) (some 18)
 obtain⟨ss,hs,sl,sok,strue⟩:=cb7 g (fH ns (some 2) (some 18)) (by omega) (ns.getD 1 0%2==1) hid hl hhb
 have ka:=bl3 g
 have kh:=ec1 sok (by omega)
 have k1:=am4 g sok (by omega)
 have fm:=ea3 true f
 have cf:=dz2 f
 have f2:=ef7 true f
 have ar:=jV true f
 have ca:=bb6 f
 have zs:=zM (f:=f) true sok
 have zs0:=zM (f:=f) false sok
 have cs:=an6 sok
 have co:=cz3 f ss
 have zo:=vQ true f ss
 have zo0:=vQ false f ss
 have ns1:=qR sok
 have no:=uX f ss
 have nn:=jK ns
 have zh:=lG hid
 have c1:=tY (tN f ss)
 have z1:=lD (tN f ss)
 obtain⟨a,ha⟩:∃a,ns.getD 1 0/2%((ss.length:Int)+1)=a:=⟨_,rfl⟩
 obtain⟨A,hA⟩:∃A,fH ss none (some a)=A:=⟨_,rfl⟩
 obtain⟨B,hB⟩:∃B,fH ss (some (a+1)) none=B:=⟨_,rfl⟩
 have cA1:fH (ss.map (iW false)) none (some a)=A.map (iW false):=by rw[yT,hA]
 have cB1:fH (ss.map (iW false)) (some (a+1)) none=B.map (iW false):=by rw[yT,hB]
 have cA2:fH (ss.map (jE false f)) none (some a)=A.map (jE false f):=by rw[yT,hA]
 have cB2:fH (ss.map (jE false f)) (some (a+1)) none=B.map (jE false f):=by rw[yT,hB]
 have lA:A.length<=ss.length:=by rw[<-hA];exact aj9 _ _ _
 have lB:B.length<=ss.length:=by rw[<-hB];exact aj9 _ _ _
 have inA:∀s∈A,s∈ss:=λs h=>cp0 (by rw[hA];exact h)
 have inB:∀s∈B,s∈ss:=λs h=>cp0 (by rw[hB];exact h)
 have inAB:∀s∈A++B,s∈ss:=λs h=>(List.mem_append.mp h).elim (inA s) (inB s)
 have okA:∀s∈A,SdOk f s:=λs h=>sok s (inA s h)
 have okB:∀s∈B,SdOk f s:=λs h=>sok s (inB s h)
 have sok2:∀s∈A++B,SdOk f s:=λs h=>sok s (inAB s h)
 have k2:=am4 g sok2 (by simp;omega)
 have c2:=tY (tN f (A++B))
 have z2:=lD (tN f (A++B))
 have nA1:=qR okA
 have nB1:=qR okB
 have nA2:=uX f A
 have nB2:=uX f B
 have zz1:=zM (f:=f) false sok2
 have zz2:=vQ false f (A++B)
 have aN:(ss.length:Int)+1≠0:=by omega
 obtain⟨w1,xs1,s1,cx1,nx1,zx1,lx1,r1,d1⟩:=co6 g sok (by omega)
 obtain⟨w2,xs2,s2,cx2,nx2,zx2,lx2,r2,d2⟩:=co6 g sok2 (by simp;omega)
 have w12:w1="dating"->w2="dating":=λe=>by
  rcases d1 with⟨_,D,hD⟩|⟨e',_⟩
  . rcases d2 with⟨q,_⟩|⟨_,q⟩
    . exact q
    . exact absurd (ej3 hD inAB) (q D)
  . rw[e]at e';exact absurd e' (by decide)
 have wF:(ns.getD 1 0%2==1)=false->w1="dating":=λe=>by
  rcases d1 with⟨q,_⟩|⟨_,q⟩
  . exact q
  . exact absurd (eh4 hl hhb (strue e)) (q _)
 rw[List.map_append]at k2 zz1 zz2 s2
 have ll0:A.length+B.length<=sizeLine:=by have:=sizeLine_eq;omega
 have ll2:ss.length<=100000:=by omega
 have lx1':xs1.length<sizeLine:=by have:=sizeLine_eq;omega
 have lx1z:xs1.length<=sizeLine:=by omega
 have psh:=λa0 a1 a2 a3 a4 a5 a6 a7 a8 a10 a11 a12 a13 a14=>eg2 w1 xs1 lx1' (λρ=>.nx ρ) a0 a1 a2 a3 a4 a5 a6 a7 a8 a10 a11 a12 a13 a14
 have b0:=@iF T
 clear sok sok2 okA okB hb sl ctl hhb g lA lB hA hB hl d1 d2 inA inB inAB strue lx1 lx2 lx1'
 generalize eF f ss=S1 at*
 generalize eF f (A++B)=S2 at*
 have e1:(w1==w1)=true:=beq_self_eq_true _
 have t1:=λa0 a1 a3 a4 a5 a6 a7 a8 a10 a11 a12 a13 a14=>ea7 (x:=.lst true xs1) wF a0 a1 a3 a4 a5 a6 a7 a8 a10 a11 a12 a13 a14
 have t2:=λa0 a1 a2 a3 a4 a5 a6 a7 a8 a9 a11 a12 a14=>eb7 (x:=.lst true xs2) w12 a0 a1 a2 a3 a4 a5 a6 a7 a8 a9 a11 a12 a14
 clear wF w12
 walk_at "ev"
end Nk24
namespace PySem.W.Fast
def tw10053008198499159254:=Nat
def tw10085079924694407407:=Nat
def tw10111234709181531990:=Nat
def tw10114369627059119784:=Nat
def tw10143605412791867916:=Nat
def tw10154215166775226891:=Nat
def tw10252369760347021187:=Nat
def tw10265251421037989893:=Nat
def tw10300943403331068672:=Nat
def tw10339998154496489590:=Nat
def tw10344083854541159110:=Nat
def tw10357377867496737927:=Nat
def tw10362995634623078862:=Nat
def tw10369112896180816127:=Nat
def tw10395903115732361109:=Nat
def tw10408854990747778600:=Nat
def tw10416201211229845373:=Nat
def tw10438022767880303178:=Nat
def tw10479017821542994978:=Nat
def tw10517441809038699819:=Nat
def tw10529614707355679086:=Nat
def tw10566769147735460192:=Nat
def tw10578678651952065429:=Nat
def tw10580063546904330731:=Nat
def tw10588107253402946456:=Nat
def tw10640199355142937277:=Nat
def tw10652837174547356562:=Nat
def tw10658274062168698809:=Nat
def tw10666585191008777017:=Nat
def tw10721696334200695988:=Nat
def tw10729760162494381595:=Nat
def tw10746129552381193302:=Nat
def tw10761281659256853933:=Nat
def tw10765370100643252077:=Nat
def tw10793135043752746763:=Nat
def tw1085469021542858930:=Nat
def tw10857517832226958299:=Nat
def tw108635555301877509:=Nat
def tw10892395402581901064:=Nat
def tw10914307378456795775:=Nat
def tw10927174067538837598:=Nat
def tw11008858320297109616:=Nat
def tw11020290075366749943:=Nat
def tw11032169175351392405:=Nat
def tw11060241106079138039:=Nat
def tw11070285448425917539:=Nat
def tw11110143756805788306:=Nat
def tw11158311478676783472:=Nat
def tw11180126469483581347:=Nat
def tw11185463697940843393:=Nat
def tw11210617497082109716:=Nat
def tw11230736697220212047:=Nat
def tw11243417917214628130:=Nat
def tw11262794769283289799:=Nat
def tw11269819099024470518:=Nat
def tw11278725288647370549:=Nat
def tw11310764246532960499:=Nat
def tw11328009541832412859:=Nat
def tw11371779901040548954:=Nat
def tw11401574174978146186:=Nat
def tw11437545913928313450:=Nat
def tw11462783643495808391:=Nat
def tw11467948000386170147:=Nat
def tw11481839879572889864:=Nat
def tw11512410096528894128:=Nat
def tw11523879591401484689:=Nat
def tw11543154597018649541:=Nat
def tw11545833416548364453:=Nat
def tw11585300215500350230:=Nat
def tw11592240837081679913:=Nat
def tw11693958754089205645:=Nat
def tw11710394679709818359:=Nat
def tw11710899768262008579:=Nat
def tw11725737258763030030:=Nat
def tw11727685605787196642:=Nat
def tw11802897439870825160:=Nat
def tw11808930080935991447:=Nat
def tw11811038408288660954:=Nat
def tw11863155550997379951:=Nat
def tw11874871743467390744:=Nat
def tw11876673838058825841:=Nat
def tw11883930107672468665:=Nat
def tw11917679090920449984:=Nat
def tw11970712558284419178:=Nat
def tw11973323762316476383:=Nat
def tw12038985380022666486:=Nat
def tw1211086134384698178:=Nat
def tw12135485827624807299:=Nat
def tw12184372144289711016:=Nat
def tw12195327025273960083:=Nat
def tw12204679465620453372:=Nat
def tw12230604375316888990:=Nat
def tw12251524399684237452:=Nat
def tw12273679234027140521:=Nat
def tw12285097263694955220:=Nat
def tw12309028666728373564:=Nat
def tw12362311105210880902:=Nat
def tw12439807088801437464:=Nat
def tw12497519128050639305:=Nat
def tw12525577381933409194:=Nat
def tw12554902837720819891:=Nat
def tw12560998296913504401:=Nat
def tw12634717466624794068:=Nat
def tw12743542889330138429:=Nat
def tw12750744646093291146:=Nat
def tw12776072982806026343:=Nat
def tw12813328158509013222:=Nat
def tw12840193531142399209:=Nat
def tw12888427138109782920:=Nat
def tw1289803723615154709:=Nat
def tw12899111931589254722:=Nat
def tw12911922441851552082:=Nat
def tw12925003625163322533:=Nat
def tw12956159652961878225:=Nat
def tw12972477780862057159:=Nat
def tw1297734981971867755:=Nat
def tw12979450632158059683:=Nat
def tw13063858460571907563:=Nat
def tw13123584639625834459:=Nat
def tw13186342457787617447:=Nat
def tw1319263071495230187:=Nat
def tw1322486903627110387:=Nat
def tw13255674815235440514:=Nat
def tw13348585350716864599:=Nat
def tw13393668097966231603:=Nat
def tw13429427438649900647:=Nat
def tw13436556319905030658:=Nat
def tw13442584864042393976:=Nat
def tw13548409516873758678:=Nat
def tw13553705978282403993:=Nat
def tw13567532139113100555:=Nat
def tw1357023811472565814:=Nat
def tw13595354480841502078:=Nat
def tw13620309665959863927:=Nat
def tw13649488690031952141:=Nat
def tw13649502319493199602:=Nat
def tw13673161233887256228:=Nat
def tw13679703696530261169:=Nat
def tw13716159335035609669:=Nat
def tw13727652021807972461:=Nat
def tw13751953207361282917:=Nat
def tw13768783148091655822:=Nat
def tw13777755865488470076:=Nat
def tw13777924424842590320:=Nat
def tw13823709743353403291:=Nat
def tw13844666738664603508:=Nat
def tw13858363995493632321:=Nat
def tw13892021470937788560:=Nat
def tw13892742100692030209:=Nat
def tw13896247592013081440:=Nat
def tw13917539624782787697:=Nat
def tw13957935316500480072:=Nat
def tw13966151385611360489:=Nat
def tw14117585056389616724:=Nat
def tw14138697143775699867:=Nat
def tw14197100197265795272:=Nat
def tw14304639075197851945:=Nat
def tw14346807076716745718:=Nat
def tw14354058168555024450:=Nat
def tw14495422939397041866:=Nat
def tw14496779920413453332:=Nat
def tw14527692972404853503:=Nat
def tw14551631590164151641:=Nat
def tw1456943566529207840:=Nat
def tw1462310630064929721:=Nat
def tw14727001457908877519:=Nat
def tw14736491787263279785:=Nat
def tw14738372198556328584:=Nat
def tw14741214352272250321:=Nat
def tw14745406429574720199:=Nat
def tw14770128755816350574:=Nat
def tw14823186901831410093:=Nat
def tw14839844136042621838:=Nat
def tw14888122150144202468:=Nat
def tw14896619613810329553:=Nat
def tw14910494332741587876:=Nat
def tw14923325974607912282:=Nat
def tw15027956854365128751:=Nat
def tw15034201899326123575:=Nat
def tw15087755765551502416:=Nat
def tw15095301160719714685:=Nat
def tw15118523227103703303:=Nat
def tw15123767383161000739:=Nat
def tw15139960630591253663:=Nat
def tw15147361733283619561:=Nat
def tw15161072625768080897:=Nat
def tw15169202176742592965:=Nat
def tw15210714398830178677:=Nat
def tw15233626102842667723:=Nat
def tw15245922419315163141:=Nat
def tw15254653503237482921:=Nat
def tw1527412947942217203:=Nat
def tw15326565244734196253:=Nat
def tw15387522936622714507:=Nat
def tw15387526311458258052:=Nat
def tw15434582747568459297:=Nat
def tw15435890469314835784:=Nat
def tw15453017477432335370:=Nat
def tw15526313356702530206:=Nat
def tw15588828827783218270:=Nat
def tw15634986918822955446:=Nat
def tw15636107686378017165:=Nat
def tw15654305873791874037:=Nat
def tw15658120706291065922:=Nat
def tw15665540244463556397:=Nat
def tw15694687246904994669:=Nat
def tw15770630005848634574:=Nat
def tw15825519569171650708:=Nat
def tw15849853093210721098:=Nat
def tw15858740714797839139:=Nat
def tw15883498593859982884:=Nat
def tw15908275027116430972:=Nat
def tw15949343449474446728:=Nat
def tw15969606335728896922:=Nat
def tw15974867298345876507:=Nat
def tw16030369508930660729:=Nat
def tw16091468365837992970:=Nat
def tw16117386978186251511:=Nat
def tw16170279351459201310:=Nat
def tw16304315756641868230:=Nat
def tw16353632798235618672:=Nat
def tw1635929901806252875:=Nat
def tw16389798168737931501:=Nat
def tw16446038825541315598:=Nat
def tw16477914480563213694:=Nat
def tw1649726424128634923:=Nat
def tw16523201716769387012:=Nat
def tw16651970639458932530:=Nat
def tw16690177280787066462:=Nat
def tw16714395550328206850:=Nat
def tw16733364869817948842:=Nat
def tw16734333794407987875:=Nat
def tw16812302187100852965:=Nat
def tw16850552819032692829:=Nat
def tw16863481613281439671:=Nat
def tw16876236783729051229:=Nat
def tw16882385133405676093:=Nat
def tw1689175535285433295:=Nat
def tw16928850457509585887:=Nat
def tw16962346652321798638:=Nat
def tw16986550005889091655:=Nat
def tw17060120129115114033:=Nat
def tw17152088758456073952:=Nat
def tw17187277535065445175:=Nat
def tw17210118728710595625:=Nat
def tw17259466715036664428:=Nat
def tw17269475567899386808:=Nat
def tw17308323757887813078:=Nat
def tw17364642439455843824:=Nat
def tw173957944924665742:=Nat
def tw17404714221876578147:=Nat
def tw17422372004386094484:=Nat
def tw17424203786847398064:=Nat
def tw1742726007315842294:=Nat
def tw17448287318000044120:=Nat
def tw1748056173677327112:=Nat
def tw17516260995639961585:=Nat
def tw17519720869299987752:=Nat
def tw17520605424632921449:=Nat
def tw17522435293522382470:=Nat
def tw17542487836613155162:=Nat
def tw17567074042791923639:=Nat
def tw17572173031588868992:=Nat
def tw1758163756536732999:=Nat
def tw17707617602974815723:=Nat
def tw17829514276950149813:=Nat
def tw17835709586527837806:=Nat
def tw17927295904751503544:=Nat
def tw17935736002217136615:=Nat
def tw18010435514769739378:=Nat
def tw18010748640168992093:=Nat
def tw18047289693030282838:=Nat
def tw18080415947111429019:=Nat
def tw18083650773392117434:=Nat
def tw18103609839632662723:=Nat
def tw18120857260853128574:=Nat
def tw18144351735294751742:=Nat
def tw18201428708717763697:=Nat
def tw18299542008203194244:=Nat
def tw1831145322895917349:=Nat
def tw18318421433986640013:=Nat
def tw18361691402347156581:=Nat
def tw18393571667191976782:=Nat
def tw1839451699512405972:=Nat
def tw18411798085213907639:=Nat
def tw18439994201707176575:=Nat
def tw18441065617896733532:=Nat
def tw1861154725261852917:=Nat
def tw187667858930629511:=Nat
def tw1884448299083613475:=Nat
def tw1983067811678544590:=Nat
def tw1998250004127345365:=Nat
def tw2015488127997168787:=Nat
def tw2026872797311463090:=Nat
def tw2043813877117497943:=Nat
def tw2074885059621577649:=Nat
def tw2079309116504419533:=Nat
def tw2098266236779272689:=Nat
def tw2153194152632824141:=Nat
def tw2158752954236724907:=Nat
def tw2191347811553719886:=Nat
def tw2212323756559202365:=Nat
def tw2218051732028756717:=Nat
def tw226432452974827097:=Nat
def tw2270837147850698173:=Nat
def tw2281236072017108785:=Nat
def tw2321340271734290515:=Nat
def tw2329969777852237019:=Nat
def tw2331458628207701624:=Nat
def tw2404165886461114283:=Nat
def tw2421436924648819100:=Nat
def tw2435707511697865254:=Nat
def tw2465396923122751892:=Nat
def tw2522433413162002379:=Nat
def tw2525990146126061036:=Nat
def tw2530473223463617787:=Nat
def tw2537352609766865975:=Nat
def tw2543288988224947776:=Nat
def tw2563677280936707495:=Nat
def tw2610441847405592600:=Nat
def tw2629847083589420695:=Nat
def tw2639478681239652226:=Nat
def tw2653197153728174768:=Nat
def tw2655613198792277427:=Nat
def tw2661256092446693336:=Nat
def tw2672967515557766534:=Nat
def tw2679853830373534267:=Nat
def tw2699134803965971702:=Nat
def tw2701448676707418805:=Nat
def tw2708876180654325843:=Nat
def tw2760352631606144479:=Nat
def tw2848031432735773029:=Nat
def tw2854226982061936266:=Nat
def tw2898450719996963124:=Nat
def tw2940350724642404305:=Nat
def tw2948086975593827367:=Nat
def tw2955579601828710555:=Nat
def tw297824203352859410:=Nat
def tw3021301558180646914:=Nat
def tw3054077023610790725:=Nat
def tw308862289218206185:=Nat
def tw3145159614482301113:=Nat
def tw3158417712028446525:=Nat
def tw316056464071929392:=Nat
def tw316618299917387855:=Nat
def tw3199091880568486078:=Nat
def tw3205129962160609899:=Nat
def tw3244459963706722735:=Nat
def tw3254719778519326080:=Nat
def tw3298206660024346337:=Nat
def tw331287211755362951:=Nat
def tw3380390938449260872:=Nat
def tw3392664256911891541:=Nat
def tw3409042697701861350:=Nat
def tw3465426762862409432:=Nat
def tw3507204330087203369:=Nat
def tw3520855545891176621:=Nat
def tw3522934987084741579:=Nat
def tw3567565178752245773:=Nat
def tw3584712097536334584:=Nat
def tw3595771803269105296:=Nat
def tw3691542524644656564:=Nat
def tw37449329017613931:=Nat
def tw3804468293671725381:=Nat
def tw3819133271928283078:=Nat
def tw3840448052994147641:=Nat
def tw392893001778457845:=Nat
def tw3965600792877322309:=Nat
def tw400484693323353356:=Nat
def tw4037858523725462127:=Nat
def tw4049154875252030623:=Nat
def tw4064486929664103044:=Nat
def tw4095187012437455699:=Nat
def tw4168830648455841881:=Nat
def tw4195443148887306107:=Nat
def tw4241798108621156044:=Nat
def tw427848061537393041:=Nat
def tw4278562195776742109:=Nat
def tw4320048760839446353:=Nat
def tw4377858499152659293:=Nat
def tw4391386886313085638:=Nat
def tw4439363366789545897:=Nat
def tw4452372620921164169:=Nat
def tw4477474246569793462:=Nat
def tw4492123486166599392:=Nat
def tw4518829049464008845:=Nat
def tw4522071404801057306:=Nat
def tw452377139841381324:=Nat
def tw4523826983909975556:=Nat
def tw4530931528615415893:=Nat
def tw460083580009088214:=Nat
def tw4611904317382828462:=Nat
def tw4646286101916140588:=Nat
def tw466002227262951969:=Nat
def tw4668921655576090302:=Nat
def tw4688545890710134402:=Nat
def tw4694728407388504770:=Nat
def tw4713519221589289788:=Nat
def tw4768604545607673342:=Nat
def tw4821779280860644375:=Nat
def tw4822617308788819459:=Nat
def tw4830025372510545230:=Nat
def tw4847894465656933350:=Nat
def tw4883445505065391705:=Nat
def tw4905469306950118295:=Nat
def tw493404347997571249:=Nat
def tw5030611086821027490:=Nat
def tw504554094044313000:=Nat
def tw5096084938378338200:=Nat
def tw5140094045540899034:=Nat
def tw5147009652413817310:=Nat
def tw5163891636674773834:=Nat
def tw5186682303592892448:=Nat
def tw5209700417680417620:=Nat
def tw5240083511166000204:=Nat
def tw5244408239336317962:=Nat
def tw5282834985561151407:=Nat
def tw5283854105310192933:=Nat
def tw5348603633380078519:=Nat
def tw5356484864488971512:=Nat
def tw5413441117894923158:=Nat
def tw5439479468557033390:=Nat
def tw5498435786881980729:=Nat
def tw5516278574406162506:=Nat
def tw5530338539513354584:=Nat
def tw5585168108678485527:=Nat
def tw5592463587050552555:=Nat
def tw5618621104768537656:=Nat
def tw5647377199835427983:=Nat
def tw5673312579255971390:=Nat
def tw5699784162396107630:=Nat
def tw574156716991413042:=Nat
def tw5744334249828955864:=Nat
def tw5759693714015385928:=Nat
def tw5803535607251169309:=Nat
def tw580523327719638826:=Nat
def tw5805363001969866554:=Nat
def tw5805880615134893627:=Nat
def tw5865136503967674787:=Nat
def tw591412796705975958:=Nat
def tw5948588513519747323:=Nat
def tw5955970047893592759:=Nat
def tw5963528912566089641:=Nat
def tw6073712688414792657:=Nat
def tw6074076657210663315:=Nat
def tw6081919626366494694:=Nat
def tw6157014356182616991:=Nat
def tw6223236706807316609:=Nat
def tw622446456283877132:=Nat
def tw6238726580465127737:=Nat
def tw6258775806057356035:=Nat
def tw6260106690472395086:=Nat
def tw6264380029855377795:=Nat
def tw6267140981010068642:=Nat
def tw6359345450232633527:=Nat
def tw643742496977295894:=Nat
def tw6438432742328805913:=Nat
def tw6464681119803582178:=Nat
def tw6494859394997624198:=Nat
def tw6521379258641399529:=Nat
def tw6523014481507442415:=Nat
def tw6534676178597021729:=Nat
def tw6577899668135845772:=Nat
def tw6615242984487299788:=Nat
def tw6623924134065240329:=Nat
def tw6698944403044604184:=Nat
def tw6719183017988634494:=Nat
def tw6734982656671469016:=Nat
def tw678719970289855428:=Nat
def tw6811044287137331234:=Nat
def tw6826031670773248008:=Nat
def tw6865320558472760761:=Nat
def tw6880948590671889864:=Nat
def tw6916615006235873966:=Nat
def tw692528335075725940:=Nat
def tw6950861272047210202:=Nat
def tw6950942701003212998:=Nat
def tw6955256481761913062:=Nat
def tw6964752796103452495:=Nat
def tw6987488644189324019:=Nat
def tw7000268842980565932:=Nat
def tw7128885531614082591:=Nat
def tw7130748730518639017:=Nat
def tw7167323590553971643:=Nat
def tw7168348122821532957:=Nat
def tw7196752145168341942:=Nat
def tw7243701579434627527:=Nat
def tw7268995374706972492:=Nat
def tw7331630978603584788:=Nat
def tw7337167970869502391:=Nat
def tw7337625609478159184:=Nat
def tw7394966800659031023:=Nat
def tw7435689042396483030:=Nat
def tw7449957248004242752:=Nat
def tw7468277986475794812:=Nat
def tw7485180493852031355:=Nat
def tw7494463629583622745:=Nat
def tw7504335067666833337:=Nat
def tw7542180185855981300:=Nat
def tw7593527240869161544:=Nat
def tw7601100633817318819:=Nat
def tw760435238817861058:=Nat
def tw7648489528630020146:=Nat
def tw7668221250166463794:=Nat
def tw7698687925728597508:=Nat
def tw7706392128044180745:=Nat
def tw7721676671783051771:=Nat
def tw7773828893138873693:=Nat
def tw7775172308942370677:=Nat
def tw7832750807033854091:=Nat
def tw7837749137799342032:=Nat
def tw7861119705606706590:=Nat
def tw7867329237326985628:=Nat
def tw7876492538421705566:=Nat
def tw7879298639540248479:=Nat
def tw7900809663117519302:=Nat
def tw7902227292123147350:=Nat
def tw7922082077686183136:=Nat
def tw7922099778919880417:=Nat
def tw7948742575078431968:=Nat
def tw796093834086728124:=Nat
def tw7982132186390069064:=Nat
def tw7984851044357675017:=Nat
def tw7988445041893487063:=Nat
def tw8015644083151588619:=Nat
def tw8020462247941277395:=Nat
def tw8029401831220155305:=Nat
def tw8039930997837949181:=Nat
def tw8074669302124801960:=Nat
def tw8098780670664012591:=Nat
def tw8101951249452026363:=Nat
def tw8134907166678017019:=Nat
def tw8135647759077490943:=Nat
def tw814970182202905707:=Nat
def tw8158107008351266683:=Nat
def tw8167407395534291030:=Nat
def tw8174956046397359670:=Nat
def tw8204412805156079116:=Nat
def tw8241227138723853866:=Nat
def tw8241799015817719735:=Nat
def tw8247693647383373663:=Nat
def tw8282145196369734664:=Nat
def tw8312464331888219850:=Nat
def tw8340984025444293346:=Nat
def tw8363113006069434856:=Nat
def tw8406588052148494335:=Nat
def tw8448755805445506196:=Nat
def tw8454130304461791111:=Nat
def tw8478321481341856490:=Nat
def tw8483661994701939285:=Nat
def tw8529354199143200686:=Nat
def tw8541237936057094417:=Nat
def tw8592794512513410682:=Nat
def tw8613134579872542619:=Nat
def tw8675387296058751197:=Nat
def tw8698760262839256046:=Nat
def tw8722943613414590805:=Nat
def tw8728564568509388907:=Nat
def tw8730476314282802757:=Nat
def tw8758251692635311801:=Nat
def tw8763980376402701049:=Nat
def tw878657119702094765:=Nat
def tw8822494946476120264:=Nat
def tw8834212228019147725:=Nat
def tw884905630808778034:=Nat
def tw8866701849699010791:=Nat
def tw8886368730501074160:=Nat
def tw8894431034616971574:=Nat
def tw8907891135897125514:=Nat
def tw891748741604116861:=Nat
def tw8926249671664091955:=Nat
def tw8990593478406039673:=Nat
def tw9003593842387230463:=Nat
def tw9019976120104893511:=Nat
def tw9028161498173835055:=Nat
def tw904473910659702210:=Nat
def tw9050203812421710301:=Nat
def tw907061566577445513:=Nat
def tw9097841322585996538:=Nat
def tw9126521745259408047:=Nat
def tw9141730682483992839:=Nat
def tw9147378455277004273:=Nat
def tw9244179370319965500:=Nat
def tw9245902718126393405:=Nat
def tw9294818787599320286:=Nat
def tw9353428064010888371:=Nat
def tw9362214103006189658:=Nat
def tw9410652288068341655:=Nat
def tw9444168927000177528:=Nat
def tw9450651812833675435:=Nat
def tw9539240666326012728:=Nat
def tw9546546992434228758:=Nat
def tw9548574082117678332:=Nat
def tw9554539166745553192:=Nat
def tw9571616957022884521:=Nat
def tw9619596560556534260:=Nat
def tw9656096002150251230:=Nat
def tw973542888837083661:=Nat
def tw9753584075290235222:=Nat
def tw9779794558281365685:=Nat
def tw9788516996312747859:=Nat
def tw9797691548108728343:=Nat
def tw979864741164276292:=Nat
def tw9870927710899334895:=Nat
def tw9891847314872653083:=Nat
def tw9935591552394210778:=Nat
def tw9938901726893893375:=Nat
def tw9944616640940837323:=Nat
def tw9955878081124914948:=Nat
def tw9972459117053797678:=Nat
def tw9987194258030468162:=Nat
end PySem.W.Fast
open PySem PySem.W PyProof.Rows
set_option maxRecDepth 100000 in
set_option maxHeartbeats 0 in
theorem PySem.Challenge.cw_inkyears_k24_whole_dating_or_ring_holds : PySem.Challenge.rw_inkyears_k24_whole_dating_or_ring.Holds := by
 w_on;o_law;k_head;(case hw=>w_witness2)
 k_fill
 refine L2.dl1 (l:=PySem.Challenge.rw_inkyears_k24_whole_dating_or_ring) (k:=8) (x:="_law_script") rfl rfl ⟨rfl,by decide,by decide⟩ (λw h Y=>PySem.W.kIn_of Y) ?F
 case F=>
  intro w mg fa h KX G hmg
  refine' Nk24.ex1 (cn:=λx=>[(("Archive":Str),?c_Archive),(("Ink":Str),?c_Ink),(("Reign":Str),?c_Reign),(("Under":Str),?c_Under),(("Between":Str),?c_Between),(("After":Str),?c_After),(("Same":Str),?c_Same),(("Within":Str),?c_Within),(("Apart":Str),?c_Apart)].lookup x) (c_Archive:=?c_Archive) (c_Ink:=?c_Ink) (c_Reign:=?c_Reign) (c_Under:=?c_Under) (c_Between:=?c_Between) (c_After:=?c_After) (c_Same:=?c_Same) (c_Within:=?c_Within) (c_Apart:=?c_Apart) KX G hmg ?a0 ?l0 ?c0 ?k0 ⟨?T0,?T1,?T2,?T3,?T4,?T5,?T6,?T7,?T8,?T9,?T10,?T11,?T12,?T13,?T14,?T15,?T16,?T17,?T18,?T19,?T20,?T21,?T22,?T23,?T24,?T25,?T26,?T27,?T28,?T29,?T30,?T31,?T32,?T33,?T34,?T35,?T36,?T37,?T38,?T39,?T40,?T41,?T42,?T43,?T44,?T45,?T46,?T47,?T48,?T49,?T50,?T51,?T52,?T53,?T54,?T55,?T56,?T57,?T58,?T59,?T60,?T61,?T62,?T63,?T64,?T65,?T66,?T67,?T68,?T69,?T70,?T71,?T72,?T73,?T74,?T75,?T76,?T77,?T78,?T79,?T80,?T81,?T82,?T83,?T84,?T85,?T86,?T87,?T88,?t0,?t1,?t2,?t3,?t4,?t5,?t6,?t7,?t8,?t9,?t10,?t11,?t12,?t13,?t14,?t15,?t16,?t17,?t18,?t19,?t20,?t21,?t22,?t23,?t24,?t25,?t26,?t27,?t28,?t29,?t30,?t31,?t32,?t33,?t34,?t35,?t36,?t37,?t38,?t39,?t40,?t41,?t42,?t43,?t44,?t45,?t46,?t47,?t48,?t49,?t50,?t51,?t52,?t53,?t54,?t55,?t56,?t57,?t58,?t59,?t60,?t61,?t62,?t63,?t64,?t65,?t66,?t67,?t68,?t69,?t70,?t71,?t72,?t73,?t74,?t75,?t76,?t77,?t78,?t79,?t80,?t81,?t82,?t83,?t84,?t85,?t86,?t87,?t88,?t89,?t90,?t91⟩ Nk24.main
  (case a0=>k_is);(case l0=>k_is);(case c0=>k_is);(case k0=>k_is)
  all_goals try(refine' L2.ev0 KX G ?a ?l ?c ?k;(case a=>k_is);(case l=>k_is);(case c=>k_is);(case k=>k_is))
  all_goals try(refine' L2.dh7 KX G ?g ?mk ?a ?b ?kc ?l ?c ?k;(case g=>k_is);(case mk=>k_is);(case a=>k_is);(case b=>k_is);(case kc=>k_is);(case l=>k_is);(case c=>k_is);(case k=>k_is))
  all_goals try(refine' L2.db9 ?a ?b ?l ?c ?k;(case a=>k_is);(case b=>k_is);(case l=>k_is);(case c=>k_is);(case k=>k_is))
  case t83=>(refine' L2.at9 KX G ?g ?l ?r ?nd ?sm;(case g=>k_is);(case l=>k_is);(case r=>exact .cons (.cons (.cons (.cons (.cons (.cons (.cons (.cons (.nil)))))))));(case nd=>decide+kernel);(case sm=>rfl))
  all_goals try exact L2.ej5 KX G (by k_is) rfl
  all_goals try exact PySem.W.mg_none_of KX G (by k_is)
  all_goals try(refine' L2.ek1 KX G ?a ?r;(case a=>k_is);(case r=>exact⟨_,rfl⟩))
  case T30=>(refine' L2.at9 KX G ?g ?l ?r ?nd ?sm;(case g=>k_is);(case l=>k_is);(case r=>exact .cons (.cons (.cons (.cons (.cons (.nil))))));(case nd=>decide+kernel);(case sm=>rfl))
  case T31=>exact .cons (TL.kQ (by k_is) (.int (.int .nil)) (by decide)) (.cons (TL.kQ (by k_is) (.int (.int .nil)) (by decide)) (.cons (TL.kQ (by k_is) (.int (.int .nil)) (by decide)) (.cons (TL.kQ (by k_is) (.int (.int .nil)) (by decide)) (.cons (TL.kQ (by k_is) (.int (.int .nil)) (by decide)) (.nil)))))
  case T32=>(refine' L2.at9 KX G ?g ?l ?r ?nd ?sm;(case g=>k_is);(case l=>k_is);(case r=>exact .cons (.cons (.cons (.cons (.cons (.cons (.cons (.cons (.nil)))))))));(case nd=>decide+kernel);(case sm=>rfl))
  case T33=>exact .cons (TL.kQ (by k_is) (.str (.str (.str (.str .nil)))) (by decide)) (.cons (TL.kQ (by k_is) (.str (.str (.str .nil))) (by decide)) (.cons (TL.kQ (by k_is) (.str (.str .nil)) (by decide)) (.cons (TL.kQ (by k_is) (.str (.str (.str .nil))) (by decide)) (.cons (TL.kQ (by k_is) (.str (.str .nil)) (by decide)) (.cons (TL.kQ (by k_is) (.str (.str .nil)) (by decide)) (.cons (TL.kQ (by k_is) (.str (.str (.str .nil))) (by decide)) (.cons (TL.kQ (by k_is) (.str (.str (.str (.str .nil)))) (by decide)) (.nil))))))))
  case T34=>rfl
  all_goals try(refine' L2.dt9 ?a ?b ?c ?d;(case a=>k_is);(case b=>k_is);(case c=>k_is);(case d=>k_is))
  case T36=>rfl
  case T38=>rfl
  case T40=>rfl
  case T42=>rfl
  case T44=>rfl
  case T46=>rfl
  case T48=>rfl
  case T50=>rfl
  all_goals try exact L2.ea6 (by k_is)
