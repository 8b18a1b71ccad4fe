import PyProof.Rows.All
import Wide.All
import OpenK.AllK
import Wide.FinOn
import Lean
import PyProof.EqAt
import PyProof.EqKinds
import PyProof.TupleCall
import PyProof.NeKinds
import PyProof.ZipIter
import PyProof.EnumMake
import PyProof.Rows.ZipGen
import PyProof.Rows.SetFrom
import PyProof.IsiNone
import KE.KRevSl
import PyProof.Rows.ListMul
import PyProof.ListRange
import PyProof.Rows.SumAny
import PySem.Challenge.RW_inkyears_k12_what_sayings_say
set_option Elab.async false
set_option compiler.extract_closed false
set_option linter.all false
set_option maxRecDepth 100000
set_option maxHeartbeats 4000000

namespace L2
open PySem PySem.Spec PyProof.Rows
abbrev qC:=Sum Int Str
def ct4:qC->Value->Bool
 |.inl k,v=>Value.isInt k v
 |.inr x,v=>Value.isStrOf x v
def eb0(w:World):qC->Int
 |.inl k=>hashInt k
 |.inr x=>hashStr w x
theorem iK:∀{k:qC}{v:Value},ct4 k v=true->(∃i t,k=Sum.inl i/\v=Value.int i t)\/(∃x t,k=Sum.inr x/\v=Value.str x t)
 |.inl i,v,h=>by
  obtain⟨t,e⟩:=Value.isInt_shape (k:=i) (v:=v) h
  exact .inl ⟨i,t,rfl,e⟩
 |.inr x,v,h=>by
  obtain⟨t,e⟩:=Value.isStrOf_shape (x:=x) (v:=v) h
  exact .inr ⟨x,t,rfl,e⟩
theorem dw0(a b:Int):decide ((Sum.inl a:qC)=Sum.inl b)=(a==b):=by
 by_cases e:a=b
 . subst e;simp
 . have h:¬(Sum.inl a:qC)=Sum.inl b:=λq=>e (Sum.inl.inj q)
   rw[decide_eq_false h]
   exact(beq_eq_false_iff_ne.mpr e).symm
theorem df0(a b:Str):decide ((Sum.inr a:qC)=Sum.inr b)=decide (a=b):=by
 by_cases e:a=b
 . subst e;simp
 . have h:¬(Sum.inr a:qC)=Sum.inr b:=λq=>e (Sum.inr.inj q)
   rw[decide_eq_false h,decide_eq_false e]
theorem df2(a:Int)(b:Str):decide ((Sum.inl a:qC)=Sum.inr b)=false:=decide_eq_false (λq=>nomatch q)
theorem dt4(a:Str)(b:Int):decide ((Sum.inr a:qC)=Sum.inl b)=false:=decide_eq_false (λq=>nomatch q)
def av4(prog:Program)(w:World):PySem.KeyKind prog w qC where
 is:=ct4
 hash:=eb0 w
 inj:=λv a b ha hb=>by
  rcases iK ha with⟨i,t,rfl,rfl⟩|⟨x,t,rfl,rfl⟩
  . rcases iK hb with⟨j,u,rfl,e⟩|⟨y,u,rfl,e⟩
    . injection e with e1 _;rw[e1]
    . exact nomatch e
  . rcases iK hb with⟨j,u,rfl,e⟩|⟨y,u,rfl,e⟩
    . exact nomatch e
    . injection e with e1 _;rw[e1]
 byValue:=λk v h=>by
  rcases iK h with⟨i,t,rfl,rfl⟩|⟨x,t,rfl,rfl⟩<;>rfl
 pyHash:=λhv h=>by
  rcases iK hv with⟨i,t,rfl,rfl⟩|⟨x,t,rfl,rfl⟩
  . exact wpAny_pyHash_int h
  . exact wpAny_pyHash_str h
 eqBool:=λhu hv h=>by
  rcases iK hu with⟨i,t,rfl,rfl⟩|⟨x,t,rfl,rfl⟩
  . rcases iK hv with⟨j,u,rfl,rfl⟩|⟨y,u,rfl,rfl⟩
    . rw[dw0]at h;exact wpAny_eqBool_int h
    . rw[df2]at h;exact SeqAt.EqAt.int_str i t y u _ _ _ _ h
  . rcases iK hv with⟨j,u,rfl,rfl⟩|⟨y,u,rfl,rfl⟩
    . rw[dt4]at h;exact SeqAt.EqAt.str_int x t j u _ _ _ _ h
    . rw[df0]at h;exact wpAny_eqBool_str h
 «strs»:=λk x t v h=>by
  rcases iK h with⟨i,u,rfl,e⟩|⟨y,u,rfl,e⟩
  . exact nomatch e
  . injection e with e1 _
    subst e1
    cases v<;>rfl
end L2
namespace L2
open PySem PySem.Spec PyProof.Rows
inductive V where
 |non|bl (b:Bool)|int (i:Int)|str (x:Str)|byt (b:Array UInt8)|flt (b:UInt64)|ref (a:Addr)|ty (n:String)
 deriving DecidableEq
def RelV:V->Value->Prop
 |.non,u=>u=Value.none
 |.bl b,u=>u=Value.bool b
 |.int i,u=>∃t,u=Value.int i t
 |.str x,u=>∃t,u=Value.str x t
 |.byt b,u=>∃t,u=Value.bytes b t
 |.flt b,u=>∃t,u=Value.float b t
 |.ref a,u=>u=Value.ref a
 |.ty n,u=>u=Value.type n
abbrev Vals:List V->List Value->Prop:=Paired RelV
theorem Vals.length(r:Vals xs us):xs.length=us.length:=Paired.length r
theorem Vals.get:∀{xs:List V}{us:List Value}{i:Nat}{x:V},Vals xs us->xs[i]?=some x->∃u,us[i]?=some u/\RelV x u
 |_,_,_,_,.nil,e=>by simp at e
 |_,_,0,_,.cons r _,e=>by simp at e;subst e;exact⟨_,rfl,r⟩
 |_,_,i+1,x,.cons _ t,e=>by
  obtain⟨u,h1,h2⟩:=Vals.get (i:=i) (x:=x) t (by simpa using e)
  exact⟨u,by simpa using h1,h2⟩
theorem Vals.set(r:RelV x u):∀{xs:List V}{us:List Value}(i:Nat),Vals xs us->Vals (xs.set i x) (us.set i u)
 |_,_,_,.nil=>.nil
 |_,_,0,.cons _ t=>.cons r t
 |_,_,i+1,.cons q t=>.cons q (Vals.set r i t)
theorem Vals.append:∀{xs ys:List V}{us ws:List Value},Vals xs us->Vals ys ws->Vals (xs++ys) (us++ws)
 |_,_,_,_,.nil,s=>s
 |_,_,_,_,.cons r t,s=>.cons r (Vals.append t s)
theorem Vals.take:∀{xs:List V}{us:List Value}(n:Nat),Vals xs us->Vals (xs.take n) (us.take n)
 |_,_,0,_=>.nil
 |_,_,_+1,.nil=>.nil
 |_,_,n+1,.cons r t=>.cons r (Vals.take n t)
theorem Vals.drop:∀{xs:List V}{us:List Value}(n:Nat),Vals xs us->Vals (xs.drop n) (us.drop n)
 |_,_,0,r=>r
 |_,_,_+1,.nil=>.nil
 |_,_,n+1,.cons _ t=>Vals.drop n t
def RelO:Option V->Option Value->Prop
 |some v,some u=>RelV v u
 |none,none=>True
 |_,_=>False
def KV{κ:Type}:List (κ×V)->List (κ×Value)->Prop:=Paired λ(p:κ×V)(q:κ×Value)=>p.1=q.1/\RelV p.2 q.2
def kV:qC->V
 |.inl i=>.int i
 |.inr x=>.str x
inductive HO where
 |lst (xs:List V)
 |tup (xs:List V)
 |dK (kvs:List (qC×V))|dT (kvs:List (List qC×V))
 |set (S:Int->Bool) (n:Nat)
 |ins (C dx:Addr) (fs:List (Str×V))
 |own (x:Addr)
 |xd (fs:List (Str×V))
 |met (f x:Addr)
 |rng (lo hi:Int)
 |frz (o:Obj) (u:HO)
 |tbl (ps:Array Value)
 |ext (φ:Heap->Prop)
abbrev Hp:=Addr->Option HO
def upd(H:Hp)(a:Addr)(o:HO):Hp:=λb=>if b=a then some o else H b
theorem eT:upd H a o a=some o:=by unfold upd;rw[if_pos rfl]
theorem cK(h:b≠a):upd H a o b=H b:=by unfold upd;rw[if_neg h]
theorem iM{H:Hp}{a b:Addr}{o:HO}(h:H a=some o)(h':H b=none):a≠b:=by
 intro e;subst e;rw[h]at h';cases h'
section
variable (P : Program) (w : World)
def ObjOk(H:Hp)(h:Heap)(a:Addr):HO->Prop
 |.lst xs=>xs.length<=sizeLine/\∃(its:List Value)(n:Nat),Vals xs its/\h.get? a=some {cls:=.type "list",data:=.seq its.toArray n}
 |.tup xs=>xs.length<=sizeLine/\∃its:List Value,Vals xs its/\IsTup h a its.toArray
 |.dK kvs=>kvs.length<=sizeLine/\(a==sysModules)=false/\∃vs,KV kvs vs/\h.DictOf (av4 P w) a vs
 |.dT kvs=>kvs.length<=sizeLine/\(a==sysModules)=false/\∃xs:List (List qC×Addr×Value),
  Paired (λ(p:List qC×V)(q:List qC×Addr×Value)=>p.1=q.1/\H q.2.1=some (.tup (p.1.map kV))/\RelV p.2 q.2.2) kvs xs/\
  ∃o es ep,h.get? a=some o/\o.ExactDict/\o.data=.dict es ep/\es.toList=xs.map (entryOfKey (tupleKind (av4 P w)))/\(xs.map (·.1)).Nodup
 |.set S n=>h.SetOf (intKind P w) a S n
 |.ins C dx fs=>H dx=some (.own a)/\fs.length<=1000/\dx≠a/\h.get? a=some (PySem.W.instObj C dx)/\
  ∃mA,h.Ns1 dx mA/\(∀f,RelO (fs.lookup f) (mA f))/\PySem.Within mA (fs.map (·.1))
 |.own _=>∃o,h.get? a=some o
 |.xd fs=>∃mA,h.Ns1 a mA/\∀f,RelO (fs.lookup f) (mA f)
 |.rng lo hi=>∃t u v,h.get? a=some {cls:=.type "range",data:=.fields #[.int lo t,.int hi u,.int 1 v]}
 |.frz o u=>h.get? a=some o/\ObjOk H h a u
 |.tbl ps=>h.get? a=some {cls:=.none,data:=.fields ps}
 |.met f x=>h.get? a=some (PySem.W.methodObj (.ref f) (.ref x))
 |.ext φ=>φ h/\(∃o,h.get? a=some o)/\∀h1 h2:Heap,φ h1->(∀o,h1.get? a=some o->h2.get? a=some o)->φ h2
def HOk(H:Hp)(h:Heap):Prop:=∀a o,H a=some o->ObjOk P w H h a o
end
section
variable {P : Program} {w : World} {H H' : Hp} {h h' : Heap} {a : Addr} {o : HO}
theorem ObjOk.lt(x:ObjOk P w H h a o):a<h.objs.size:=by
 cases o with
 |lst xs=>obtain⟨_,_,_,_,e⟩:=x;exact Heap.lt_size e
 |tup xs=>obtain⟨_,_,_,p⟩:=x;exact p.lt
 |dK kvs=>obtain⟨_,_,_,_,o,_,_,e,_⟩:=x;exact Heap.lt_size e
 |dT kvs=>obtain⟨_,_,_,_,o,_,_,e,_⟩:=x;exact Heap.lt_size e
 |set S n=>obtain⟨o,_,_,_,e,_⟩:=x;exact Heap.lt_size e
 |ins C dx fs=>obtain⟨_,_,_,e,_⟩:=x;exact Heap.lt_size e
 |own y=>obtain⟨_,e⟩:=x;exact Heap.lt_size e
 |xd fs=>obtain⟨_,⟨_,_,_,e,_⟩,_⟩:=x;exact Heap.lt_size e
 |rng lo hi=>obtain⟨_,_,_,e⟩:=x;exact Heap.lt_size e
 |frz ob u=>obtain⟨e,_⟩:=x;exact Heap.lt_size e
 |tbl ps=>exact Heap.lt_size (show h.get? a=some _ from x)
 |met f y=>exact Heap.lt_size (show h.get? a=some _ from x)
 |ext φ=>obtain⟨_,⟨_,e⟩,_⟩:=x;exact Heap.lt_size e
theorem Paired.mapP:∀{l₁:List α}{l₂:List β},Paired F l₁ l₂->(∀a b,F a b->G a b)->Paired G l₁ l₂
 |_,_,.nil,_=>.nil
 |_,_,.cons r t,f=>.cons (f _ _ r) (Paired.mapP t f)
theorem ObjOk.stay(x:ObjOk P w H h a o)(k:∀b u,(b=a\/H b=some (.own a))->h.get? b=some u->h'.get? b=some u)
 (ho:∀b,H b=some (.own a)->H' b=some (.own a))(ht:∀b xs,H b=some (.tup xs)->H' b=some (.tup xs)):ObjOk P w H' h' a o:=by
 induction o with
 |lst xs=>obtain⟨z,its,n,r,e⟩:=x;exact⟨z,its,n,r,k _ _ (.inl rfl) e⟩
 |tup xs=>obtain⟨z,its,r,ob,e,c⟩:=x;exact⟨z,its,r,ob,k _ _ (.inl rfl) e,c⟩
 |dK kvs=>obtain⟨z,y,vs,r,ob,es,ep,e,c⟩:=x;exact⟨z,y,vs,r,ob,es,ep,k _ _ (.inl rfl) e,c⟩
 |dT kvs=>
  obtain⟨z,y,xs,r,ob,es,ep,e,c⟩:=x
  exact⟨z,y,xs,Paired.mapP r λp q z=>⟨z.1,ht _ _ z.2.1,z.2.2⟩,ob,es,ep,k _ _ (.inl rfl) e,c⟩
 |set S n=>obtain⟨ob,es,ep,t,e,c⟩:=x;exact⟨ob,es,ep,t,k _ _ (.inl rfl) e,c⟩
 |ins C dx fs=>
  obtain⟨d,z,ne,e,mA,⟨od,es,ep,e2,c⟩,r⟩:=x
  exact⟨ho _ d,z,ne,k _ _ (.inl rfl) e,mA,⟨od,es,ep,k _ _ (.inr d) e2,c⟩,r⟩
 |own y=>obtain⟨ob,e⟩:=x;exact⟨ob,k _ _ (.inl rfl) e⟩
 |xd fs=>obtain⟨mA,⟨od,es,ep,e,c⟩,r⟩:=x;exact⟨mA,⟨od,es,ep,k _ _ (.inl rfl) e,c⟩,r⟩
 |rng lo hi=>obtain⟨t,u,v,e⟩:=x;exact⟨t,u,v,k _ _ (.inl rfl) e⟩
 |frz ob u ih=>obtain⟨e,q⟩:=x;exact⟨k _ _ (.inl rfl) e,ih q⟩
 |tbl ps=>
  have e:h.get? a=some {cls:=.none,data:=.fields ps}:=x
  show h'.get? a=some {cls:=.none,data:=.fields ps}
  exact k a _ (.inl rfl) e
 |met f y=>
  have e:h.get? a=some (PySem.W.methodObj (.ref f) (.ref y)):=x
  show h'.get? a=some (PySem.W.methodObj (.ref f) (.ref y))
  exact k a _ (.inl rfl) e
 |ext φ=>obtain⟨p,⟨o,e⟩,st⟩:=x;exact⟨st _ _ p λo q=>k _ _ (.inl rfl) q,⟨o,k _ _ (.inl rfl) e⟩,st⟩
theorem HOk.lt(x:HOk P w H h)(e:H a=some o):a<h.objs.size:=(x a o e).lt
theorem HOk.fresh(x:HOk P w H h)(e:h.objs.size<=a):H a=none:=by
 cases q:H a with
 |none=>rfl
 |some u=>exact absurd (Nat.lt_of_lt_of_le (x.lt q) e) (Nat.lt_irrefl _)
theorem HOk.kept(x:HOk P w H h)(k:∀b u,h.get? b=some u->h'.get? b=some u):HOk P w H h':=λa o e=>
 (x a o e).stay (λb u _ q=>k b u q) (λ_ q=>q) λ_ _ q=>q
theorem HOk.laid(x:HOk P w H h)(k:∀b u,h.get? b=some u->h'.get? b=some u)(hp:h.objs.size<=a)(new:ObjOk P w (upd H a o) h' a o):HOk P w (upd H a o) h':=λb u e=>by
 have hn:=x.fresh hp
 by_cases hb:b=a
 . subst hb;rw[eT]at e;cases e;exact new
 . rw[cK hb]at e
   exact(x b u e).stay (λc v _ q=>k c v q) (λc q=>by rw[cK (iM q hn)];exact q) λc xs q=>by rw[cK (iM q hn)];exact q
end
def Rd(H:Hp)(a:Addr)(u:HO):Prop:=H a=some u\/∃o,H a=some (.frz o u)
theorem Rd.ok(r:Rd H a u)(x:HOk P w H h):ObjOk P w H h a u:=by
 rcases r with r|⟨o,r⟩
 . exact x a u r
 . obtain⟨_,q⟩:=x a _ r
   exact q
def Mut:Option HO->Prop
 |some (.lst _)=>True
 |some (.dK _)=>True
 |some (.dT _)=>True
 |some (.set _ _)=>True
 |some (.ins _ _ _)=>True
 |some (.ext _)=>True
 |_=>False
section
variable {P : Program} {w : World} {H : Hp} {h h' : Heap} {x e : Addr} {o' : HO}
theorem HOk.write(ok:HOk P w H h)(mu:Mut (H x))(he:e=x\/H e=some (.own x))(k:∀b u,b≠e->h.get? b=some u->h'.get? b=some u)(heo:∃u,h'.get? e=some u)
 (new:ObjOk P w (upd H x o') h' x o'):HOk P w (upd H x o') h':=λb u q=>by
 have nown:∀c y,H c=some (.own y)->c≠x:=λc y r z=>by subst z;rw[r]at mu;exact mu
 have ntup:∀c xs,H c=some (.tup xs)->c≠x:=λc xs r z=>by subst z;rw[r]at mu;exact mu
 by_cases hb:b=x
 . subst hb;rw[eT]at q;cases q;exact new
 . rw[cK hb]at q
   by_cases hbe:b=e
   . have q':H b=some (.own x):=by
      rcases he with z|z
      . exact absurd (hbe.trans z) hb
      . rw[hbe];exact z
     rw[q]at q';cases q'
     obtain⟨v,hv⟩:=heo
     exact⟨v,by rw[hbe];exact hv⟩
   . refine(ok b u q).stay (λc v hc r=>k c v ?_ r) (λc r=>by rw[cK (nown c b r)];exact r) λc xs r=>by rw[cK (ntup c xs r)];exact r
     rcases hc with rfl|hc
     . exact hbe
     . rintro rfl
       rcases he with z|z
       . exact nown c b hc z
       . rw[hc]at z;cases z;exact hb rfl
end
structure Un (fs ex:List Addr) (H H':Hp) (h h':Heap):Prop where
 keep:∀b o,h.get? b=some o->H b=none->b∉fs->b∉ex->h'.get? b=some o
 slot:∀b o,h.get? b=some o->H b=none->b∈fs->b∉ex->∃sl,h'.get? b=some {o with slots:=sl}
 free:∀b o,h.get? b=some o->H b=none->b∉ex->H' b=none
 there:∀b o,h.get? b=some o->b∉ex->∃o',h'.get? b=some o'
 tups:∀b xs,H b=some (.tup xs)->H' b=some (.tup xs)
 frzs:∀b o u,H b=some (.frz o u)->H' b=some (.frz o u)
 tbls:∀b ps,H b=some (.tbl ps)->∃more,H' b=some (.tbl (ps++more))
section
variable {fs fs' ex ex' : List Addr} {H H1 H2 : Hp} {h h1 h2 h' : Heap} {a x e : Addr} {o : HO}
theorem Un.any(u:Un fs ex H H1 h h1)(q:h.get? b=some ob)(n:H b=none)(hx:b∉ex):∃sl,h1.get? b=some {ob with slots:=sl}:=by
 by_cases hb:b∈fs
 . exact u.slot b ob q n hb hx
 . exact⟨ob.slots,u.keep b ob q n hb hx⟩
theorem Un.kept(k:∀b u,h.get? b=some u->h'.get? b=some u):Un fs ex H H h h':=
 ⟨λb ob q _ _ _=>k b ob q,λb ob q _ _ _=>⟨ob.slots,k b ob q⟩,λ_ _ _ n _=>n,λb ob q _=>⟨ob,k b ob q⟩,λ_ _ q=>q,λ_ _ _ q=>q,λ_ ps q=>⟨#[],by rw[q];simp⟩⟩
theorem Un.refl:Un fs ex H H h h:=Un.kept λ_ _ q=>q
theorem Un.laid(k:∀b u,h.get? b=some u->h'.get? b=some u)(hp:h.objs.size<=a)(hn:H a=none):Un fs ex H (upd H a o) h h' where
 keep:=λb u q _ _ _=>k b u q
 slot:=λb u q _ _ _=>⟨u.slots,k b u q⟩
 free:=λb u q n _=>by rw[cK (Nat.ne_of_lt (Nat.lt_of_lt_of_le (Heap.lt_size q) hp))];exact n
 there:=λb u q _=>⟨u,k b u q⟩
 tups:=λb xs q=>by rw[cK (iM q hn)];exact q
 frzs:=λb u xs q=>by rw[cK (iM q hn)];exact q
 tbls:=λb ps q=>⟨#[],by rw[cK (iM q hn),q];simp⟩
theorem Un.write(mu:Mut (H x))(he:e=x\/H e=some (.own x))(k:∀b u,b≠e->h.get? b=some u->h'.get? b=some u)(heo:∃u,h'.get? e=some u):Un fs ex H (upd H x o) h h':=by
 have hx:∀b,H b=none->b≠x:=λb n z=>by subst z;rw[n]at mu;exact mu
 have hb:∀b,H b=none->b≠e:=λb n z=>by
  subst z
  rcases he with r|r
  . exact hx b n r
  . rw[n]at r;cases r
 have hm:∀b u,H b=some u->¬Mut (some u)->b≠x:=λb u q nm z=>by subst z;rw[q]at mu;exact nm mu
 refine⟨λb u q n _ _=>k b u (hb b n) q,λb u q n _ _=>⟨u.slots,k b u (hb b n) q⟩,λb u q n _=>by rw[cK (hx b n)];exact n,λb u q _=>?_,
  λb xs q=>by rw[cK (hm b _ q λz=>z)];exact q,λb u xs q=>by rw[cK (hm b _ q λz=>z)];exact q,λb ps q=>⟨#[],by rw[cK (hm b _ q λz=>z),q];simp⟩⟩
 by_cases hbe:b=e
 . subst hbe;exact heo
 . exact⟨u,k b u hbe q⟩
end
def trk(h:Heap)(H:Hp):List Addr:=(List.range h.objs.size).filter λa=>(H a).isSome
def wE(h:Heap)(H:Hp):Heap:=PySem.W.hideAll h (trk h H)
theorem bj9(h:Heap)(H:Hp):(wE h H).objs.size=h.objs.size:=PySem.W.hideAll_size _ _
theorem ct2(e:h.get? b=some o)(n:H b=none):(wE h H).get? b=some o:=
 PySem.W.hideAll_get _ e λhm=>by
  have q:(H b).isSome=true:=(List.mem_filter.mp hm).2
  rw[n]at q;simp at q
theorem cx6(e:(wE h H).get? b=some o):h.get? b=some o/\H b=none:=by
 have e':h.get? b=some o:=PySem.W.of_hideAll (trk h H) e
 refine⟨e',?_⟩
 cases q:H b with
 |none=>rfl
 |some x=>
  have hm:b∈trk h H:=List.mem_filter.mpr ⟨List.mem_range.mpr (Heap.lt_size e'),by simp[q]⟩
  have z:(wE h H).get? b=none:=PySem.W.hideAll_none (trk h H) hm
  rw[z]at e;cases e
end L2
namespace L2
open PySem PySem.Spec PyProof.Rows
structure Mod (K:PySem.W.Frag) (mg:Str->Option Value) (base:Heap):Prop where
 kin:K.In base
 glob:base.Ns mainGlobals mg
 blt:∃mb,base.Ns builtinsNs mb/\∀x:Str,x≠"__name__"->mb x=bootBuiltins x
 nolimit:base.NoLimit
structure Cx where
 prog:Program
 w:World
 K:PySem.W.Frag
 mg:Str->Option Value
 base:Heap
 A:Around
 N:List Str
 s₀:Shared
 H₀:Hp
 env:Env
 outer:List Env
 stack:List Env
 ex:List Addr
 fn:Str->Bool
 calm:Bool
 pn:List (Addr×Obj)
 xe:Value->Shared->Prop
def vD(l:List Env):List Addr:=l.filterMap (·.frame)
abbrev Cx.fs(X:Cx):List Addr:=vD X.outer
def Vis(sc:Scope)(x:Str):Prop:=sc.names.lookup x=some .local\/sc.names.lookup x=some .cell\/sc.names.lookup x=some .free
def Loc(sc:Scope)(x:Str):Prop:=sc.names.lookup x=some .local\/sc.names.lookup x=some .cell
def do9(env:Env)(h:Heap)(m:Str->Option Value)(x:Str)(u:Value):Prop:=
 (env.kindOf x=some .local/\m x=some u)\/((env.kindOf x=some .cell\/env.kindOf x=some .free)/\∃c,env.cells.lookup x=some c/\h.IsCell c (some u))
structure Cx.Ok (X:Cx):Prop where
 mod:Mod X.K X.mg X.base
 kind:X.env.scope.kind=.function
 glob:X.env.globals=mainGlobals
 blt:X.env.builtins=builtinsNs
 above:X.s₀.heap.objs.size<=X.env.locals
 inj:∀x y c,X.env.cells.lookup x=some c->X.env.cells.lookup y=some c->x=y
 has:∀x,(X.env.kindOf x=some .cell\/X.env.kindOf x=some .free)->∃c,X.env.cells.lookup x=some c
 cab:∀x c,X.fn x=true->X.env.cells.lookup x=some c->X.s₀.heap.objs.size<=c
 hd:X.calm=true->X.A.handled=none
 frames:X.A.frames=some X.stack
 stk:X.stack=X.outer\/(X.stack=X.env::X.outer/\X.env.frame=some X.env.locals)
 exf:∀b∈X.ex,b≠X.env.locals/\∀x c,X.env.cells.lookup x=some c->c≠b
 bs:∀b o,X.base.get? b=some o->X.s₀.heap.get? b=some o/\X.H₀ b=none
 bsz:X.base.objs.size<=X.s₀.heap.objs.size
 noex:∀b o,X.base.get? b=some o->b∉X.ex
 exfs:∀b∈X.ex,b∉X.fs
 funs:X.s₀.heap.FunFrames X.base X.outer
 frf:∀b∈X.fs,X.H₀ b=none
structure Inv (X:Cx) (pins:List (Addr×Obj)) (σ:List (Option V)) (H:Hp) (s:Shared):Prop where
 ok:X.Ok
 os:s.os=X.s₀.os
 bare:AllBare s.gens
 base:Un X.fs X.ex X.H₀ H X.s₀.heap s.heap
 loc:∃m,s.heap.Ns X.env.locals m/\∀(i:Nat)(x:Str)(v:V),X.N[i]?=some x->σ[i]?=some (some v)->Vis X.env.scope x->∃u,RelV v u/\do9 X.env s.heap m x u
 cell:∀x c,X.env.cells.lookup x=some c->∃v,s.heap.IsCell c v
 free:H X.env.locals=none
 freeC:∀x c,X.env.cells.lookup x=some c->H c=none
 pin:∀p∈X.pn++pins,s.heap.get? p.1=some p.2/\H p.1=none/\p.1≠X.env.locals/\p.1∉X.fs/\∀v,p.2.data≠ .cell v
 hok:HOk X.prog X.w H s.heap
 len:σ.length=X.N.length
section
variable {X : Cx} {pins : List (Addr × Obj)} {σ : List (Option V)} {H H' : Hp} {s : Shared} {h' : Heap}
theorem Cx.Ok.nofr(ok:X.Ok)(e:X.base.get? b=some o):b∉X.fs:=λhb=>by
 have:=(ok.funs.mem hb).1
 rw[e]at this;cases this
theorem Inv.bs(I:Inv X pins σ H s):∀b o,X.base.get? b=some o->s.heap.get? b=some o/\H b=none:=λb o e=>
 ⟨I.base.keep b o (I.ok.bs b o e).1 (I.ok.bs b o e).2 (I.ok.nofr e) (I.ok.noex b o e),I.base.free b o (I.ok.bs b o e).1 (I.ok.bs b o e).2 (I.ok.noex b o e)⟩
theorem Inv.bk(I:Inv X pins σ H s):∀b o,X.base.get? b=some o->s.heap.get? b=some o:=λb o e=>(I.bs b o e).1
theorem Inv.mod(I:Inv X pins σ H s):Mod X.K X.mg X.base:=I.ok.mod
theorem Inv.kIn(I:Inv X pins σ H s):X.K.In s.heap:=I.ok.mod.kin.keeps I.bk
theorem Inv.fr(I:Inv X pins σ H s):∃m,Fr X.base X.env.locals s.heap m:=
 let⟨m,hn,_⟩:=I.loc
 ⟨m,hn,I.bk,Nat.le_trans I.ok.bsz I.ok.above⟩
theorem Inv.lt(I:Inv X pins σ H s):X.env.locals<s.heap.objs.size:=let⟨_,hn,_⟩:=I.loc;hn.lt
theorem Inv.sz(I:Inv X pins σ H s):X.s₀.heap.objs.size<=s.heap.objs.size:=Nat.le_trans I.ok.above (Nat.le_of_lt I.lt)
theorem Inv.nofs(I:Inv X pins σ H s)(h:s.heap.objs.size<=a):a∉X.fs:=λhb=>by
 obtain⟨_,o,ho,_⟩:=I.ok.funs.mem hb
 exact absurd (Nat.lt_of_lt_of_le (Heap.lt_size ho) (Nat.le_trans I.sz h)) (Nat.lt_irrefl _)
theorem Inv.cne(I:Inv X pins σ H s):∀x c,X.env.cells.lookup x=some c->c≠X.env.locals:=λx c e z=>by
 obtain⟨v,o,ho,hd⟩:=I.cell x c e
 obtain⟨m,⟨o',es,ep,ho',hd',_⟩,_⟩:=I.loc
 rw[z,ho']at ho;cases ho;rw[hd']at hd;cases hd
theorem Inv.funs(I:Inv X pins σ H s):s.heap.FunFrames X.base X.outer:=by
 have all:∀(l:List Env),(∀b∈vD l,b∈X.fs)->X.s₀.heap.FunFrames X.base l->s.heap.FunFrames X.base l:=by
  intro l
  induction l with
  |nil=>intro _ _;trivial
  |cons env r ih=>
   intro hs hl
   obtain⟨hk,⟨L,o,hf,hn,ho,hd⟩,hr⟩:=hl
   have hL:L∈X.fs:=hs L (by unfold vD;rw[List.filterMap_cons,hf];exact List.mem_cons_self)
   obtain⟨sl,e⟩:=I.base.slot L o ho (I.ok.frf L hL) hL λz=>I.ok.exfs L z hL
   exact⟨hk,⟨L,_,hf,hn,e,hd⟩,ih (λb hb=>hs b (by unfold vD;rw[List.filterMap_cons,hf];exact List.mem_cons_of_mem _ hb)) hr⟩
 exact all X.outer (λ_ hb=>hb) I.ok.funs
theorem Inv.stack(I:Inv X pins σ H s):s.heap.FunFrames X.base X.stack:=by
 rcases I.ok.stk with e|⟨e,hf⟩
 . rw[e];exact I.funs
 . rw[e]
   obtain⟨m,hn,_⟩:=I.loc
   refine .cons (by rw[I.ok.kind];decide) hf hn ?_ I.funs
   exact Heap.get?_none_of_le (Nat.le_trans I.ok.bsz I.ok.above)
theorem Inv.stkSub(I:Inv X pins σ H s):∀b∈vD X.stack,b∈X.env.locals::X.fs:=λb hb=>by
 rcases I.ok.stk with e|⟨e,hf⟩
 . rw[e]at hb;exact List.mem_cons_of_mem _ hb
 . rw[e]at hb
   unfold vD at hb
   rw[List.filterMap_cons,hf]at hb
   exact hb
theorem Inv.stkFree(I:Inv X pins σ H s):∀b∈vD X.stack,H b=none:=λb hb=>by
 rcases List.mem_cons.mp (I.stkSub b hb)with e|hb
 . rw[e];exact I.free
 . obtain⟨_,o,ho,_⟩:=I.ok.funs.mem hb
   exact I.base.free b o ho (I.ok.frf b hb) λz=>I.ok.exfs b z hb
theorem Inv.step{g':Array GenState}{t':Nat}{d':Drawn}{ch:List Addr}(I:Inv X pins σ H s)
 (hch:∀b∈ch,(b∈X.ex\/X.s₀.heap.objs.size<=b)/\b≠X.env.locals/\(∀x c,X.env.cells.lookup x=some c->c≠b)/\∀p∈X.pn++pins,p.1≠b)
 (keep:∀b o,b≠X.env.locals->b∉X.fs->b∉ch->s.heap.get? b=some o->H b=none->h'.get? b=some o)
 (slot:∀b o,b≠X.env.locals->b∈X.fs->b∉ch->s.heap.get? b=some o->H b=none->∃sl,h'.get? b=some {o with slots:=sl})(free:∀b o,b∉ch->s.heap.get? b=some o->H b=none->H' b=none)
 (there:∀b o,b∉ch->s.heap.get? b=some o->∃o',h'.get? b=some o')
 (tups:∀b xs,H b=some (.tup xs)->H' b=some (.tup xs))(frzs:∀b o u,H b=some (.frz o u)->H' b=some (.frz o u))(tbls:∀b ps,H b=some (.tbl ps)->∃more,H' b=some (.tbl (ps++more)))
 (ns:∀m,s.heap.Ns X.env.locals m->h'.Ns X.env.locals m)(hok:HOk X.prog X.w H' h')(hg:AllBare g'):
 Inv X pins σ H' {s with heap:=h',gens:=g',drawn:=d',toks:=t'}:=by
 have neL:∀b o,X.s₀.heap.get? b=some o->b≠X.env.locals:=λb o e=>Nat.ne_of_lt (Nat.lt_of_lt_of_le (Heap.lt_size e) I.ok.above)
 have neC:∀b o,X.s₀.heap.get? b=some o->b∉X.ex->b∉ch:=λb o e hx hb=>by
  rcases(hch b hb).1 with z|z
  . exact hx z
  . exact absurd (Nat.lt_of_lt_of_le (Heap.lt_size e) z) (Nat.lt_irrefl _)
 have cellK:∀x c,X.env.cells.lookup x=some c->∀v,s.heap.IsCell c v->h'.IsCell c v:=λx c e v ⟨o,ho,hd⟩=>by
  have nch:c∉ch:=λz=>(hch c z).2.2.1 x c e rfl
  by_cases hc:c∈X.fs
  . obtain⟨sl,q⟩:=slot c o (I.cne x c e) hc nch ho (I.freeC x c e)
    exact⟨_,q,hd⟩
  . exact⟨o,keep c o (I.cne x c e) hc nch ho (I.freeC x c e),hd⟩
 refine⟨I.ok,I.os,hg,⟨λb o e n hb hx=>?_,λb o e n hb hx=>?_,λb o e n hx=>?_,λb o e hx=>?_,λb xs e=>tups b xs (I.base.tups b xs e),λb o xs e=>frzs b o xs (I.base.frzs b o xs e),λb ps e=>?_⟩,?_,λx c e=>?_,?_,λx c e=>?_,λp hp=>?_,hok,I.len⟩
 . exact keep b o (neL b o e) hb (neC b o e hx) (I.base.keep b o e n hb hx) (I.base.free b o e n hx)
 . obtain⟨sl,e1⟩:=I.base.slot b o e n hb hx
   obtain⟨sl',e2⟩:=slot b _ (neL b o e) hb (neC b o e hx) e1 (I.base.free b o e n hx)
   exact⟨sl',e2⟩
 . obtain⟨o',e1⟩:=I.base.there b o e hx
   exact free b o' (neC b o e hx) e1 (I.base.free b o e n hx)
 . obtain⟨o',e1⟩:=I.base.there b o e hx
   exact there b o' (neC b o e hx) e1
 . obtain⟨m1,e1⟩:=I.base.tbls b ps e
   obtain⟨m2,e2⟩:=tbls b _ e1
   exact⟨m1++m2,by rw[e2,Array.append_assoc]⟩
 . obtain⟨m,hn,hl⟩:=I.loc
   refine⟨m,ns m hn,λi x v e1 e2 e3=>?_⟩
   obtain⟨u,r,l⟩:=hl i x v e1 e2 e3
   refine⟨u,r,?_⟩
   rcases l with l|⟨k,c,e,z⟩
   . exact .inl l
   . exact .inr ⟨k,c,e,cellK x c e _ z⟩
 . obtain⟨v,z⟩:=I.cell x c e
   exact⟨v,cellK x c e v z⟩
 . obtain⟨m,⟨o,_,_,ho,_⟩,_⟩:=I.loc
   exact free _ o (λz=>(hch _ z).2.1 rfl) ho I.free
 . obtain⟨v,o,ho,hd⟩:=I.cell x c e
   exact free c o (λz=>(hch c z).2.2.1 x c e rfl) ho (I.freeC x c e)
 . obtain⟨e,n,ne,nf,d⟩:=I.pin p hp
   have nch:p.1∉ch:=λz=>(hch p.1 z).2.2.2 p hp rfl
   exact⟨keep p.1 p.2 ne nf nch e n,free p.1 p.2 nch e n,ne,nf,d⟩
theorem Inv.un{t':Nat}(I:Inv X pins σ H s)(u:Un X.fs [] H H' s.heap h')(hok:HOk X.prog X.w H' h'):Inv X pins σ H' {s with heap:=h',toks:=t'}:=by
 obtain⟨m,⟨o,es,ep,ho,r⟩,_⟩:=id I.loc
 obtain⟨sl,hL⟩:=u.any ho I.free (by simp)
 exact I.step (g':=s.gens) (d':=s.drawn) (ch:=[]) (λ_ z=>nomatch z) (λb o _ hb _ e n=>u.keep b o e n hb (by simp)) (λb o _ hb _ e n=>u.slot b o e n hb (by simp)) (λb o _ e n=>u.free b o e n (by simp)) (λb o _ e=>u.there b o e (by simp)) u.tups u.frzs u.tbls (λm' hm=>by
  obtain⟨o',es',ep',ho',r'⟩:=hm
  rw[ho]at ho';cases ho'
  exact⟨_,es',ep',hL,r'⟩) hok I.bare
theorem Inv.call{g':Array GenState}{t':Nat}{d':Drawn}{ch:List Addr}(I:Inv X pins σ H s)(u:Un (vD X.stack) ch H H' s.heap h')(hok:HOk X.prog X.w H' h')(hg:AllBare g')
 (hch:∀b∈ch,(b∈X.ex\/X.s₀.heap.objs.size<=b)/\b≠X.env.locals/\(∀x c,X.env.cells.lookup x=some c->c≠b)/\∀p∈X.pn++pins,p.1≠b):
 Inv X pins σ H' {s with heap:=h',gens:=g',drawn:=d',toks:=t'}:=by
 obtain⟨m,⟨o,es,ep,ho,r⟩,_⟩:=id I.loc
 obtain⟨sl,hL⟩:=u.any ho I.free λz=>(hch _ z).2.1 rfl
 exact I.step (ch:=ch) hch (λb o hL hb hc e n=>u.keep b o e n (λz=>(List.mem_cons.mp (I.stkSub b z)).elim hL hb) hc) (λb o _ _ hc e n=>u.any e n hc) (λb o hc e n=>u.free b o e n hc) (λb o hc e=>u.there b o e hc) u.tups u.frzs u.tbls (λm' hm=>by
  obtain⟨o',es',ep',ho',r'⟩:=hm
  rw[ho]at ho';cases ho'
  exact⟨_,es',ep',hL,r'⟩) hok hg
theorem Inv.turned{t':Nat}{it:Addr}(I:Inv X pins σ H s)(k:∀b o,b≠it->s.heap.get? b=some o->h'.get? b=some o)(hn:H it=none)(hL:it≠X.env.locals)
 (h1:it∈X.ex\/X.s₀.heap.objs.size<=it)(h2:∀x c,X.env.cells.lookup x=some c->c≠it)(h3:∀p∈X.pn++pins,p.1≠it):Inv X pins σ H {s with heap:=h',toks:=t'}:=by
 have nit:∀b u,H b=some u->b≠it:=λb u e z=>by rw[z,hn]at e;cases e
 refine I.step (g':=s.gens) (d':=s.drawn) (ch:=[it]) (λb hb=>?_) (λb o _ _ hc e _=>k b o (λz=>hc (by simp[z])) e) (λb o _ _ hc e _=>⟨o.slots,k b o (λz=>hc (by simp[z])) e⟩) (λ_ _ _ _ n=>n)
  (λb o hc e=>⟨o,k b o (λz=>hc (by simp[z])) e⟩) (λ_ _ e=>e) (λ_ _ _ e=>e) (λb ps e=>⟨#[],by rw[e];simp⟩) (λm hm=>?_) (λb u e=>?_) I.bare
 . have e:b=it:=by simpa using hb
   subst e
   exact⟨h1,hL,h2,h3⟩
 . obtain⟨o,es,ep,ho,r⟩:=hm
   exact⟨o,es,ep,k _ o (Ne.symm hL) ho,r⟩
 . refine(I.hok b u e).stay (λc v hc q=>k c v ?_ q) (λ_ q=>q) λ_ _ q=>q
   rcases hc with z|z
   . rw[z];exact nit b u e
   . exact nit c _ z
theorem Inv.tok(I:Inv X pins σ H s)(t:Nat):Inv X pins σ H {s with toks:=t}:=I.un (h':=s.heap) (t':=t) Un.refl I.hok
theorem Inv.kept(I:Inv X pins σ H s)(k:∀b u,s.heap.get? b=some u->h'.get? b=some u):Inv X pins σ H {s with heap:=h',toks:=t'}:=I.un (Un.kept k) (I.hok.kept k)
theorem Inv.laid(I:Inv X pins σ H s)(k:∀b u,s.heap.get? b=some u->h'.get? b=some u)(hp:s.heap.objs.size<=a)(new:ObjOk X.prog X.w (upd H a o) h' a o):
 Inv X pins σ (upd H a o) {s with heap:=h',toks:=t'}:=I.un (Un.laid k hp (I.hok.fresh hp)) (I.hok.laid k hp new)
theorem Inv.write(I:Inv X pins σ H s)(mu:Mut (H x))(he:e=x\/H e=some (.own x))(k:∀b u,b≠e->s.heap.get? b=some u->h'.get? b=some u)(heo:∃u,h'.get? e=some u)
 (new:ObjOk X.prog X.w (upd H x o) h' x o):Inv X pins σ (upd H x o) {s with heap:=h',toks:=t'}:=I.un (Un.write mu he k heo) (I.hok.write mu he k heo new)
theorem Inv.weak(I:Inv X pins σ H s)(hl:σ'.length=σ.length)(w:∀(i:Nat) v,σ'[i]?=some (some v)->σ[i]?=some (some v)):Inv X pins σ' H s:=
 ⟨I.ok,I.os,I.bare,I.base,let⟨m,hn,hl'⟩:=I.loc;⟨m,hn,λi x v e1 e2 e3=>hl' i x v e1 (w i v e2) e3⟩,I.cell,I.free,I.freeC,I.pin,I.hok,hl.trans I.len⟩
theorem Inv.pins_of(I:Inv X pins σ H s)(h:∀p∈pins',s.heap.get? p.1=some p.2/\H p.1=none/\p.1≠X.env.locals/\p.1∉X.fs/\∀v,p.2.data≠ .cell v):Inv X pins' σ H s:=
 ⟨I.ok,I.os,I.bare,I.base,I.loc,I.cell,I.free,I.freeC,λp hp=>(List.mem_append.mp hp).elim (λz=>I.pin p (List.mem_append_left _ z)) (h p),I.hok,I.len⟩
theorem ac9{N:List Str}(hN:N.Nodup){i j:Nat}{x:Str}(a:N[i]?=some x)(b:N[j]?=some x):i=j:=by
 obtain⟨h1,e1⟩:=List.getElem?_eq_some_iff.mp a
 obtain⟨h2,e2⟩:=List.getElem?_eq_some_iff.mp b
 exact(List.getElem_inj hN).mp (e1.trans e2.symm)
theorem aw6 {M : Model} {A : Around} {E : Value → Shared → Prop} {i : Nat} {x : Str} {v : V} {u : Value} {Q : Unit → Shared → Prop} (I : Inv X pins σ H s) (hN : X.N.Nodup) (hi : X.N[i]? = some x) (hx : Loc X.env.scope x) (r : RelV v u)
    (h : ∀ s', Inv X pins (σ.set i (some v)) H s' → (∃ a, Heap.SameBut a s.heap s'.heap ∧ (a = X.env.locals ∨ X.env.cells.lookup x = some a)) → Q () s') (hf : X.fn x = true ∨ X.env.scope.names.lookup x = some .local := by first | exact .inl rfl | exact .inr rfl | assumption) : wpAny M A (storeName X.env x u) Q E s := by
  obtain ⟨m, hn, hl⟩ := id I.loc
  have hcls : (X.env.scope.kind == .class || (X.env.scope.kind == .module && X.env.locals != X.env.globals)) = false := by rw [I.ok.kind]; rfl
  have hiσ : i < σ.length := by rw [I.len]; exact (List.getElem?_eq_some_iff.mp hi).1
  have cne := I.cne
  have tracked : ∀ {a : Addr} {h' : Heap}, (∃ o, s.heap.get? a = some o ∧ H a = none) → Heap.SameBut a s.heap h' → HOk X.prog X.w H h' := fun {a h'} ha hs b ob e => by
    obtain ⟨_, _, hfree⟩ := ha
    refine (I.hok b ob e).stay (fun c w' hc q => (hs.2 c ?_).trans q) (fun _ q => q) fun _ _ q => q
    rintro rfl
    rcases hc with rfl | hc
    · rw [hfree] at e; cases e
    · rw [hfree] at hc; cases hc
  rcases hx with hk | hk
  · refine wpAny_storeName_local hk hn (fun h' hn' hs => ?_) hcls
    obtain ⟨oL, _, _, hoL, _⟩ := id hn
    refine h _ ⟨I.ok, I.os, I.bare, ⟨fun b o e n hb hx => ?_, fun b o e n hb hx => ?_, I.base.free, fun b o e hx => ?_, I.base.tups, I.base.frzs, I.base.tbls⟩, ⟨_, hn', fun j y v' e1 e2 e3 => ?_⟩, fun y c e => ?_, I.free, I.freeC, fun p hp => ?_, tracked ⟨oL, hoL, I.free⟩ hs, by simpa using I.len⟩ ⟨_, hs, .inl rfl⟩
    · exact (hs.2 b (Nat.ne_of_lt (Nat.lt_of_lt_of_le (Heap.lt_size e) I.ok.above))).trans (I.base.keep b o e n hb hx)
    · obtain ⟨sl, e1⟩ := I.base.slot b o e n hb hx
      exact ⟨sl, (hs.2 b (Nat.ne_of_lt (Nat.lt_of_lt_of_le (Heap.lt_size e) I.ok.above))).trans e1⟩
    · obtain ⟨o', e1⟩ := I.base.there b o e hx
      exact ⟨o', (hs.2 b (Nat.ne_of_lt (Nat.lt_of_lt_of_le (Heap.lt_size e) I.ok.above))).trans e1⟩
    · by_cases hj : j = i
      · subst hj
        rw [hi] at e1; cases e1
        rw [List.getElem?_set_self hiσ] at e2
        cases e2
        exact ⟨u, r, .inl ⟨hk, by simp⟩⟩
      · rw [List.getElem?_set_ne (Ne.symm hj)] at e2
        obtain ⟨u', r', q⟩ := hl j y v' e1 e2 e3
        refine ⟨u', r', ?_⟩
        rcases q with ⟨k, e⟩ | ⟨k, c, e, z⟩
        · refine .inl ⟨k, ?_⟩
          have : y ≠ x := fun e => hj (ac9 hN e1 (e ▸ hi))
          simp [this, e]
        · exact .inr ⟨k, c, e, z.sameBut hs (cne y c e)⟩
    · obtain ⟨w', z⟩ := I.cell y c e
      exact ⟨w', z.sameBut hs (cne y c e)⟩
    · obtain ⟨e, n, ne, nf, d⟩ := I.pin p hp
      exact ⟨(hs.2 p.1 ne).trans e, n, ne, nf, d⟩
  · have hfn : X.fn x = true := by
      rcases hf with z | z
      · exact z
      · rw [z] at hk; cases hk
    obtain ⟨c, hc⟩ := I.ok.has x (.inl hk)
    obtain ⟨w', z⟩ := I.cell x c hc
    refine wpAny_storeName_cell I.ok.kind hk hc z (fun h' hc' hs => ?_)
    obtain ⟨oc, hoc, hocd⟩ := id z
    refine h { s with heap := h' } ⟨I.ok, I.os, I.bare, ⟨fun b o e n hb hx => ?_, fun b o e n hb hx => ?_, I.base.free, fun b o e hx => ?_, I.base.tups, I.base.frzs, I.base.tbls⟩, ⟨m, hn.sameBut hs (Ne.symm (cne x c hc)), fun j y v' e1 e2 e3 => ?_⟩, fun y c' e => ?_, I.free, I.freeC, fun p hp => ?_, tracked ⟨oc, hoc, I.freeC x c hc⟩ hs, by simpa using I.len⟩ ⟨c, hs, .inr hc⟩
    · exact (hs.2 b (Nat.ne_of_lt (Nat.lt_of_lt_of_le (Heap.lt_size e) (I.ok.cab x c hfn hc)))).trans (I.base.keep b o e n hb hx)
    · obtain ⟨sl, e1⟩ := I.base.slot b o e n hb hx
      exact ⟨sl, (hs.2 b (Nat.ne_of_lt (Nat.lt_of_lt_of_le (Heap.lt_size e) (I.ok.cab x c hfn hc)))).trans e1⟩
    · obtain ⟨o', e1⟩ := I.base.there b o e hx
      exact ⟨o', (hs.2 b (Nat.ne_of_lt (Nat.lt_of_lt_of_le (Heap.lt_size e) (I.ok.cab x c hfn hc)))).trans e1⟩
    · by_cases hj : j = i
      · subst hj
        rw [hi] at e1; cases e1
        rw [List.getElem?_set_self hiσ] at e2
        cases e2
        exact ⟨u, r, .inr ⟨.inl hk, c, hc, hc'⟩⟩
      · rw [List.getElem?_set_ne (Ne.symm hj)] at e2
        obtain ⟨u', r', q⟩ := hl j y v' e1 e2 e3
        refine ⟨u', r', ?_⟩
        rcases q with q | ⟨k, c', e, z'⟩
        · exact .inl q
        · refine .inr ⟨k, c', e, z'.sameBut hs ?_⟩
          rintro rfl
          exact hj (ac9 hN e1 (I.ok.inj _ _ _ e hc ▸ hi))
    · by_cases hcc : c' = c
      · subst hcc; exact ⟨_, hc'⟩
      · obtain ⟨w2, z2⟩ := I.cell y c' e
        exact ⟨w2, z2.sameBut hs hcc⟩
    · obtain ⟨e, n, ne, nf, d⟩ := I.pin p hp
      refine ⟨(hs.2 p.1 ?_).trans e, n, ne, nf, d⟩
      intro q
      rw [q, hoc] at e
      have q' : oc = p.2 := Option.some.inj e
      exact d w' (by rw [← q']; exact hocd)
theorem ab9(I:Inv X pins σ H s)(hN:X.N.Nodup)(hi:X.N[i]?=some x)(hx:Loc X.env.scope x)(r:RelV v u)
 (h:∀s',Inv X pins (σ.set i (some v)) H s'->Q () s')(hf:X.fn x=true\/X.env.scope.names.lookup x=some .local:=by first|exact .inl rfl|exact .inr rfl|assumption):wpAny M A (storeName X.env x u) Q E s:=
 aw6 I hN hi hx r (λs' I' _=>h s' I') hf
theorem Inv.call'(I:Inv X pins σ H s)(ho:s'.os=s.os)(u:Un (vD X.stack) ch H H' s.heap s'.heap)(hok:HOk X.prog X.w H' s'.heap)(hg:AllBare s'.gens)
 (hch:∀b∈ch,(b∈X.ex\/X.s₀.heap.objs.size<=b)/\b≠X.env.locals/\(∀x c,X.env.cells.lookup x=some c->c≠b)/\∀p∈X.pn++pins,p.1≠b):Inv X pins σ H' s':=by
 obtain⟨h',g',d',t',o'⟩:=s'
 have e:o'=s.os:=ho
 subst e
 exact I.call (g':=g') (t':=t') (d':=d') u hok hg hch
end
abbrev XK:=Value->Option Addr->Hp->Prop
abbrev St:=List (Option V)
abbrev VK:=V->Hp->Prop
abbrev TE:=St->Hp->VK->Prop
abbrev TT:=St->Hp->(Bool->Hp->Prop)->Prop
abbrev TA:=St->Hp->(List V->Hp->Prop)->Prop
structure ao0 where
 nx:St->Hp->Prop
 rt:VK
 bk:St->Hp->Prop:=λ_ _=>False
 ct:St->Hp->Prop:=λ_ _=>False
abbrev TS:=ao0->St->Hp->Prop
def EP(X:Cx)(pins:List (Addr×Obj))(σ:St)(Q:VK)(u:Value)(s':Shared):Prop:=∃v H',Inv X pins σ H' s'/\RelV v u/\Q v H'
def TP(X:Cx)(pins:List (Addr×Obj))(σ:St)(Q:Bool->Hp->Prop)(b:Bool)(s':Shared):Prop:=∃H',Inv X pins σ H' s'/\Q b H'
def AP(X:Cx)(pins:List (Addr×Obj))(σ:St)(Q:List V->Hp->Prop)(us:List Value)(s':Shared):Prop:=∃vs H',Inv X pins σ H' s'/\Vals vs us/\Q vs H'
def SP(X:Cx)(pins:List (Addr×Obj))(D:ao0)(f:Flow)(s':Shared):Prop:=
 match f with
 |.next=>∃σ' H',Inv X pins σ' H' s'/\D.nx σ' H'
 |.brk=>∃σ' H',Inv X pins σ' H' s'/\D.bk σ' H'
 |.cont=>∃σ' H',Inv X pins σ' H' s'/\D.ct σ' H'
 |.ret u=>∃v σ' H',Inv X pins σ' H' s'/\RelV v u/\D.rt v H'
def PE(X:Cx)(e:Expr)(t:TE):Prop:=
 ∀⦃pins:List (Addr×Obj)⦄ (s:Shared)(σ:St)(H:Hp)(Q:VK),Inv X pins σ H s->t σ H Q->wpAny (model X.prog X.w) X.A (eval e X.env) (EP X pins σ Q) X.xe s
def PT(X:Cx)(e:Expr)(t:TT):Prop:=
 ∀⦃pins:List (Addr×Obj)⦄ (s:Shared)(σ:St)(H:Hp)(Q:Bool->Hp->Prop),Inv X pins σ H s->t σ H Q->wpAny (model X.prog X.w) X.A (isTrue e X.env (eval e X.env)) (TP X pins σ Q) X.xe s
def PW(X:Cx)(e:Expr)(t:TT):Prop:=
 ∀⦃whole:Sem Value⦄ (pins:List (Addr×Obj))(s:Shared)(σ:St)(H:Hp)(Q:Bool->Hp->Prop),Inv X pins σ H s->t σ H Q->wpAny (model X.prog X.w) X.A (isTrue e X.env whole) (TP X pins σ Q) X.xe s
theorem PW.pt(h:PW X e t):PT X e t:=λ_ s σ H Q I q=>h _ s σ H Q I q
def PA(X:Cx)(es:List Expr)(t:TA):Prop:=
 ∀⦃pos:Pos⦄ (pins:List (Addr×Obj))(s:Shared)(σ:St)(H:Hp)(Q:List V->Hp->Prop),Inv X pins σ H s->t σ H Q->wpAny (model X.prog X.w) X.A (spliced (backTo pos (starEach es X.env))) (AP X pins σ Q) X.xe s
def PS(X:Cx)(st:Stmt)(t:TS):Prop:=
 ∀⦃pins:List (Addr×Obj)⦄ (s:Shared)(σ:St)(H:Hp)(D:ao0),Inv X pins σ H s->t D σ H->wpAny (model X.prog X.w) X.A (exec st X.env) (SP X pins D) X.xe s
def PSs(X:Cx)(st:List Stmt)(t:TS):Prop:=
 ∀⦃pins:List (Addr×Obj)⦄ (s:Shared)(σ:St)(H:Hp)(D:ao0),Inv X pins σ H s->t D σ H->wpAny (model X.prog X.w) X.A (execs st X.env) (SP X pins D) X.xe s
theorem cD(h:wpAny M A t Q E s)(hQ:∀a s,Q a s->Q' a s):wpAny M A t Q' E s:=wpAny_mono h hQ λ_ _ x=>x
end L2
namespace L2
open PySem PySem.Spec PyProof.Rows
section
variable {X : Cx}
theorem bin{a b:Expr}{ta tb:TE}(ha:PE X a ta)(hb:PE X b tb){pins:List (Addr×Obj)}{s:Shared}{σ:St}{H:Hp}{R:V->V->Hp->Prop}(I:Inv X pins σ H s)(h:ta σ H λx H1=>tb σ H1 λy H2=>R x y H2)
 {α:Type}{Q:α->Shared->Prop}{f:Value->Value->Sem α}
 (hf:∀v u s2 x y H2,Inv X pins σ H2 s2->RelV x v->RelV y u->R x y H2->wpAny (model X.prog X.w) X.A (f v u) Q X.xe s2):
 wpAny (model X.prog X.w) X.A (eval a X.env) (λv s₁=>wpAny (model X.prog X.w) X.A (eval b X.env) (λu s₂=>wpAny (model X.prog X.w) X.A (f v u) Q X.xe s₂) X.xe s₁) X.xe s:=by
 refine cD (ha s σ H _ I h) λv s1 ⟨x,H1,I1,r1,q1⟩=>?_
 refine cD (hb s1 σ H1 _ I1 q1) λu s2 ⟨y,H2,I2,r2,q2⟩=>?_
 exact hf v u s2 x y H2 I2 r1 r2 q2
def bk0(i:Nat):TE:=λσ H Q=>∃v,σ[i]?=some (some v)/\Q v H
def tC(v:V):TE:=λ_ H Q=>Q v H
theorem dl2(hN:X.N[i]?=some x)(hv:Vis X.env.scope x)(hd:(x==("__debug__":Str))=false:=by decide)(hcd:(x==("__classdict__":Str))=false:=by decide):PE X (.Name x pos) (bk0 i):=by
 intro pins s σ H Q I h
 obtain⟨v,e,h⟩:=h
 obtain⟨m,hn,hl⟩:=I.loc
 obtain⟨u,r,l⟩:=hl i x v hN e hv
 have bU:EP X pins σ Q u s:=⟨v,H,I,r,h⟩
 rcases l with⟨hk,hm⟩|⟨hk,c,hc,hcell⟩
 . exact wpAny_Name (wpAny_loadName_local I.ok.kind hk hn hm bU) hd
 . rcases hk with hk|hk
   . exact wpAny_Name (wpAny_loadName_cell I.ok.kind hk hc hcell bU) hd
   . exact wpAny_Name (wpAny_loadName_free I.ok.kind hk hc hcell bU hcd) hd
theorem aF{i j pos}:PE X (.Constant (.int i) j pos) (tC (.int i)):=λ_ _ _ H _ I h=>wpAny_Constant_int ⟨.int i,H,I.tok _,⟨_,rfl⟩,h⟩
theorem iA{b j pos}:PE X (.Constant (.bool b) j pos) (tC (.bl b)):=λ_ _ _ H _ I h=>Constant_bool ⟨.bl b,H,I,rfl,h⟩
theorem mB{j pos}:PE X (.Constant .none j pos) (tC .non):=λ_ _ _ H _ I h=>Constant_none ⟨.non,H,I,rfl,h⟩
theorem bC{x j pos}:PE X (.Constant (.str x) j pos) (tC (.str x)):=λ_ _ _ H _ I h=>Calls.Constant_str ⟨.str x,H,I.tok _,⟨_,rfl⟩,h⟩
def Gl(X:Cx)(x:Str):Prop:=X.env.kindOf x=some .globalImplicit
theorem uW(I:Inv X pins σ H s)(hg:Gl X x)(hm:X.mg x=some u)(h:Q u s)
 (hd:(x==("__debug__":Str))=false:=by decide):wpAny (model X.prog X.w) X.A (eval (.Name x pos) X.env) Q E s:=
 Calls.Name_function_global I.ok.kind hg (Calls.loadGlobal_global (by rw[I.ok.glob];exact I.mod.glob.keeps I.bk) hm h) hd
theorem rH(I:Inv X pins σ H s)(hg:Gl X x)(hm:X.mg x=none)(hv:bootBuiltins x=some u)(h:Q u s)
 (hn:x≠"__name__":=by decide)(hd:(x==("__debug__":Str))=false:=by decide):wpAny (model X.prog X.w) X.A (eval (.Name x pos) X.env) Q E s:=by
 obtain⟨mb,h1,h2⟩:=I.mod.blt
 exact Calls.Name_function_global I.ok.kind hg (Calls.loadGlobal_builtin (by rw[I.ok.glob];exact I.mod.glob.keeps I.bk) hm (by rw[I.ok.blt];exact h1.keeps I.bk) ((h2 x hn).trans hv) h) hd
theorem ca9(hg:Gl X x)(hm:X.mg x=some u)(r:RelV v u)(hd:(x==("__debug__":Str))=false:=by decide):PE X (.Name x pos) (tC v):=
 λ_ _ _ H _ I h=>uW I hg hm ⟨v,H,I,r,h⟩ hd
theorem cr8(hg:Gl X x)(hm:X.mg x=none)(hv:bootBuiltins x=some u)(r:RelV v u)(hn:x≠"__name__":=by decide)(hd:(x==("__debug__":Str))=false:=by decide):PE X (.Name x pos) (tC v):=
 λ_ _ _ H _ I h=>rH I hg hm hv ⟨v,H,I,r,h⟩ hn hd
variable {a b : Expr} {ta tb : TE} {pos : Pos}
def PC(X:Cx)(op:CmpOp)(a b:Expr)(t:TE):Prop:=
 ∀⦃pins:List (Addr×Obj)⦄ (s:Shared)(σ:St)(H:Hp)(Q:VK),Inv X pins σ H s->t σ H Q->
  wpAny (model X.prog X.w) X.A (eval a X.env) (λv s₁=>wpAny (model X.prog X.w) X.A (eval b X.env) (λu s₂=>wpAny (model X.prog X.w) X.A (compareOp op v u) (EP X pins σ Q) X.xe s₂) X.xe s₁) X.xe s
def tB(t:TE):TT:=λσ H Q=>t σ H λx H1=>∃c,x=.bl c/\Q c H1
theorem cu9(h:PC X op a b t)(h1:behindInMarks op b=false:=by first|exact dz8 _ (by decide) (by decide)|rfl):PT X (.Compare a [op] [b] pos) (tB t):=by
 intro pins s σ H Q I hw
 refine wpAny_isTrue_Compare1 (cD (h s σ H _ I hw) λv s1 h1=>cD h1 λu s2 h2=>cD h2 λc s3 ⟨x,H1,I1,r1,q1⟩=>?_) h1
 obtain⟨d,rfl,q⟩:=q1
 cases r1
 exact wpAny_truthy_bool ⟨H1,I1,q⟩
variable {tA tB' : TT} {qL : List Expr}
def cz9(t u:TT):TT:=λσ H Q=>t σ H λc H1=>if c=true then u σ H1 Q else Q false H1
def tOr(t u:TT):TT:=λσ H Q=>t σ H λc H1=>if c=true then Q true H1 else u σ H1 Q
def dr0(t:TT):TT:=λσ H Q=>t σ H λc H1=>Q (!c) H1
theorem ce6(ha:PT X a tA):PW X (.BoolOp .And [a] pos) tA:=by
 intro wh pins s σ H Q I h
 refine isTrue_and (cD (ha s σ H Q I h) λc s1 e=>?_)
 cases c with
 |true=>exact isTrue_and_nil e
 |false=>exact e
theorem vL(ha:PT X a tA):PW X (.BoolOp .Or [a] pos) tA:=by
 intro wh pins s σ H Q I h
 refine isTrue_or (cD (ha s σ H Q I h) λc s1 e=>?_)
 cases c with
 |false=>exact isTrue_or_nil e
 |true=>exact e
theorem di0(ha:PT X a tA)(hb:PW X (.BoolOp .And (b::qL) pos) tB'):PW X (.BoolOp .And (a::b::qL) pos) (cz9 tA tB'):=by
 intro wh pins s σ H Q I h
 refine isTrue_and (cD (ha s σ H _ I h) λc s1 ⟨H1,I1,q1⟩=>?_)
 cases c with
 |true=>exact hb pins s1 σ H1 Q I1 q1
 |false=>exact⟨H1,I1,q1⟩
theorem tO(ha:PT X a tA)(hb:PW X (.BoolOp .Or (b::qL) pos) tB'):PW X (.BoolOp .Or (a::b::qL) pos) (tOr tA tB'):=by
 intro wh pins s σ H Q I h
 refine isTrue_or (cD (ha s σ H _ I h) λc s1 ⟨H1,I1,q1⟩=>?_)
 cases c with
 |true=>exact⟨H1,I1,q1⟩
 |false=>exact hb pins s1 σ H1 Q I1 q1
theorem iD(ha:PT X a tA):PT X (.UnaryOp .Not a pos) (dr0 tA):=by
 intro pins s σ H Q I h
 exact isTrue_not (ha s σ H (λc H1=>Q (!c) H1) I h)
def cn5(ta tb:TE):TE:=λσ H Q=>ta σ H λx H1=>∃c,x=.bl c/\if c=true then tb σ H1 Q else Q (.bl false) H1
def de3(ta tb:TE):TE:=λσ H Q=>ta σ H λx H1=>∃c,x=.bl c/\if c=true then Q (.bl true) H1 else tb σ H1 Q
def cx4(ta:TE):TE:=λσ H Q=>ta σ H λx H1=>∃c,x=.bl c/\Q (.bl (!c)) H1
theorem jS{op}(h:PE X a t):PE X (.BoolOp op [a] pos) t:=λpins s σ H Q I hw=>BoolOp_one (h s σ H Q I hw)
theorem lK(ha:PE X a ta)(hb:PE X (.BoolOp .And (b::qL) pos) tb):PE X (.BoolOp .And (a::b::qL) pos) (cn5 ta tb):=by
 intro pins s σ H Q I h
 refine BoolOp_and (cD (ha s σ H _ I h) λv s1 ⟨x,H1,I1,r1,q1⟩=>?_)
 obtain⟨c,rfl,q1⟩:=q1
 cases r1
 refine wpAny_truthy_bool ?_
 cases c with
 |true=>exact hb s1 σ H1 Q I1 q1
 |false=>exact⟨.bl false,H1,I1,rfl,q1⟩
theorem bb5(ha:PE X a ta)(hb:PE X (.BoolOp .Or (b::qL) pos) tb):PE X (.BoolOp .Or (a::b::qL) pos) (de3 ta tb):=by
 intro pins s σ H Q I h
 refine BoolOp_or (cD (ha s σ H _ I h) λv s1 ⟨x,H1,I1,r1,q1⟩=>?_)
 obtain⟨c,rfl,q1⟩:=q1
 cases r1
 refine wpAny_truthy_bool ?_
 cases c with
 |false=>exact hb s1 σ H1 Q I1 q1
 |true=>exact⟨.bl true,H1,I1,rfl,q1⟩
theorem bf0(ha:PE X a ta):PE X (.UnaryOp .Not a pos) (cx4 ta):=by
 intro pins s σ H Q I h
 refine UnaryOp_ (cD (ha s σ H _ I h) λv s1 ⟨x,H1,I1,r1,q1⟩=>?_)
 obtain⟨c,rfl,q1⟩:=q1
 cases r1
 exact not_of (wpAny_truthy_bool ⟨.bl (!c),H1,I1,rfl,q1⟩)
def tIf(t:TT)(ta tb:TE):TE:=λσ H Q=>t σ H λc H1=>if c=true then ta σ H1 Q else tb σ H1 Q
theorem cv3(hc:PT X c tA)(ha:PE X a ta)(hb:PE X b tb):PE X (.IfExp c a b pos) (tIf tA ta tb):=by
 intro pins s σ H Q I h
 refine wpAny_IfExp (cD (hc s σ H _ I h) λd s1 ⟨H1,I1,q1⟩=>?_)
 cases d with
 |true=>exact ha s1 σ H1 Q I1 q1
 |false=>exact hb s1 σ H1 Q I1 q1
end
end L2
namespace L2
open PySem PySem.Spec PyProof.Rows
def SqL(K:PySem.W.Frag)(H:Hp)(a:Addr)(xs:List V):Prop:=
 Rd H a (.lst xs)\/
  ∃(o:Obj)(its:Array Value)(n:Nat),K.lookup a=some o/\o.cls=.type "list"/\o.dict=none/\o.data=.seq its n/\its.size<=sizeLine/\Vals xs its.toList
def SqT(K:PySem.W.Frag)(H:Hp)(a:Addr)(xs:List V):Prop:=
 Rd H a (.tup xs)\/
  ∃(o:Obj)(its:Array Value)(n:Nat),K.lookup a=some o/\o.cls=.type "tuple"/\o.data=.seq its n/\its.size<=sizeLine/\Vals xs its.toList
def dy9:Value->Option V
 |.none=>some .non
 |.bool b=>some (.bl b)
 |.int i _=>some (.int i)
 |.str x _=>some (.str x)
 |.bytes b _=>some (.byt b)
 |.float b _=>some (.flt b)
 |.ref a=>some (.ref a)
 |.type n=>some (.ty n)
 |_=>none
theorem RelV.abs(r:RelV x u):dy9 u=some x:=by
 cases x with
 |non=>cases r;rfl
 |bl _=>cases r;rfl
 |int _=>obtain⟨t,rfl⟩:=r;rfl
 |str _=>obtain⟨t,rfl⟩:=r;rfl
 |byt _=>obtain⟨t,rfl⟩:=r;rfl
 |flt _=>obtain⟨t,rfl⟩:=r;rfl
 |ref _=>cases r;rfl
 |ty _=>cases r;rfl
theorem RelV.inj(r:RelV x u)(q:RelV y u):x=y:=Option.some.inj (r.abs.symm.trans q.abs)
theorem Vals.inj:∀{xs ys:List V}{us:List Value},Vals xs us->Vals ys us->xs=ys
 |_,_,_,.nil,.nil=>rfl
 |_,_,_,.cons r t,.cons r' t'=>by rw[r.inj r',Vals.inj t t']
section
variable {X : Cx} {pins : List (Addr × Obj)} {σ : St} {H : Hp} {s : Shared} {a : Addr} {xs ys : List V}
theorem SqL.of{K:PySem.W.Frag}(h:H a=some (.lst xs)):SqL K H a xs:=.inl (.inl h)
theorem SqT.of{K:PySem.W.Frag}(h:H a=some (.tup xs)):SqT K H a xs:=.inl (.inl h)
theorem Inv.list(I:Inv X pins σ H s)(h:SqL X.K H a xs):∃its:List Value,Vals xs its/\PlainL s.heap a its.toArray/\xs.length<=sizeLine:=by
 rcases h with h|⟨o,its,n,hk,hc,hd,hs,hz,r⟩
 . obtain⟨z,its,n,r,e⟩:=h.ok I.hok
   exact⟨its,r,⟨_,n,e,rfl,rfl,rfl⟩,z⟩
 . refine⟨its.toList,r,⟨o,n,I.kIn a o hk,hc,hd,by simpa using hs⟩,?_⟩
   have e:=r.length
   simp only[Array.length_toList]at e
   omega
theorem Inv.tuple(I:Inv X pins σ H s)(h:SqT X.K H a xs):∃its:List Value,Vals xs its/\IsTup s.heap a its.toArray/\xs.length<=sizeLine:=by
 rcases h with h|⟨o,its,n,hk,hc,hs,hz,r⟩
 . obtain⟨z,its,r,p⟩:=h.ok I.hok
   exact⟨its,r,p,z⟩
 . refine⟨its.toList,r,⟨o,I.kIn a o hk,hc,n,by simpa using hs⟩,?_⟩
   have e:=r.length
   simp only[Array.length_toList]at e
   omega
theorem Inv.list_inj(I:Inv X pins σ H s)(h:SqL X.K H a xs)(h':SqL X.K H a ys):xs=ys:=by
 obtain⟨its,r,⟨o,n,e,_,_,d⟩,_⟩:=I.list h
 obtain⟨its',r',⟨o',n',e',_,_,d'⟩,_⟩:=I.list h'
 rw[e]at e';cases e'
 rw[d]at d'
 injection d' with d1 _
 have:its=its':=by simpa using congrArg Array.toList d1
 subst this
 exact r.inj r'
theorem Inv.tuple_inj(I:Inv X pins σ H s)(h:SqT X.K H a xs)(h':SqT X.K H a ys):xs=ys:=by
 obtain⟨its,r,⟨o,e,_,n,d⟩,_⟩:=I.tuple h
 obtain⟨its',r',⟨o',e',_,n',d'⟩,_⟩:=I.tuple h'
 rw[e]at e';cases e'
 rw[d]at d'
 injection d' with d1 _
 have:its=its':=by simpa using congrArg Array.toList d1
 subst this
 exact r.inj r'
end
abbrev Cx.wish(X:Cx)(E:Value->Shared->Prop):Cx:={X with xe:=E}
abbrev Cx.nox(X:Cx):Cx:=X.wish λ_ _=>False
theorem Cx.Ok.wish{X:Cx}(ok:X.Ok)(E:Value->Shared->Prop):(X.wish E).Ok:=
 ⟨ok.mod,ok.kind,ok.glob,ok.blt,ok.above,ok.inj,ok.has,ok.cab,ok.hd,ok.frames,ok.stk,ok.exf,ok.bs,ok.bsz,ok.noex,ok.exfs,ok.funs,ok.frf⟩
theorem Cx.Ok.unwish{X:Cx}{E:Value->Shared->Prop}(ok:(X.wish E).Ok):X.Ok:=
 ⟨ok.mod,ok.kind,ok.glob,ok.blt,ok.above,ok.inj,ok.has,ok.cab,ok.hd,ok.frames,ok.stk,ok.exf,ok.bs,ok.bsz,ok.noex,ok.exfs,ok.funs,ok.frf⟩
section
variable {X : Cx} {pins : List (Addr × Obj)} {σ : St} {H : Hp} {s : Shared} {E : Value → Shared → Prop}
theorem Inv.wish(I:Inv X pins σ H s)(E:Value->Shared->Prop):Inv (X.wish E) pins σ H s:=⟨I.ok.wish E,I.os,I.bare,I.base,I.loc,I.cell,I.free,I.freeC,I.pin,I.hok,I.len⟩
theorem Inv.unwish(I:Inv (X.wish E) pins σ H s):Inv X pins σ H s:=⟨I.ok.unwish,I.os,I.bare,I.base,I.loc,I.cell,I.free,I.freeC,I.pin,I.hok,I.len⟩
theorem SP.unwish(h:SP (X.wish E) pins D f s'):SP X pins D f s':=by
 cases f with
 |next=>obtain⟨σ',H',I,q⟩:=h;exact⟨σ',H',I.unwish,q⟩
 |brk=>obtain⟨σ',H',I,q⟩:=h;exact⟨σ',H',I.unwish,q⟩
 |cont=>obtain⟨σ',H',I,q⟩:=h;exact⟨σ',H',I.unwish,q⟩
 |ret u=>obtain⟨v,σ',H',I,r,q⟩:=h;exact⟨v,σ',H',I.unwish,r,q⟩
theorem PSs.nox{st:List Stmt}{t:TS}(h:PSs X.nox st t):PSs X st t:=λpins s σ H D I hw=>
 wpAny_mono (h s σ H D (I.wish _) hw) (λ_ _ q=>q.unwish) λ_ _ z=>False.elim z
end
section
variable {X : Cx} {st : Stmt} {qL : List Stmt} {t u : TS} {e : Expr} {te : TE} {pos : Pos}
def cr5:TS:=λD σ H=>D.nx σ H
def ds2(t u:TS):TS:=λD σ H=>t {D with nx:=u D} σ H
theorem bJ:PSs X [] cr5:=λ_ _ σ H _ I h=>wpAny_execs_nil ⟨σ,H,I,h⟩
theorem aH(h1:PS X st t)(h2:PSs X qL u):PSs X (st::qL) (ds2 t u):=by
 intro pins s σ H D I h
 refine wpAny_execs_cons (cD (h1 s σ H {D with nx:=u D} I h) λf s1 q=>?_)
 cases f with
 |next=>
  obtain⟨σ',H',I',q⟩:=q
  exact h2 s1 σ' H' D I' q
 |ret v=>exact q
 |brk=>exact q
 |cont=>exact q
theorem aL(h1:PS X st t):PSs X [st] t:=by
 intro pins s σ H D I h
 refine wpAny_execs_cons (cD (h1 s σ H D I h) λf s1 q=>?_)
 cases f with
 |next=>exact wpAny_execs_nil q
 |ret v=>exact q
 |brk=>exact q
 |cont=>exact q
theorem Inv.quiet(I:Inv X pins σ H s):interactive X.env=false:=by simp[interactive,I.ok.kind]
def cm5(te:TE):TS:=λD σ H=>te σ H λ_ H1=>D.nx σ H1
theorem mH(he:PE X e te)(hs:swapsWith e none pos.line X.env=pure false:=by rfl):PS X (.Expr e pos) (cm5 te):=by
 intro pins s σ H D I h
 exact wpAny_Expr_any (cD (he s σ H _ I h) λv s1 ⟨x,H1,I1,r1,q1⟩=>⟨σ,H1,I1,q1⟩) I.quiet hs
def di3(te:TE):TS:=λD σ H=>te σ H D.rt
theorem aV(he:PE X e te):PS X (.Return (some e) pos) (di3 te):=by
 intro pins s σ H D I h
 exact wpAny_Return_some (cD (he s σ H _ I h) λv s1 ⟨x,H1,I1,r1,q1⟩=>⟨x,σ,H1,I1,r1,q1⟩)
def dc4(c:TT)(t u:TS):TS:=λD σ H=>c σ H λb H1=>if b=true then t D σ H1 else u D σ H1
theorem bW(hc:PT X c tc)(ha:PSs X a t)(hb:PSs X b u):PS X (.If c a b pos) (dc4 tc t u):=by
 intro pins s σ H D I h
 refine wpAny_If (cD (hc s σ H _ I h) λd s1 ⟨H1,I1,q1⟩=>?_)
 cases d with
 |true=>exact ha s1 σ H1 D I1 q1
 |false=>exact hb s1 σ H1 D I1 q1
end
abbrev TG:=V->St->Hp->(St->Hp->Prop)->Prop
abbrev TGs:=List V->St->Hp->(St->Hp->Prop)->Prop
def PG(X:Cx)(target:Expr)(t:TG):Prop:=
 ∀⦃pins:List (Addr×Obj)⦄ (s:Shared)(σ:St)(H:Hp)(v:V)(u:Value)(Q:St->Hp->Prop),Inv X pins σ H s->RelV v u->t v σ H Q->
  wpAny (model X.prog X.w) X.A (assign target X.env u) (λ_ s'=>∃σ' H',Inv X pins σ' H' s'/\Q σ' H') X.xe s
def PGs(X:Cx)(ts:List Expr)(t:TGs):Prop:=
 ∀⦃pins:List (Addr×Obj)⦄ (s:Shared)(σ:St)(H:Hp)(vs:List V)(us:List Value)(Q:St->Hp->Prop),Inv X pins σ H s->Vals vs us->t vs σ H Q->
  wpAny (model X.prog X.w) X.A (assignInOrder ((assignEach ts X.env).map (·.2)) us) (λ_ s'=>∃σ' H',Inv X pins σ' H' s'/\Q σ' H') X.xe s
abbrev ct9:=V->V->V->Hp->(Hp->Prop)->Prop
def dw1(X:Cx)(t:ct9):Prop:=
 ∀⦃pins:List (Addr×Obj)⦄ (s:Shared)(σ:St)(H:Hp)(o i v:V)(ov iv u:Value)(Q:Hp->Prop),Inv X pins σ H s->RelV o ov->RelV i iv->RelV v u->t o i v H Q->
  wpAny (model X.prog X.w) X.A (setItem ov iv u) (λ_ s'=>∃H',Inv X pins σ H' s'/\Q H') X.xe s
section
variable {X : Cx} {pos : Pos}
def ao1(i:Nat):TG:=λv σ H Q=>Q (σ.set i (some v)) H
theorem cb9(hN:X.N.Nodup)(hi:X.N[i]?=some x)(hx:Loc X.env.scope x)(hf:X.fn x=true\/X.env.scope.names.lookup x=some .local:=by first|exact .inl rfl|exact .inr rfl|assumption):PG X (.Name x pos) (ao1 i):=by
 intro pins s σ H v u Q I r h
 exact wpAny_assign_Name (ab9 I hN hi hx r (λs' I'=>⟨_,H,I',h⟩) hf)
def dj4:TGs:=λvs σ H Q=>vs=[]/\Q σ H
def bg5(t:TG)(u:TGs):TGs:=λvs σ H Q=>∃v r,vs=v::r/\t v σ H λσ' H'=>u r σ' H' Q
theorem dW:PGs X [] dj4:=by
 intro pins s σ H vs us Q I r h
 obtain⟨e,h⟩:=h
 subst e
 cases r
 exact assignInOrder_nil ⟨σ,H,I,h⟩
theorem aW(h1:PG X e t)(h2:PGs X es u)
 (hs:(assignEach (e::es) X.env).map (·.2)=assign e X.env::(assignEach es X.env).map (·.2):=by rfl):PGs X (e::es) (bg5 t u):=by
 intro pins s σ H vs us Q I r h
 obtain⟨v,vr,e1,h⟩:=h
 subst e1
 cases r with
 |cons r rr=>
  rw[hs]
  refine assignInOrder_cons (cD (h1 s σ H _ _ _ I r h) λ_ s1 ⟨σ1,H1,I1,q1⟩=>?_)
  exact h2 s1 σ1 H1 _ _ Q I1 rr q1
def cz1(K:PySem.W.Frag)(n:Nat)(t:TGs):TG:=λv σ H Q=>∃a xs,v=.ref a/\SqT K H a xs/\xs.length=n/\t xs σ H Q
theorem dh2(hc:X.calm=true)(h:PGs X es t)
 (hn:(assignEach es X.env).length=n:=by rfl)(hst:(assignEach es X.env).findIdx? (·.1)=none:=by rfl):PG X (.Tuple es k pos) (cz1 X.K n t):=by
 intro pins s σ H v u Q I r hw
 obtain⟨a,xs,e1,hq,hl,hw⟩:=hw
 subst e1
 cases r
 obtain⟨its,rv,ht,hz⟩:=I.tuple hq
 refine assign_Tuple_tuple (I.ok.hd hc) ht (by simp[hn,<-hl,rv.length]) hst λh' hx=>?_
 have I1:Inv X pins σ H {s with heap:=h'}:=I.kept (t':=s.toks) λb o e=>hx b o (Nat.ne_of_lt (Heap.lt_size e)) e
 exact h _ σ H xs _ Q I1 (by simpa using rv) hw
def de4(to ti:TE)(t:ct9):TG:=λv σ H Q=>to σ H λo H1=>ti σ H1 λi H2=>t o i v H2 λH3=>Q σ H3
theorem bb9(ho:PE X o to)(hi:PE X i ti)(hs:dw1 X t)
 (ha:∀v,assign (.Subscript o i pos) X.env v=(do
  let ov<-holding [v] (eval o X.env)
  let iv<-holding [v,ov] (eval i X.env)
  standAt pos
  holding [v,ov,iv] (setItem ov iv v)
  release [v,ov,iv] []):=by intro _;rfl):PG X (.Subscript o i pos) (de4 to ti t):=by
 intro pins s σ H v u Q I r h
 rw[ha]
 refine wpAny_bind (wpAny_holding (cD (ho s σ H _ I h) λov s1 ⟨x,H1,I1,r1,q1⟩=>?_))
 refine wpAny_bind (wpAny_holding (cD (hi s1 σ H1 _ I1 q1) λiv s2 ⟨y,H2,I2,r2,q2⟩=>?_))
 refine wpAny_bind (wpAny_standAt (wpAny_bind (wpAny_holding (cD (hs s2 σ H2 x y v ov iv u _ I2 r1 r2 r q2) λ_ s3 ⟨H3,I3,q3⟩=>?_))))
 exact wpAny_release ⟨σ,H3,I3,q3⟩
def af9(te:TE)(g:TG):TS:=λD σ H=>te σ H λx H1=>g x σ H1 D.nx
theorem kD(he:PE X e te)(hg:PG X tg g)(hs:swapsWithSole [tg] e pos.line X.env=pure false:=by rfl)(hw:swappedStores [tg] e X.env=pure none:=by rfl)
 (h1:(assignEach [tg] X.env).map (·.2)=[assign tg X.env]:=by rfl):PS X (.Assign [tg] e pos) (af9 te g):=by
 intro pins s σ H D I h
 refine wpAny_Assign_stores (cD (he s σ H _ I h) λv s1 ⟨x,H1,I1,r1,q1⟩=>?_) hs hw
 rw[h1]
 exact cD (hg s1 σ H1 x v _ I1 r1 q1) λ_ s2 q=>q
theorem dt0(hN:X.N.Nodup)(hi:X.N[i]?=some x)(hx:Loc X.env.scope x)(he:PE X e te)(hs:swapsWith e (some (.Name x pos')) pos.line X.env=pure false:=by rfl)(hf:X.fn x=true\/X.env.scope.names.lookup x=some .local:=by first|exact .inl rfl|exact .inr rfl|assumption):
 PS X (.Assign [.Name x pos'] e pos) (af9 te (ao1 i)):=by
 intro pins s σ H D I h
 refine wpAny_Assign_Name (cD (he s σ H _ I h) λv s1 ⟨y,H1,I1,r1,q1⟩=>?_) hs
 exact ab9 I1 hN hi hx r1 (λs2 I2=>⟨_,H1,I2,q1⟩) hf
end
section
variable {X : Cx} {pos : Pos}
def bh9(c:TT)(tb:TS):TS:=λD σ H=>∃W:Nat->St->Hp->Prop,(∃m,W m σ H)/\∀m σ H,W m σ H->
 c σ H λb H1=>if b=true then∃N:St->Hp->Prop,(∀σ' H',N σ' H'->∃m',m'<m/\W m' σ' H')/\tb {D with nx:=N,ct:=N,bk:=D.nx} σ H1 else D.nx σ H1
theorem by0(hp:PassesOwn (model X.prog X.w) X.A X.env X.xe)(hc:PT X c tc)(hb:PSs X body tb):PS X (.While c body [] pos) (bh9 tc tb):=by
 intro pins s σ H D I h
 obtain⟨W,⟨m0,w0⟩,turn⟩:=h
 refine wpAny_While (codeAny_whileLoop (λn s'=>∃σ' H',Inv X pins σ' H' s'/\W n σ' H') ?_ m0 ⟨σ,H,I,w0⟩)
 rintro n s1 ⟨σ1,H1,I1,w1⟩
 refine wpAny_passesOwn hp (cD (hc s1 σ1 H1 _ I1 (turn n σ1 H1 w1)) λb s2 ⟨H2,I2,q2⟩=>?_)
 cases b with
 |true=>
  obtain⟨N,hN,q2⟩:=q2
  rw[if_pos rfl]
  refine wpAny_passesOwn hp (cD (hb s2 σ1 H2 _ I2 q2) λf s3 q3=>?_)
  cases f with
  |next=>
   obtain⟨σ3,H3,I3,n3⟩:=q3
   obtain⟨m',hm,w3⟩:=hN σ3 H3 n3
   exact⟨m',hm,σ3,H3,I3,w3⟩
  |cont=>
   obtain⟨σ3,H3,I3,n3⟩:=q3
   obtain⟨m',hm,w3⟩:=hN σ3 H3 n3
   exact⟨m',hm,σ3,H3,I3,w3⟩
  |brk=>exact q3
  |ret v=>exact q3
 |false=>
  rw[if_neg Bool.false_ne_true]
  exact wpAny_execs_nil ⟨σ1,H2,I2,q2⟩
end
structure It where
 go:Nat->Hp->Prop
 yld:Nat->Hp->V->Hp->Prop
 stop:Nat->Hp->Prop
def qH(X:Cx)(pins:List (Addr×Obj))(H:Hp)(b:Addr):Prop:=
 H b=none/\b≠X.env.locals/\b∉X.fs/\(b∈X.ex\/X.s₀.heap.objs.size<=b)/\(∀x c,X.env.cells.lookup x=some c->c≠b)/\∀p∈X.pn++pins,p.1≠b
theorem Inv.fpOk(I:Inv X pins σ H s)(hb:s.heap.objs.size<=b)(hn:H' b=none):qH X pins H' b:=by
 refine⟨hn,Nat.ne_of_gt (Nat.lt_of_lt_of_le I.lt hb),I.nofs hb,.inr (Nat.le_trans I.sz hb),λx c e z=>?_,λp hp z=>?_⟩
 . obtain⟨v,q⟩:=I.cell x c e
   exact absurd (Nat.lt_of_lt_of_le q.lt (by rw[z];exact hb)) (Nat.lt_irrefl _)
 . exact absurd (Nat.lt_of_lt_of_le (Heap.lt_size (I.pin p hp).1) (by rw[z];exact hb)) (Nat.lt_irrefl _)
structure at0 (P:Program) (w:World) (K:PySem.W.Frag) (tg:Expr) (J:It) (fp:List Addr) (it:Addr) (tn:Nat->Heap->Prop):Prop where
 mem:it∈fp
 obj:∀i h,tn i h->∀b∈fp,∃o,h.get? b=some o/\∀v,o.data≠ .cell v
 keep:∀i h h',tn i h->(∀b∈fp,∀o,h.get? b=some o->h'.get? b=some o)->tn i h'
 item:∀(X:Cx),X.prog=P->X.w=w->X.K=K->X.calm=true->∀(i:Nat)(pins:List (Addr×Obj))(s:Shared)(σ:St)(H:Hp)(E:Value->Shared->Prop),Inv X pins σ H s->(∀b∈fp,qH X pins H b)->tn i s.heap->J.go i H->
  wpAny (model P w) X.A (pyNext (.ref it)) (λr s1=>∃u,r=some u/\
   wpAny (model P w) X.A (letOwnedTupleGo tg (.ref it) u) (λ_ s2=>∃x H',Inv X pins σ H' s2/\RelV x u/\J.yld i H x H'/\tn (i+1) s2.heap/\∀b∈fp,H' b=none) E s1) E s
 done:∀(X:Cx),X.prog=P->X.w=w->X.K=K->X.calm=true->∀(i:Nat)(pins:List (Addr×Obj))(s:Shared)(σ:St)(H:Hp)(E:Value->Shared->Prop),Inv X pins σ H s->(∀b∈fp,qH X pins H b)->tn i s.heap->J.stop i H->
  wpAny (model P w) X.A (pyNext (.ref it)) (λr s1=>r=none/\Inv X pins σ H s1) E s
 self:∀(A:Around)(i:Nat)(s:Shared)(Q:Value->Shared->Prop)(E:Value->Shared->Prop),tn i s.heap->Q (.ref it) s->wpAny (model P w) A (pyIter (.ref it)) Q E s
abbrev TI:=St->Hp->(It->Hp->Prop)->Prop
def PIE(X:Cx)(pins:List (Addr×Obj))(σ:St)(tg:Expr)(R:It->Hp->Prop)(itv:Value)(s2:Shared):Prop:=
 ∃(it:Addr)(fp:List Addr)(tn:Nat->Heap->Prop)(J:It)(H':Hp),itv=.ref it/\Inv X pins σ H' s2/\at0 X.prog X.w X.K tg J fp it tn/\tn 0 s2.heap/\(∀b∈fp,qH X pins H' b)/\R J H'
def PI(X:Cx)(tg iter:Expr)(wi:TI):Prop:=
 ∀⦃pins:List (Addr×Obj)⦄ (s:Shared)(σ:St)(H:Hp)(R:It->Hp->Prop),Inv X pins σ H s->wi σ H R->
  wpAny (model X.prog X.w) X.A (eval iter X.env) (λv s1=>wpAny (model X.prog X.w) X.A (pyIter v) (PIE X pins σ tg R) X.xe s1) X.xe s
theorem bu4 (ho : s.heap.get? it = some o) (hc : o.cls = .type n) (hd : o.data = .fields vs)
    (hn : ["enumerate", "zip", "dict_itemiterator", "dict_reverseitemiterator", "odict_iterator", "itertools.zip_longest", "itertools.pairwise"].contains n = false) (hQ : Q () s) : wpAny M A (letOwnedTupleGo tg (.ref it) u) Q E s := by
  unfold letOwnedTupleGo
  cases tg <;> first
    | exact wpAny_pure hQ
    | (cases u <;> first
        | exact wpAny_pure hQ
        | (refine wpAny_bind (wpAny_load ho ?_)
           rw [hc, hd]
           show wpAny M A (if (["enumerate", "zip", "dict_itemiterator", "dict_reverseitemiterator", "odict_iterator", "itertools.zip_longest", "itertools.pairwise"].contains n && vs[0]? == some (rawInt _)) = true then _ else _) Q E s
           rw [if_neg (by intro h; rw [hn, Bool.false_and] at h; cases h)]
           exact wpAny_pure hQ))
def Itl(K:PySem.W.Frag)(a:Addr):It:=
 ⟨λi H=>∃xs x,SqL K H a xs/\xs[i]?=some x,λi H x H'=>H'=H/\∀xs,SqL K H a xs->xs[i]?=some x,λi H=>∃xs,SqL K H a xs/\xs.length<=i⟩
def Itt(K:PySem.W.Frag)(a:Addr):It:=
 ⟨λi H=>∃xs x,SqT K H a xs/\xs[i]?=some x,λi H x H'=>H'=H/\∀xs,SqT K H a xs->xs[i]?=some x,λi H=>∃xs,SqT K H a xs/\xs.length<=i⟩
def Itr(lo:Int)(n:Nat):It:=⟨λi _=>i<n,λi H x H'=>H'=H/\x=.int (lo+i),λi _=>n<=i⟩
theorem bw7{P:Program}{w:World}{K:PySem.W.Frag}{tg:Expr}(a it:Addr):at0 P w K tg (Itl K a) [it] it (λi h=>h.IsListIter it a i) where
 mem:=by simp
 obj:=λi h st b hb=>by
  have e:b=it:=by simpa using hb
  subst e
  obtain⟨o,e,c,d⟩:=st
  exact⟨o,e,λv z=>by rw[d]at z;cases z⟩
 keep:=λi h h' st k=>st.at λo e=>k it (by simp) o e
 item:=by
  intro X hP hw hK hc i pins s σ H E I hf st hg
  subst hP hw hK
  obtain⟨xs,x,hq,hx⟩:=hg
  obtain⟨its,rv,p,hz⟩:=I.list hq
  obtain⟨u,hu,ru⟩:=rv.get hx
  obtain⟨f0,f1,f2,f3,f4,f5⟩:=hf it (by simp)
  refine wpAny_pyNext_list_item st p.isList (x:=u) (by simpa using hu) λh' st' sb=>?_
  have I1:Inv X pins σ H {s with heap:=h'}:=I.turned (t':=s.toks) (λb o hb e=>(sb.2 b hb).trans e) f0 f1 f3 f4 f5
  obtain⟨o,e,c,d⟩:=id st'
  exact⟨u,rfl,bu4 (s:={s with heap:=h'}) e c d (by decide) ⟨x,H,I1,ru,⟨rfl,λys hy=>by rw[I.list_inj hy hq];exact hx⟩,st',λb hb=>(hf b hb).1⟩⟩
 done:=by
  intro X hP hw hK hc i pins s σ H E I hf st hg
  subst hP hw hK
  obtain⟨xs,hq,hx⟩:=hg
  obtain⟨its,rv,p,hz⟩:=I.list hq
  obtain⟨f0,f1,f2,f3,f4,f5⟩:=hf it (by simp)
  have hl:=rv.length
  exact wpAny_pyNext_list_end (I.ok.hd hc) st p.isList (by simp;omega) λh' eb=>⟨rfl,I.turned (t':=s.toks) (λb o hb e=>eb b o hb e) f0 f1 f3 f4 f5⟩
 self:=λ_ _ _ _ _ st h=>wpAny_pyIter_listiter st h
theorem bv4{P:Program}{w:World}{K:PySem.W.Frag}{tg:Expr}(a it:Addr):at0 P w K tg (Itt K a) [it] it (λi h=>h.IsTupleIter it a i) where
 mem:=by simp
 obj:=λi h st b hb=>by
  have e:b=it:=by simpa using hb
  subst e
  obtain⟨o,e,c,d⟩:=st
  exact⟨o,e,λv z=>by rw[d]at z;cases z⟩
 keep:=λi h h' st k=>st.at λo e=>k it (by simp) o e
 item:=by
  intro X hP hw hK hc i pins s σ H E I hf st hg
  subst hP hw hK
  obtain⟨xs,x,hq,hx⟩:=hg
  obtain⟨its,rv,p,hz⟩:=I.tuple hq
  obtain⟨u,hu,ru⟩:=rv.get hx
  obtain⟨f0,f1,f2,f3,f4,f5⟩:=hf it (by simp)
  refine wpAny_pyNext_tuple_item st (show s.heap.IsTuple a its.toArray from p) (x:=u) (by simpa using hu) λh' st' sb=>?_
  have I1:Inv X pins σ H {s with heap:=h'}:=I.turned (t':=s.toks) (λb o hb e=>(sb.2 b hb).trans e) f0 f1 f3 f4 f5
  obtain⟨o,e,c,d⟩:=id st'
  exact⟨u,rfl,bu4 (s:={s with heap:=h'}) e c d (by decide) ⟨x,H,I1,ru,⟨rfl,λys hy=>by rw[I.tuple_inj hy hq];exact hx⟩,st',λb hb=>(hf b hb).1⟩⟩
 done:=by
  intro X hP hw hK hc i pins s σ H E I hf st hg
  subst hP hw hK
  obtain⟨xs,hq,hx⟩:=hg
  obtain⟨its,rv,p,hz⟩:=I.tuple hq
  obtain⟨f0,f1,f2,f3,f4,f5⟩:=hf it (by simp)
  have hl:=rv.length
  exact wpAny_pyNext_tuple_end (I.ok.hd hc) st (show s.heap.IsTuple a its.toArray from p) (by simp;omega) λh' eb=>⟨rfl,I.turned (t':=s.toks) (λb o hb e=>eb b o hb e) f0 f1 f3 f4 f5⟩
 self:=λ_ _ _ _ _ st h=>wpAny_pyIter_tupleiter st h
theorem bk4{P:Program}{w:World}{K:PySem.W.Frag}{tg:Expr}(it:Addr)(lo:Int)(n:Nat):at0 P w K tg (Itr lo n) [it] it (λi h=>IsRangeIter h it (lo+(i:Nat)*1) ((n:Int)-(i:Nat)) 1) where
 mem:=by simp
 obj:=λi h st b hb=>by
  have e:b=it:=by simpa using hb
  subst e
  exact⟨_,st,λv z=>by
   have z':Data.fields _=Data.cell v:=z
   cases z'⟩
 keep:=λi h h' st k=>k it (by simp) _ st
 item:=by
  intro X hP hw hK hc i pins s σ H E I hf st hg
  subst hP hw hK
  obtain⟨f0,f1,f2,f3,f4,f5⟩:=hf it (by simp)
  have W:=Walks.range (prog:=X.prog) (w:=X.w) (I.ok.hd hc) it lo 1 n
  refine W.item i s _ _ hg st λv h' tk hv st' kk=>?_
  obtain⟨t,rfl⟩:=hv
  have I1:Inv X pins σ H {s with heap:=h',toks:=tk}:=I.turned (λb o hb e=>kk b o (by simpa using hb) e) f0 f1 f3 f4 f5
  refine⟨_,rfl,bu4 (s:={s with heap:=h',toks:=tk}) (n:="range_iterator") st' rfl rfl (by decide) ⟨.int (lo+i),H,I1,⟨t,?_⟩,⟨rfl,rfl⟩,st',λb hb=>(hf b hb).1⟩⟩
  rw[Int.mul_one]
 done:=by
  intro X hP hw hK hc i pins s σ H E I hf st hg
  subst hP hw hK
  obtain⟨f0,f1,f2,f3,f4,f5⟩:=hf it (by simp)
  exact wpAny_pyNext_range_end (I.ok.hd hc) st (by have:n<=i:=hg;omega) λh' eb=>⟨rfl,I.turned (t':=s.toks) (λb o hb e=>eb b o hb e) f0 f1 f3 f4 f5⟩
 self:=λ_ _ _ _ _ st h=>wpAny_pyIter_rangeiter st h
end L2
namespace L2
open PySem PySem.Spec PyProof.Rows
section
variable {X : Cx} {tg : Expr}
theorem bo0{pins:List (Addr×Obj)}{σ:St}{H:Hp}{s:Shared}{R:It->Hp->Prop}{E:Value->Shared->Prop}{lo hi:Int}{t u v:Tok}{tk:Nat}(I:Inv X pins σ H s)(h1:-(2^62)<=lo)(h2:lo<2^62)(h3:-(2^62)<=hi)(h4:hi<2^62)
 (q:R (Itr lo (hi-lo).toNat) H):wpAny (model X.prog X.w) X.A (pyIter (.ref s.heap.objs.size)) (PIE X pins σ tg R) E {s with heap:=s.heap.push {cls:=.type "range",data:=.fields #[.int lo t,.int hi u,.int 1 v]},toks:=tk}:=by
 refine wpAny_pyIter_range (IsRange.new ..) (small_one h1 h2 h3 h4) ?_
 have I1:Inv X pins σ H {s with heap:=s.heap.push {cls:=.type "range",data:=.fields #[.int lo t,.int hi u,.int 1 v]},toks:=tk}:=I.kept λb o e=>Heap.get?_push_of_some _ e
 refine⟨(s.heap.push {cls:=.type "range",data:=.fields #[.int lo t,.int hi u,.int 1 v]}).objs.size,[(s.heap.push {cls:=.type "range",data:=.fields #[.int lo t,.int hi u,.int 1 v]}).objs.size],_,_,H,rfl,
  I1.kept (t':=tk) λb o e=>Heap.get?_push_of_some _ e,bk4 _ lo (hi-lo).toNat,?_,λb hb=>?_,q⟩
 . have e1:lo+((0:Nat):Int)*1=lo:=by simp
   have e2:(((hi-lo).toNat:Nat):Int)-((0:Nat):Int)=Builtin.Range.rangeSize lo hi 1:=by rw[rangeSize_one];split<;>omega
   show IsRangeIter _ _ (lo+((0:Nat):Int)*1) ((((hi-lo).toNat:Nat):Int)-((0:Nat):Int)) 1
   rw[e1,e2]
   exact Heap.get?_push_size _ rfl
 . have e:b=(s.heap.push {cls:=.type "range",data:=.fields #[.int lo t,.int hi u,.int 1 v]}).objs.size:=by simpa using hb
   subst e
   exact I1.fpOk (Nat.le_refl _) (I1.hok.fresh (Nat.le_refl _))
def cr4(ta:TA):TI:=λσ H R=>ta σ H λvs H1=>∃j:Int,vs=[.int j]/\-(2^62)<=j/\j<2^62/\R (Itr 0 j.toNat) H1
def cq4(ta:TA):TI:=λσ H R=>ta σ H λvs H1=>∃i j:Int,vs=[.int i,.int j]/\(-(2^62)<=i/\i<2^62/\-(2^62)<=j/\j<2^62)/\R (Itr i (j-i).toNat) H1
theorem jM{a:Expr}{ta:TA}{p pos:Pos}(hg:Gl X "range")(hm:X.mg "range"=none)(ha:PA X [a] ta)(hs:starEach [a] X.env=[(false,eval a X.env)]:=by rfl):PI X tg (.Call (.Name "range" p) [a] [] pos) (cr4 ta):=by
 intro pins s σ H R I h
 refine Call_ (rH I hg hm boot_range (PyProof.Rows.callWith_type1 (cD (ha pins s σ H _ I h) λus s1 ⟨vs,H1,I1,r1,q1⟩=>?_) hs rfl))
 obtain⟨j,e,q1,q2,q⟩:=q1
 subst e
 cases r1 with
 |cons r rr=>
  cases rr
  obtain⟨t,rfl⟩:=r
  exact call_range_1 (bo0 I1 (by omega) (by omega) q1 q2 (by simpa using q))
theorem xM(hg:Gl X "range")(hm:X.mg "range"=none)(ha:PA X [a,b] ta)(hs:starEach [a,b] X.env=[(false,eval a X.env),(false,eval b X.env)]:=by rfl)(hs2:starEach [b] X.env=[(false,eval b X.env)]:=by rfl):
 PI X tg (.Call (.Name "range" p) [a,b] [] pos) (cq4 ta):=by
 intro pins s σ H R I h
 refine Call_ (rH I hg hm boot_range (PyProof.Rows.callWith_type1 (cD (ha pins s σ H _ I h) λus s1 ⟨vs,H1,I1,r1,q1⟩=>?_) (by rw[hs,hs2]) (by rw[hs2];rfl)))
 obtain⟨i,j,e,⟨q1,q2,q3,q4⟩,q⟩:=q1
 subst e
 cases r1 with
 |cons r rr=>
  cases rr with
  |cons r' rr=>
   cases rr
   obtain⟨t,rfl⟩:=r
   obtain⟨t',rfl⟩:=r'
   exact call_range_2 (bo0 I1 q1 q2 q3 q4 q)
def dy3(wi:TI)(g:TG)(tb:TS):TS:=λD σ H=>wi σ H λJ H1=>∃W:Nat->Nat->St->Hp->Prop,(∃m,W 0 m σ H1)/\∀i m σ H,W i m σ H->
 (J.stop i H/\D.nx σ H)\/(J.go i H/\∃N:St->Hp->Prop,(∀σ' H',N σ' H'->∃m',m'<m/\W (i+1) m' σ' H')/\∀x H',J.yld i H x H'->g x σ H' λσ2 H2=>tb {D with nx:=N,ct:=N,bk:=D.nx} σ2 H2)
def vK(fp:List Addr)(h:Heap):List (Addr×Obj):=fp.filterMap λb=>(h.get? b).map λo=>(b,o)
theorem sH(hb:b∈fp)(e:h.get? b=some o):(b,o)∈vK fp h:=List.mem_filterMap.mpr ⟨b,hb,by rw[e];rfl⟩
theorem br6(hp:p∈vK fp h):p.1∈fp/\h.get? p.1=some p.2:=by
 obtain⟨b,hb,e⟩:=List.mem_filterMap.mp hp
 cases q:h.get? b with
 |none=>rw[q]at e;cases e
 |some o=>
  rw[q]at e
  have e':(b,o)=p:=Option.some.inj e
  subst e'
  exact⟨hb,q⟩
theorem Inv.pinned(I:Inv X pins σ H s)(hf:∀b∈fp,qH X pins H b)(ho:∀b∈fp,∃o,s.heap.get? b=some o/\∀v,o.data≠ .cell v):Inv X (pins++vK fp s.heap) σ H s:=
 I.pins_of λp hp=>(List.mem_append.mp hp).elim (λz=>I.pin p (List.mem_append_right _ z)) λz=>by
  obtain⟨hb,e⟩:=br6 z
  obtain⟨f0,f1,f2,_⟩:=hf p.1 hb
  obtain⟨o,e',d⟩:=ho p.1 hb
  rw[e]at e';cases e'
  exact⟨e,f0,f1,f2,d⟩
theorem Inv.unpinned(I:Inv X (pins++pl) σ H s):Inv X pins σ H s:=I.pins_of λp hp=>I.pin p (List.mem_append_right _ (List.mem_append_left _ hp))
theorem kK(hp:PassesOwn (model X.prog X.w) X.A X.env X.xe)(hc:X.calm=true)(hi:PI X tg iter wi)(hg:PG X tg g)(hb:PSs X body tb)
 (hs:∀x,foldedSetIterable iter X.env x=pure x:=by intro _;rfl):PS X (.For tg iter body [] pos) (dy3 wi g tb):=by
 intro pins s σ H D I h
 refine wpAny_For (cD (hi s σ H _ I h) λv s1 h1=>cD h1 λitv s2 h2=>?_) hs
 obtain⟨it,fp,tn,J,H2,e,I2,T,st2,f2,W,⟨m0,w0⟩,turn⟩:=h2
 subst e
 have stat:∀{H':Hp},(∀b∈fp,H' b=none)->∀b∈fp,qH X pins H' b:=λhn b hb=>⟨hn b hb,(f2 b hb).2⟩
 refine codeAny_forLoop_any (λn s'=>∃i σ' H',Inv X pins σ' H' s'/\tn i s'.heap/\(∀b∈fp,H' b=none)/\W i n σ' H') ?_ m0 ⟨0,σ,H2,I2,st2,λb hb=>(f2 b hb).1,w0⟩
 rintro n s3 ⟨i,σ3,H3,I3,st3,fr3,w3⟩
 rcases turn i n σ3 H3 w3 with⟨stop,qn⟩|⟨go,N,hN,step⟩
 . refine wpAny_passesOwn hp (cD (T.done X rfl rfl rfl hc i pins s3 σ3 H3 X.xe I3 (stat fr3) st3 stop) λr s4 ⟨hr,I4⟩=>?_)
   subst hr
   exact wpAny_execs_nil ⟨σ3,H3,I4,qn⟩
 . refine wpAny_passesOwn hp (cD (T.item X rfl rfl rfl hc i pins s3 σ3 H3 X.xe I3 (stat fr3) st3 go) λr s4 ⟨u,hr,h4⟩=>?_)
   subst hr
   refine wpAny_passesOwn hp (cD h4 λ_ s5 ⟨x,H5,I5,r5,y5,st5,fr5⟩=>?_)
   have I5':=I5.pinned (stat fr5) (T.obj _ _ st5)
   refine wpAny_passesOwn hp (cD (hg s5 σ3 H5 x u _ I5' r5 (step x H5 y5)) λ_ s6 ⟨σ6,H6,I6,q6⟩=>?_)
   refine wpAny_passesOwn hp (cD (hb s6 σ6 H6 _ I6 q6) λf s7 q7=>?_)
   have again:∀{σ7:St}{H7:Hp},Inv X (pins++vK fp s5.heap) σ7 H7 s7->N σ7 H7->∃m,m<n/\∃i σ' H',Inv X pins σ' H' s7/\tn i s7.heap/\(∀b∈fp,H' b=none)/\W i m σ' H':=λ{σ7 H7} I7 n7=>by
    obtain⟨m',hm,w7⟩:=hN σ7 H7 n7
    refine⟨m',hm,i+1,σ7,H7,I7.unpinned,T.keep _ _ _ st5 λb hb o e=>(I7.pin (b,o) (List.mem_append_right _ (List.mem_append_right _ (sH hb e)))).1,λb hb=>?_,w7⟩
    obtain⟨o,e,d⟩:=T.obj _ _ st5 b hb
    exact(I7.pin (b,o) (List.mem_append_right _ (List.mem_append_right _ (sH hb e)))).2.1
   cases f with
   |next=>obtain⟨σ7,H7,I7,n7⟩:=q7;exact again I7 n7
   |cont=>obtain⟨σ7,H7,I7,n7⟩:=q7;exact again I7 n7
   |brk=>obtain⟨σ7,H7,I7,q7⟩:=q7;exact⟨σ7,H7,I7.unpinned,q7⟩
   |ret v=>obtain⟨x7,σ7,H7,I7,r7,q7⟩:=q7;exact⟨x7,σ7,H7,I7.unpinned,r7,q7⟩
end
end L2
namespace L2
open PySem PySem.Spec PyProof.Rows
abbrev R2:=V->V->Hp->VK->Prop
def OpR(X:Cx)(f:Value->Value->Sem Value)(r:R2):Prop:=
 ∀⦃pins:List (Addr×Obj)⦄ (s:Shared)(σ:St)(H:Hp)(x y:V)(v u:Value)(Q:VK),Inv X pins σ H s->RelV x v->RelV y u->r x y H Q->
  wpAny (model X.prog X.w) X.A (f v u) (EP X pins σ Q) X.xe s
def UnR(X:Cx)(f:Value->Sem Value)(r:V->Hp->VK->Prop):Prop:=
 ∀⦃pins:List (Addr×Obj)⦄ (s:Shared)(σ:St)(H:Hp)(x:V)(v:Value)(Q:VK),Inv X pins σ H s->RelV x v->r x H Q->
  wpAny (model X.prog X.w) X.A (f v) (EP X pins σ Q) X.xe s
def CallR(X:Cx)(f:Value)(r:List V->Hp->VK->Prop):Prop:=
 ∀⦃pins:List (Addr×Obj)⦄ (s:Shared)(σ:St)(H:Hp)(xs:List V)(us:List Value)(Q:VK),Inv X pins σ H s->Vals xs us->r xs H Q->
  wpAny (model X.prog X.w) X.A (call f us) (EP X pins σ Q) X.xe s
def ds9(X:Cx)(r:V->Hp->(Bool->Hp->Prop)->Prop):Prop:=
 ∀⦃pins:List (Addr×Obj)⦄ (s:Shared)(σ:St)(H:Hp)(x:V)(v:Value)(Q:Bool->Hp->Prop),Inv X pins σ H s->RelV x v->r x H Q->
  wpAny (model X.prog X.w) X.A (truthy v) (TP X pins σ Q) X.xe s
def tOp(r:R2)(ta tb:TE):TE:=λσ H Q=>ta σ H λx H1=>tb σ H1 λy H2=>r x y H2 Q
def tUn(r:V->Hp->VK->Prop)(ta:TE):TE:=λσ H Q=>ta σ H λx H1=>r x H1 Q
def rI(C:Int->Int->Prop)(g:Int->Int->V):R2:=λx y H Q=>∃i j,x=.int i/\y=.int j/\C i j/\Q (g i j) H
def vH(g:Int->Int->V):R2:=λx y H Q=>∃i j,x=.int i/\y=.int j/\Q (g i j) H
def rU(g:Int->V):V->Hp->VK->Prop:=λx H Q=>∃i,x=.int i/\Q (g i) H
section
variable {X : Cx} {a b c : Expr} {ta tb tc : TE} {pos : Pos}
theorem ck2(ha:PE X a ta)(hb:PE X b tb){pins:List (Addr×Obj)}{s:Shared}{σ:St}{H:Hp}{R:V->V->Hp->Prop}(I:Inv X pins σ H s)
 (h:ta σ H λx H1=>tb σ H1 λy H2=>R x y H2){Q:Value->Shared->Prop}{f:Value->Value->Sem Value}
 (hf:∀v u s2 x y H2,Inv X pins σ H2 s2->RelV x v->RelV y u->R x y H2->wpAny (model X.prog X.w) X.A (f v u) Q X.xe s2):
 wpAny (model X.prog X.w) X.A (eval a X.env) (λv s₁=>wpAny (model X.prog X.w) X.A (eval b X.env) (λu s₂=>wpAny (model X.prog X.w) X.A (f v u) Q X.xe s₂) X.xe s₁) X.xe s:=by
 refine cD (ha s σ H _ I h) λv s1 ⟨x,H1,I1,r1,q1⟩=>?_
 refine cD (hb s1 σ H1 _ I1 q1) λu s2 ⟨y,H2,I2,r2,q2⟩=>?_
 exact hf v u s2 x y H2 I2 r1 r2 q2
theorem aK{op:Operator}{r:R2}(ho:OpR X (binaryOp op) r)(ha:PE X a ta)(hb:PE X b tb):PE X (.BinOp a op b pos) (tOp r ta tb):=by
 intro pins s σ H Q I h
 exact wpAny_BinOp (ck2 ha hb I h λv u s2 x y H2 I2 rx ry q=>ho s2 σ H2 x y v u Q I2 rx ry q)
theorem vS(ho:UnR X (unaryOp op) r)(ha:PE X a ta):PE X (.UnaryOp op a pos) (tUn r ta):=by
 intro pins s σ H Q I h
 exact UnaryOp_ (cD (ha s σ H _ I h) λv s1 ⟨x,H1,I1,r1,q1⟩=>ho s1 σ H1 x v Q I1 r1 q1)
theorem opI{f:Value->Value->Sem Value}{C:Int->Int->Prop}{g:Int->Int->Int}
 (rule:∀(i j:Int)(t u:Tok)(s:Shared)(Q:Value->Shared->Prop)(E:Value->Shared->Prop),C i j->Q (.int (g i j) s.toks) {s with toks:=s.toks+1}->wpAny (model X.prog X.w) X.A (f (.int i t) (.int j u)) Q E s):
 OpR X f (rI C λi j=>.int (g i j)):=by
 intro pins s σ H x y v u Q I rx ry h
 obtain⟨i,j,rfl,rfl,hc,q⟩:=h
 obtain⟨t,rfl⟩:=rx
 obtain⟨t',rfl⟩:=ry
 exact rule i j t t' s _ _ hc ⟨.int (g i j),H,I.tok _,⟨_,rfl⟩,q⟩
theorem ds1{f:Value->Value->Sem Value}{g:Int->Int->Int}
 (rule:∀(i j:Int)(t u:Tok)(s:Shared)(Q:Value->Shared->Prop)(E:Value->Shared->Prop),Q (.int (g i j) s.toks) {s with toks:=s.toks+1}->wpAny (model X.prog X.w) X.A (f (.int i t) (.int j u)) Q E s):
 OpR X f (vH λi j=>.int (g i j)):=by
 intro pins s σ H x y v u Q I rx ry h
 obtain⟨i,j,rfl,rfl,q⟩:=h
 obtain⟨t,rfl⟩:=rx
 obtain⟨t',rfl⟩:=ry
 exact rule i j t t' s _ _ ⟨.int (g i j),H,I.tok _,⟨_,rfl⟩,q⟩
theorem cv0{f:Value->Value->Sem Value}{g:Int->Int->Bool}
 (rule:∀(i j:Int)(t u:Tok)(s:Shared)(Q:Value->Shared->Prop)(E:Value->Shared->Prop),Q (.bool (g i j)) s->wpAny (model X.prog X.w) X.A (f (.int i t) (.int j u)) Q E s):
 OpR X f (vH λi j=>.bl (g i j)):=by
 intro pins s σ H x y v u Q I rx ry h
 obtain⟨i,j,rfl,rfl,q⟩:=h
 obtain⟨t,rfl⟩:=rx
 obtain⟨t',rfl⟩:=ry
 exact rule i j t t' s _ _ ⟨.bl (g i j),H,I,rfl,q⟩
def jU(i j:Int):Prop:=0<j/\j<1073741824
def yR(i j:Int):Prop:=0<=j/\j<=1000000/\i.natAbs<2^64
theorem op_add:OpR X (binaryOp .Add) (vH λi j=>.int (i+j)):=ds1 λ_ _ _ _ _ _ _ q=>add_int q
theorem cT:OpR X (binaryOp .Sub) (vH λi j=>.int (i-j)):=ds1 λ_ _ _ _ _ _ _ q=>sub_int q
theorem jP:OpR X (binaryOp .FloorDiv) (rI jU λi j=>.int (i/j)):=opI λi j _ _ _ _ _ hc q=>by
 have h1:(0:Int)<j:=hc.1
 have h2:j<1073741824:=hc.2
 exact floordiv_int (by omega) (by rw[Int.fdiv_eq_ediv_of_nonneg i (by omega)];exact q) (.inl (PyProof.noPylong_small (by omega)))
theorem bN:OpR X (binaryOp .Mod) (rI (λ_ j=>0<j) λi j=>.int (i%j)):=opI λi j _ _ _ _ _ hc q=>by
 have h1:(0:Int)<j:=hc
 exact mod_int' (by omega) (by rw[Int.fmod_eq_emod_of_nonneg i (by omega)];exact q)
theorem vF:OpR X (binaryOp .Pow) (rI yR λi j=>.int (i^j.toNat)):=opI λ_ _ _ _ _ _ _ hc q=>pow_int_small hc.1 hc.2.1 hc.2.2 q
theorem unI{f:Value->Sem Value}{g:Int->Int}
 (rule:∀(i:Int)(t:Tok)(s:Shared)(Q:Value->Shared->Prop)(E:Value->Shared->Prop),Q (.int (g i) s.toks) {s with toks:=s.toks+1}->wpAny (model X.prog X.w) X.A (f (.int i t)) Q E s):
 UnR X f (rU λi=>.int (g i)):=by
 intro pins s σ H x v Q I rx h
 obtain⟨i,rfl,q⟩:=h
 obtain⟨t,rfl⟩:=rx
 exact rule i t s _ _ ⟨.int (g i),H,I.tok _,⟨_,rfl⟩,q⟩
theorem sY:UnR X (unaryOp .USub) (rU λi=>.int (-i)):=unI λ_ _ _ _ _ q=>neg_int q
end
def cj3:V->V->Bool
 |.non,.non=>true|.non,.int _=>true|.int _,.non=>true|.non,.bl _=>true|.bl _,.non=>true|.non,.str _=>true|.str _,.non=>true
 |.int _,.int _=>true|.bl _,.bl _=>true|.str _,.str _=>true|.byt _,.byt _=>true
 |.int _,.str _=>true|.str _,.int _=>true|.bl _,.str _=>true|.str _,.bl _=>true
 |_,_=>false
def rEq:R2:=λx y H Q=>cj3 x y=true/\Q (.bl (decide (x=y))) H
def rNe:R2:=λx y H Q=>cj3 x y=true/\Q (.bl (!decide (x=y))) H
theorem aa5:decide (V.int i=V.int j)=(i==j):=by
 rw[Bool.eq_iff_iff]
 simp
theorem ah9:decide (V.bl i=V.bl j)=(i==j):=by
 rw[Bool.eq_iff_iff]
 simp
theorem ak5:decide (V.str i=V.str j)=(i==j):=by
 rw[Bool.eq_iff_iff]
 simp
theorem bp3:decide (V.byt i=V.byt j)=(i.toList==j.toList):=by
 rw[Bool.eq_iff_iff]
 cases i
 cases j
 simp
section
variable {X : Cx} {a b c : Expr} {ta tb tc : TE} {pos : Pos}
theorem cX(I:Inv X pins σ H s)(q:Q (.bl k) H)(e:k=k'):EP X pins σ Q (.bool k') s:=by
 subst e
 exact⟨.bl k,H,I,rfl,q⟩
theorem dw5:OpR X (compareOp .Eq) rEq:=by
 intro pins s σ H x y v u Q I rx ry h
 obtain⟨hs,q⟩:=h
 cases x with
 |non=>
  cases rx
  cases y with
  |non=>cases ry;exact PySem.EqNone.eq_none_none (cX I q (by simp))
  |bl j=>cases ry;exact PySem.EqNone.eq_none_bool (cX I q (by simp))
  |int j=>obtain⟨t',rfl⟩:=ry;exact PySem.EqNone.eq_none_int (cX I q (by simp))
  |str j=>obtain⟨t',rfl⟩:=ry;exact PySem.EqNone.eq_none_str (cX I q (by simp))
  |_=>exact absurd (show false=true from hs) Bool.false_ne_true
 |bl i=>
  cases rx
  cases y with
  |non=>cases ry;exact PySem.EqNone.eq_bool_none (cX I q (by simp))
  |bl j=>cases ry;exact eq_bool (cX I q ah9)
  |str j=>obtain⟨t',rfl⟩:=ry;exact PySem.EqMixed.eq_bool_str (cX I q (by simp))
  |_=>exact absurd (show false=true from hs) Bool.false_ne_true
 |int i=>
  obtain⟨t,rfl⟩:=rx
  cases y with
  |non=>cases ry;exact PySem.EqNone.eq_int_none (cX I q (by simp))
  |int j=>obtain⟨t',rfl⟩:=ry;exact eq_int (cX I q aa5)
  |str j=>obtain⟨t',rfl⟩:=ry;exact PySem.EqMixed.eq_int_str (cX I q (by simp))
  |_=>exact absurd (show false=true from hs) Bool.false_ne_true
 |str i=>
  obtain⟨t,rfl⟩:=rx
  cases y with
  |non=>cases ry;exact PySem.EqNone.eq_str_none (cX I q (by simp))
  |bl j=>cases ry;exact PySem.EqMixed.eq_str_bool (cX I q (by simp))
  |int j=>obtain⟨t',rfl⟩:=ry;exact PySem.EqMixed.eq_str_int (cX I q (by simp))
  |str j=>obtain⟨t',rfl⟩:=ry;exact eq_str (cX I q ak5)
  |_=>exact absurd (show false=true from hs) Bool.false_ne_true
 |byt i=>
  obtain⟨t,rfl⟩:=rx
  cases y with
  |byt j=>obtain⟨t',rfl⟩:=ry;exact PySem.W.eq_bytes (cX I q bp3)
  |_=>exact absurd (show false=true from hs) Bool.false_ne_true
 |_=>cases y<;>exact absurd (show false=true from hs) Bool.false_ne_true
theorem db7:OpR X (compareOp .NotEq) rNe:=by
 intro pins s σ H x y v u Q I rx ry h
 obtain⟨hs,q⟩:=h
 cases x with
 |non=>
  cases rx
  cases y with
  |non=>cases ry;exact PySem.EqNone.ne_none_none (cX I q (by simp))
  |bl j=>cases ry;exact PySem.EqNone.ne_none_bool (cX I q (by simp))
  |int j=>obtain⟨t',rfl⟩:=ry;exact PySem.EqNone.ne_none_int (cX I q (by simp))
  |str j=>obtain⟨t',rfl⟩:=ry;exact PySem.EqNone.ne_none_str (cX I q (by simp))
  |_=>exact absurd (show false=true from hs) Bool.false_ne_true
 |bl i=>
  cases rx
  cases y with
  |non=>cases ry;exact PySem.EqNone.ne_bool_none (cX I q (by simp))
  |bl j=>cases ry;exact ne_bool (cX I q (congrArg not ah9))
  |str j=>obtain⟨t',rfl⟩:=ry;exact PySem.EqMixed.ne_bool_str (cX I q (by simp))
  |_=>exact absurd (show false=true from hs) Bool.false_ne_true
 |int i=>
  obtain⟨t,rfl⟩:=rx
  cases y with
  |non=>cases ry;exact PySem.EqNone.ne_int_none (cX I q (by simp))
  |int j=>obtain⟨t',rfl⟩:=ry;exact ne_int (cX I q (congrArg not aa5))
  |str j=>obtain⟨t',rfl⟩:=ry;exact PySem.EqMixed.ne_int_str (cX I q (by simp))
  |_=>exact absurd (show false=true from hs) Bool.false_ne_true
 |str i=>
  obtain⟨t,rfl⟩:=rx
  cases y with
  |non=>cases ry;exact PySem.EqNone.ne_str_none (cX I q (by simp))
  |bl j=>cases ry;exact PySem.EqMixed.ne_str_bool (cX I q (by simp))
  |int j=>obtain⟨t',rfl⟩:=ry;exact PySem.EqMixed.ne_str_int (cX I q (by simp))
  |str j=>obtain⟨t',rfl⟩:=ry;exact ne_str (cX I q (congrArg not ak5))
  |_=>exact absurd (show false=true from hs) Bool.false_ne_true
 |byt i=>
  obtain⟨t,rfl⟩:=rx
  cases y with
  |byt j=>obtain⟨t',rfl⟩:=ry;exact PySem.W.ne_bytes (cX I q (congrArg not bp3))
  |_=>exact absurd (show false=true from hs) Bool.false_ne_true
 |_=>cases y<;>exact absurd (show false=true from hs) Bool.false_ne_true
theorem ag3:OpR X (compareOp .Lt) (vH λi j=>.bl (decide (i<j))):=cv0 λ_ _ _ _ _ _ _ q=>lt_int q
theorem gQ:OpR X (compareOp .LtE) (vH λi j=>.bl (decide (i<=j))):=cv0 λ_ _ _ _ _ _ _ q=>le_int q
theorem bq4:OpR X (compareOp .Gt) (vH λi j=>.bl (decide (j<i))):=cv0 λ_ _ _ _ _ _ _ q=>gt_int q
theorem bv7:OpR X (compareOp .In) (λx y H Q=>∃i j,x=.str i/\y=.str j/\Q (.bl (!(Builtin.Str.occurrences j i 0 j.length 1).isEmpty)) H):=by
 intro pins s σ H x y v u Q I rx ry h
 obtain⟨i,j,rfl,rfl,q⟩:=h
 obtain⟨t,rfl⟩:=rx
 obtain⟨t',rfl⟩:=ry
 exact in_str (cX I q rfl)
theorem dh3:OpR X (compareOp .Is) (λx y H Q=>y=.non/\Q (.bl (decide (x=.non))) H):=by
 intro pins s σ H x y v u Q I rx ry h
 obtain⟨rfl,q⟩:=h
 cases ry
 refine is_none_gen (cX I q ?_)
 cases x<;>first
  |(cases rx;rfl)
  |(obtain⟨t,rfl⟩:=rx;rfl)
theorem cj8:OpR X (compareOp .IsNot) (λx y H Q=>y=.non/\Q (.bl (!decide (x=.non))) H):=by
 intro pins s σ H x y v u Q I rx ry h
 obtain⟨rfl,q⟩:=h
 cases ry
 refine isnot_none_gen (cX I q ?_)
 cases x<;>first
  |(cases rx;rfl)
  |(obtain⟨t,rfl⟩:=rx;rfl)
theorem OpR.or(h:OpR X f r)(h':OpR X f r'):OpR X f (λx y H Q=>r x y H Q\/r' x y H Q):=by
 intro pins s σ H x y v u Q I rx ry q
 rcases q with q|q
 . exact h s σ H x y v u Q I rx ry q
 . exact h' s σ H x y v u Q I rx ry q
theorem eE(b:Expr)(h:op≠ .In:=by decide)(h2:op≠ .NotIn:=by decide):behindInMarks op b=false:=by
 have e1:(op==CmpOp.In)=false:=by cases op<;>first|rfl|exact absurd rfl h
 have e2:(op==CmpOp.NotIn)=false:=by cases op<;>first|rfl|exact absurd rfl h2
 cases b<;>simp[behindInMarks,e1,e2]
theorem cS{op:CmpOp}{r:R2}(ho:OpR X (compareOp op) r)(ha:PE X a ta)(hb:PE X b tb)(hm:behindInMarks op b=false):PE X (.Compare a [op] [b] pos) (tOp r ta tb):=by
 intro pins s σ H Q I h
 exact wpAny_Compare1 (ck2 ha hb I h λv u s2 x y H2 I2 rx ry q=>ho s2 σ H2 x y v u Q I2 rx ry q) hm
def ap8(t:TE):TT:=λσ H Q=>t σ H λx H'=>∃k,x=.bl k/\Q k H'
theorem uN(ho:OpR X (compareOp op) r)(ha:PE X a ta)(hb:PE X b tb)(hm:behindInMarks op b=false):PT X (.Compare a [op] [b] pos) (ap8 (tOp r ta tb)):=by
 intro pins s σ H Q I h
 refine wpAny_isTrue_Compare1 (cD (ha s σ H _ I h) λv s1 ⟨x,H1,I1,r1,q1⟩=>cD (hb s1 σ H1 _ I1 q1) λu s2 ⟨y,H2,I2,r2,q2⟩=>
  cD (ho s2 σ H2 x y v u _ I2 r1 r2 q2) λc s3 ⟨z,H3,I3,r3,k,e,q3⟩=>?_) hm
 subst e
 cases r3
 exact wpAny_truthy_bool ⟨H3,I3,q3⟩
def au8(r r':R2)(ta tb tc:TE):TE:=λσ H Q=>ta σ H λx H1=>tb σ H1 λy H2=>r x y H2 λz H3=>∃k,z=.bl k/\
 (if k=true then tc σ H3 λw' H4=>r' y w' H4 Q else Q (.bl false) H3)
theorem ak0(ho:OpR X (compareOp op) r)(ho':OpR X (compareOp op') r')(ha:PE X a ta)(hb:PE X b tb)(hc:PE X c tc)
 (hm:lastMarks [op,op'] [b,c]=false:=by with_unfolding_all rfl):PE X (.Compare a [op,op'] [b,c] pos) (au8 r r' ta tb tc):=by
 intro pins s σ H Q I h
 refine Compare_chain (cD (ha s σ H _ I h) λv s1 ⟨x,H1,I1,r1,q1⟩=>chain_link (cD (hb s1 σ H1 _ I1 q1) λu s2 ⟨y,H2,I2,r2,q2⟩=>
  cD (ho s2 σ H2 x y v u _ I2 r1 r2 q2) λd s3 ⟨z,H3,I3,r3,k,e,q3⟩=>?_)) hm
 subst e
 cases r3
 refine wpAny_truthy_bool ?_
 cases k with
 |false=>exact ite_ff ⟨.bl false,H3,I3,rfl,q3⟩
 |true=>exact ite_tt (chain_last (cD (hc s3 σ H3 _ I3 q3) λw' s4 ⟨z',H4,I4,r4,q4⟩=>ho' s4 σ H4 y z' u w' Q I4 r2 r4 q4))
theorem ap9(ho:OpR X (compareOp op) r)(ho':OpR X (compareOp op') r')(ha:PE X a ta)(hb:PE X b tb)(hc:PE X c tc)
 (hm:lastMarks [op,op'] [b,c]=false:=by with_unfolding_all rfl):PT X (.Compare a [op,op'] [b,c] pos) (ap8 (au8 r r' ta tb tc)):=by
 intro pins s σ H Q I h
 refine isTrue_chain (cD (ha s σ H _ I h) λv s1 ⟨x,H1,I1,r1,q1⟩=>test_link (cD (hb s1 σ H1 _ I1 q1) λu s2 ⟨y,H2,I2,r2,q2⟩=>
  cD (ho s2 σ H2 x y v u _ I2 r1 r2 q2) λd s3 ⟨z,H3,I3,r3,k,e,q3⟩=>?_)) hm
 subst e
 cases r3
 refine wpAny_truthy_bool ?_
 cases k with
 |false=>
  obtain⟨k',e',q'⟩:=q3
  cases e'
  exact ite_ff ⟨H3,I3,q'⟩
 |true=>
  refine ite_tt (test_last (cD (hc s3 σ H3 _ I3 q3) λw' s4 ⟨z',H4,I4,r4,q4⟩=>cD (ho' s4 σ H4 y z' u w' _ I4 r2 r4 q4) λd' s5 ⟨z2,H5,I5,r5,k2,e2,q5⟩=>?_))
  subst e2
  cases r5
  exact wpAny_truthy_bool ⟨H5,I5,q5⟩
def bh0(K:PySem.W.Frag)(x:V)(H:Hp)(k:Bool):Prop:=
 match x with
 |.non=>k=false
 |.bl b=>k=b
 |.int i=>k=(i !=0)
 |.str y=>y.length<=sizeLine/\k=((y.length:Int) !=0)
 |.byt y=>y.size<=sizeLine/\k=((y.size:Int) !=0)
 |.ref p=>(∃xs,SqL K H p xs/\k=!xs.isEmpty)\/(∃xs,SqT K H p xs/\k=!xs.isEmpty)\/∃kvs,H p=some (.dK kvs)/\k=!kvs.isEmpty
 |_=>False
theorem bn4(r:KV kvs vs):(!vs.isEmpty)=!kvs.isEmpty:=by
 cases r<;>rfl
theorem az1(r:Vals xs its):(!its.toArray.isEmpty)=!xs.isEmpty:=by
 cases r<;>simp
theorem uU:(sizeLine:Nat)<2^63:=by rw[sizeLine_eq];decide
theorem dz3:ds9 X (λx H Q=>∃k,bh0 X.K x H k/\Q k H):=by
 intro pins s σ H x v Q I rx h
 obtain⟨k,e,q⟩:=h
 have hl:=uU
 have hs:sizeLine=16777216:=sizeLine_eq
 cases x with
 |non=>
  cases rx
  have e':k=false:=e
  subst e'
  exact truthy_none ⟨H,I,q⟩
 |bl b=>
  cases rx
  have e':k=b:=e
  subst e'
  exact wpAny_truthy_bool ⟨H,I,q⟩
 |int i=>
  obtain⟨t,rfl⟩:=rx
  have e':k=(i !=0):=e
  subst e'
  exact PySem.P.truthy_int ⟨H,I,q⟩
 |str y=>
  obtain⟨t,rfl⟩:=rx
  obtain⟨hy,e'⟩:y.length<=sizeLine/\k=((y.length:Int) !=0):=e
  subst e'
  exact PySem.P.truthy_str (by omega) ⟨H,I.tok _,q⟩
 |byt y=>
  obtain⟨t,rfl⟩:=rx
  obtain⟨hy,e'⟩:y.size<=sizeLine/\k=((y.size:Int) !=0):=e
  subst e'
  exact PySem.W.truthy_bytes (by omega) ⟨H,I.tok _,q⟩
 |ref p=>
  cases rx
  have e':(∃xs,SqL X.K H p xs/\k=!xs.isEmpty)\/(∃xs,SqT X.K H p xs/\k=!xs.isEmpty)\/∃kvs,H p=some (.dK kvs)/\k=!kvs.isEmpty:=e
  rcases e' with⟨xs,hx,e'⟩|⟨xs,hx,e'⟩|⟨kvs,hx,e'⟩
  . subst e'
    obtain⟨its,r,pl,hz⟩:=I.list hx
    have hlen:=r.length
    exact wpAny_truthy_list pl.isList (by simp only[List.size_toArray];omega) ⟨H,I.tok _,by rw[az1 r];exact q⟩
  . subst e'
    obtain⟨its,r,pl,hz⟩:=I.tuple hx
    have hlen:=r.length
    exact truthy_tuple pl (by simp only[List.size_toArray];omega) ⟨H,I.tok _,by rw[az1 r];exact q⟩
  . subst e'
    obtain⟨hz,hS,vs,r,m⟩:kvs.length<=sizeLine/\(p==sysModules)=false/\∃vs,KV kvs vs/\s.heap.DictOf (av4 X.prog X.w) p vs:=I.hok p _ hx
    have hlen:kvs.length=vs.length:=Paired.length r
    exact wpAny_truthy_dict hS m (by omega) ⟨H,I.tok _,by rw[bn4 r];exact q⟩
 |_=>exact(show False from e).elim
theorem cu1(ha:PE X a ta)(he:∀whole,isTrue a X.env whole=(do let v<-whole;standAt a.pos;holding [v] (truthy v))):
 PT X a (λσ H Q=>ta σ H λx H'=>∃k,bh0 X.K x H' k/\Q k H'):=by
 intro pins s σ H Q I h
 exact isTrue_plain (cD (ha s σ H _ I h) λv s1 ⟨x,H1,I1,r1,q1⟩=>dz3 s1 σ H1 x v Q I1 r1 q1) (he _)
theorem op_add_str:OpR X (binaryOp .Add) (λx y H Q=>∃i j,x=.str i/\y=.str j/\i.length+j.length<=sizeLine/\Q (.str (i++j)) H):=by
 intro pins s σ H x y v u Q I rx ry h
 obtain⟨i,j,rfl,rfl,hz,q⟩:=h
 obtain⟨t,rfl⟩:=rx
 obtain⟨t',rfl⟩:=ry
 exact add_str (λt' tk=>⟨.str (i++j),H,I.tok _,⟨_,rfl⟩,q⟩) hz
theorem ab2(r:Vals [x] us):∃u,us=[u]/\RelV x u:=by
 cases r with
 |cons r1 r2=>cases r2;exact⟨_,rfl,r1⟩
theorem by4(r:Vals [x,y] us):∃u w',us=[u,w']/\RelV x u/\RelV y w':=by
 cases r with
 |cons r1 r2=>
  cases r2 with
  |cons r3 r4=>cases r4;exact⟨_,_,rfl,r1,r3⟩
theorem ce3:CallR X (.builtin "abs") (λxs H Q=>∃i,xs=[.int i]/\Q (.int (if i<0 then -i else i)) H):=by
 intro pins s σ H xs us Q I r h
 obtain⟨i,rfl,q⟩:=h
 obtain⟨u,rfl,t,rfl⟩:=ab2 r
 exact call_abs_int λu tk=>⟨.int (if i<0 then -i else i),H,I.tok _,⟨_,rfl⟩,q⟩
theorem bo8(hc:X.calm=true):CallR X (.builtin "max") (λxs H Q=>∃i j,xs=[.int i,.int j]/\Q (.int (if j>i then j else i)) H):=by
 intro pins s σ H xs us Q I r h
 obtain⟨i,j,rfl,q⟩:=h
 obtain⟨u,w',rfl,⟨t,rfl⟩,⟨t',rfl⟩⟩:=by4 r
 refine max_two_ints (I.ok.hd hc) λh' tk k=>⟨_,H,I.kept k,?_,q⟩
 by_cases hj:j>i
 . rw[if_pos hj,if_pos hj];exact⟨_,rfl⟩
 . rw[if_neg hj,if_neg hj];exact⟨_,rfl⟩
theorem bz8(hc:X.calm=true):CallR X (.builtin "min") (λxs H Q=>∃i j,xs=[.int i,.int j]/\Q (.int (if j<i then j else i)) H):=by
 intro pins s σ H xs us Q I r h
 obtain⟨i,j,rfl,q⟩:=h
 obtain⟨u,w',rfl,⟨t,rfl⟩,⟨t',rfl⟩⟩:=by4 r
 refine min_two_ints (I.ok.hd hc) λh' tk k=>⟨_,H,I.kept k,?_,q⟩
 by_cases hj:j<i
 . rw[if_pos hj,if_pos hj];exact⟨_,rfl⟩
 . rw[if_neg hj,if_neg hj];exact⟨_,rfl⟩
theorem bu0:CallR X (.type "str") (λxs H Q=>∃i,xs=[.int i]/\i.natAbs.log2<1920/\Q (.str (toString i)) H):=by
 intro pins s σ H xs us Q I r h
 obtain⟨i,rfl,hz,q⟩:=h
 obtain⟨u,rfl,t,rfl⟩:=ab2 r
 exact PySem.P.str_of_int hz ⟨.str _,H,I.tok _,⟨_,rfl⟩,q⟩
def db2(K:PySem.W.Frag)(x:V)(H:Hp)(n:Nat):Prop:=
 match x with
 |.str y=>y.length<=sizeLine/\n=y.length
 |.byt y=>y.size<=sizeLine/\n=y.size
 |.ref p=>(∃xs,SqL K H p xs/\n=xs.length)\/∃xs,SqT K H p xs/\n=xs.length
 |_=>False
theorem co3:CallR X (.builtin "len") (λxs H Q=>∃x n,xs=[x]/\db2 X.K x H n/\Q (.int n) H):=by
 intro pins s σ H xs us Q I r h
 obtain⟨x,n,rfl,e,q⟩:=h
 obtain⟨u,rfl,rx⟩:=ab2 r
 have hl:=uU
 have hs:sizeLine=16777216:=sizeLine_eq
 cases x with
 |str y=>
  obtain⟨t,rfl⟩:=rx
  obtain⟨hy,e'⟩:y.length<=sizeLine/\n=y.length:=e
  subst e'
  exact len_str (by omega) ⟨.int _,H,I.tok _,⟨_,rfl⟩,q⟩
 |byt y=>
  obtain⟨t,rfl⟩:=rx
  obtain⟨hy,e'⟩:y.size<=sizeLine/\n=y.size:=e
  subst e'
  exact PySem.W.len_bytes (by omega) ⟨.int _,H,I.tok _,⟨_,rfl⟩,q⟩
 |ref p=>
  cases rx
  have e':(∃xs,SqL X.K H p xs/\n=xs.length)\/∃xs,SqT X.K H p xs/\n=xs.length:=e
  rcases e' with⟨xs,hx,e'⟩|⟨xs,hx,e'⟩
  . subst e'
    obtain⟨its,r',pl,hz⟩:=I.list hx
    have hlen:=r'.length
    exact Calls.call_len_list pl.isList (by simp only[List.size_toArray];omega) ⟨.int xs.length,H,I.tok _,⟨_,by simp only[List.size_toArray];rw[hlen]⟩,q⟩
  . subst e'
    obtain⟨its,r',pl,hz⟩:=I.tuple hx
    have hlen:=r'.length
    exact len_tuple pl (by simp only[List.size_toArray];omega) ⟨.int xs.length,H,I.tok _,⟨_,by simp only[List.size_toArray];rw[hlen]⟩,q⟩
 |_=>exact(show False from e).elim
theorem bd2:CallR X (.builtin "divmod") (λxs H Q=>∃i j,xs=[.int i,.int j]/\jU i j/\∀p,H p=none->Q (.ref p) (upd H p (.tup [.int (i/j),.int (i%j)]))):=by
 intro pins s σ H xs us Q I r h
 obtain⟨i,j,rfl,⟨h1,h2⟩,q⟩:=h
 obtain⟨u,w',rfl,⟨t,rfl⟩,⟨t',rfl⟩⟩:=by4 r
 refine divmod_int (by omega) ?_ (.inl (PyProof.noPylong_small (by omega)))
 rw[Int.fdiv_eq_ediv_of_nonneg i (by omega),Int.fmod_eq_emod_of_nonneg i (by omega)]
 have hn:H s.heap.objs.size=none:=I.hok.fresh (Nat.le_refl _)
 refine⟨.ref s.heap.objs.size,_,?_,rfl,q _ hn⟩
 refine I.laid (λb o e=>Heap.get?_push_of_some _ e) (Nat.le_refl _) ⟨by simp only[List.length_cons,List.length_nil];rw[sizeLine_eq];decide,[.int (i/j) s.toks,.int (i%j) (s.toks+1)],.cons ⟨_,rfl⟩ (.cons ⟨_,rfl⟩ .nil),?_⟩
 exact⟨_,Heap.get?_push_size s.heap rfl,rfl,0,rfl⟩
end
end L2
namespace L2
open PySem PySem.Spec PyProof.Rows
structure ObjM (h:Heap) (x dx C:Addr) (mA:Str->Option Value):Prop where
 obj:h.get? x=some (PySem.W.instObj C dx)
 ns:h.Ns1 dx mA
 ne:dx≠x
theorem bq6{h:Heap}{dx:Addr}{mA:Str->Option Value}(n:h.Ns1 dx mA):∃od,h.get? dx=some od/\∀name,PySem.W.lookIn name od=some (mA name):=by
 obtain⟨o,es,ep,ho,hd,hk,_,hm⟩:=n
 refine⟨o,ho,λname=>?_⟩
 have e:=hm name
 unfold nsFind findBy at e
 rw[<-Array.find?_toList]at e
 unfold PySem.W.lookIn
 rw[hd]
 dsimp only
 split
 . rename_i y q
   rw[q]at e
   exact congrArg some e
 . rename_i q
   rw[q]at e
   have a:es.toList.any (·.refKey)=false:=by
    rw[List.any_eq_false]
    intro y hy
    obtain⟨z,t,hkey⟩:=hk y (Array.mem_toList_iff.mp hy)
    simp[DictEntry.refKey,hkey]
   have a':¬es.toList.any (·.refKey)=true:=by rw[a];exact Bool.false_ne_true
   rw[if_neg a']
   exact congrArg some e
theorem ObjM.look(I:ObjM h x dx C mA):∃od,PySem.W.InstAt h x (PySem.W.instObj C dx) C (some od)/\∀name,PySem.W.lookIn name od=some (mA name):=
 let⟨od,ho,hl⟩:=bq6 I.ns
 ⟨od,⟨I.obj,rfl,rfl,ho⟩,hl⟩
section
variable {prog : Program} {w : World} {A : Around} {E : Value → Shared → Prop} {s : Shared} {K : PySem.W.Frag} {x dx C f : Addr} {mA : Str → Option Value} {name : Str} {v : Value}
theorem cb7(X:K.In s.heap)(I:ObjM s.heap x dx C mA)(hg:PySem.W.plainGet K C name=true)(hh:PySem.W.hasDictIn K C=true)
 (ha:PySem.W.findIn K (.ref C) name=some none)(hv:mA name=some v)(hv':PySem.W.handedIn v=true)(h:Q v {s with toks:=s.toks+1}):
 wpAny (model prog w) A (getAttr (.ref x) name expr) Q E s:=by
 obtain⟨od,J,hl⟩:=I.look
 exact PySem.W.get_value X J (PySem.W.plainGet_of hg).1 (PySem.W.findObj_own hh ha rfl (by rw[hl,hv])) hv' h
theorem cf4(X:K.In s.heap)(I:ObjM s.heap x dx C mA)(hg:PySem.W.plainGet K C name=true)
 (hf:PySem.W.findIn K (.ref C) name=some (some (.ref f)))(ht:PySem.W.isFn K (.ref f)=true)(hv:mA name=none)(h:Q (.ref f,[.ref x]) s):
 wpAny (model prog w) A (getMethod (.ref x) name pl) Q E s:=by
 obtain⟨od,J,hl⟩:=I.look
 exact PySem.W.method_fn X J (PySem.W.plainGet_of hg).1 (PySem.W.plainGet_of hg).2 hf (beq_iff_eq.mp ht) (by show(PySem.W.lookIn name od).map (·.isSome)=some false;rw[hl,hv];rfl) h
theorem cl7(X:K.In s.heap)(I:ObjM s.heap x dx C mA)
 (hs:PySem.W.findIn K (.ref C) "__setattr__"=some (some (.builtin "object.__setattr__")))(hp:PySem.W.plainOver K C=true)(ht:PySem.W.takerIn K C name=some none)(hh:PySem.W.hasDictIn K C=true)
 (hw:PySem.Within mA ns)(hsz:ns.length<=sizeLine)
 (h:∀h',ObjM h' x dx C (λy=>if y=name then some v else mA y)->Heap.SameBut dx s.heap h'->Q () {s with heap:=h',toks:=s.toks+2}):
 wpAny (model prog w) A (setAttr (.ref x) name v) Q E s:=by
 obtain⟨od,J,hl⟩:=I.look
 refine PySem.W.set_plain X J hs (PySem.W.osa_open (s:={s with toks:=s.toks+1}) (r:=none) X J hp ht λb=>?_)
 obtain⟨cd,hc,hd'⟩:=PySem.W.any_some hh
 have hx:s.heap.get? x=some ⟨.ref C,some dx,.plain,#[]⟩:=I.obj
 refine wpAny_bind (wpAny_pure (wpAny_bind (wpAny_bind (wpAny_loadPart hx (wpAny_bind (PySem.W.Looks.here (s:={s with toks:=s.toks+1}) (PySem.W.looks_clsIn X hc) ?_))))))
 rw[hd']
 refine wpAny_pure (a:=some dx) (wpAny_bind (wpAny_pure (wpAny_bind ?_)))
 refine wpAny_nsSet1 (s:={s with toks:=s.toks+1}) I.ns λh' hn2 hs2=>?_
 obtain⟨oD,esD,epD,hoD,hdD,hcD⟩:=hn2.count (PySem.Within.cons name v hw)
 refine wpAny_bind (wpAny_lookBehind hoD (by rw[hdD];exact pastItsLine_dict (Nat.le_trans hcD (by rw[List.length_cons];omega))) ?_)
 exact wpAny_pure (h _ ⟨(hs2.2 _ (Ne.symm I.ne)).trans I.obj,hn2,I.ne⟩ hs2)
theorem ck1(X:K.In s.heap)(hm:PySem.W.makesIn K C=true)
 (hi:PySem.W.findIn K (.ref C) "__init__"=some (some (.ref f)))(hf:PySem.W.typeIn K (.ref f)=some (.type "function"))
 (h:codeAny (model prog w) (A.under (.builtin "type.__call__" ⟨.ref C::vs,kw⟩)) (.call (.ref f) ⟨.ref (s.heap.objs.size+1)::vs,kw⟩) (PySem.W.InitBack (s.heap.objs.size+1) R)
  {s with heap:=(s.heap.push PySem.W.emptyDict).push (PySem.W.instObj C s.heap.objs.size)}):
 codeAny (model prog w) A (.call (.ref C) ⟨vs,kw⟩) R s:=by
 obtain⟨hh,g,d,t,os⟩:=s
 exact PySem.W.make_core (PySem.W.makes_of X hm) (PySem.W.looks_findIn X hi) (λself=>PySem.W.bind_fn X self hf) (.inl rfl) h
end
def lH (f : Str) (v : V) : List (Str × V) → List (Str × V)
  | [] => [(f, v)]
  | (g, x) :: r => if g = f then (g, v) :: r else (g, x) :: lH f v r
theorem ah0 (f g : Str) (v : V) : ∀ fs : List (Str × V), (lH f v fs).lookup g = if g = f then some v else fs.lookup g
  | [] => by
    show List.lookup g [(f, v)] = _
    by_cases h : g = f
    · have hb : (g == f) = true := beq_iff_eq.mpr h
      simp only [List.lookup, hb, if_pos h]
    · have hb : (g == f) = false := beq_eq_false_iff_ne.mpr h
      simp only [List.lookup, hb, if_neg h]
  | (k, x) :: r => by
    have ih := ah0 f g v r
    rw [show lH f v ((k, x) :: r) = (if k = f then (k, v) :: r else (k, x) :: lH f v r) from rfl]
    by_cases hk : k = f
    · rw [if_pos hk]
      by_cases h : g = k
      · have hb : (g == k) = true := beq_iff_eq.mpr h
        simp only [List.lookup, hb, if_pos (h.trans hk)]
      · have hb : (g == k) = false := beq_eq_false_iff_ne.mpr h
        simp only [List.lookup, hb, if_neg (fun e : g = f => h (e.trans hk.symm))]
    · rw [if_neg hk]
      by_cases h : g = k
      · have hb : (g == k) = true := beq_iff_eq.mpr h
        simp only [List.lookup, hb, if_neg (fun e : g = f => hk (h.symm.trans e))]
      · have hb : (g == k) = false := beq_eq_false_iff_ne.mpr h
        simp only [List.lookup, hb]
        exact ih
theorem xO (f : Str) (v : V) : ∀ fs : List (Str × V), f ∈ (lH f v fs).map (·.1) ∧ ∀ g, g ∈ fs.map (·.1) → g ∈ (lH f v fs).map (·.1)
  | [] => ⟨by simp [lH], fun g h => by simp at h⟩
  | (k, x) :: r => by
    obtain ⟨i1, i2⟩ := xO f v r
    rw [show lH f v ((k, x) :: r) = (if k = f then (k, v) :: r else (k, x) :: lH f v r) from rfl]
    by_cases hk : k = f
    · rw [if_pos hk]
      subst hk
      exact ⟨by simp, fun g h => by simpa using h⟩
    · rw [if_neg hk]
      refine ⟨?_, fun g h => ?_⟩
      · rw [List.map_cons]
        exact List.mem_cons_of_mem _ i1
      · rw [List.map_cons] at h ⊢
        rcases List.mem_cons.mp h with e | e
        · exact List.mem_cons.mpr (.inl e)
        · exact List.mem_cons_of_mem _ (i2 g e)
theorem zV (f : Str) (v : V) : ∀ fs : List (Str × V), (lH f v fs).length ≤ fs.length + 1
  | [] => by simp [lH]
  | (k, x) :: r => by
    have ih := zV f v r
    rw [show lH f v ((k, x) :: r) = (if k = f then (k, v) :: r else (k, x) :: lH f v r) from rfl]
    by_cases hk : k = f
    · rw [if_pos hk, List.length_cons, List.length_cons]; omega
    · rw [if_neg hk, List.length_cons, List.length_cons]; omega
theorem RelO.some_of(r:RelO (some v) o):∃u,o=some u/\RelV v u:=by
 cases o with
 |none=>exact(show False from r).elim
 |some u=>exact⟨u,rfl,r⟩
theorem RelO.none_of(r:RelO none o):o=none:=by
 cases o with
 |none=>rfl
 |some u=>exact(show False from r).elim
theorem bl9(r:RelV v u):PySem.W.handedIn u=true:=by
 cases v with
 |non=>cases(show u=Value.none from r);rfl
 |bl b=>cases(show u=Value.bool b from r);rfl
 |int i=>obtain⟨t,e⟩:=(show∃t,u=Value.int i t from r);cases e;rfl
 |str x=>obtain⟨t,e⟩:=(show∃t,u=Value.str x t from r);cases e;rfl
 |byt b=>obtain⟨t,e⟩:=(show∃t,u=Value.bytes b t from r);cases e;rfl
 |flt b=>obtain⟨t,e⟩:=(show∃t,u=Value.float b t from r);cases e;rfl
 |ref a=>cases(show u=Value.ref a from r);rfl
 |ty n=>cases(show u=Value.type n from r);rfl
section
variable {P : Program} {w : World} {H H' : Hp} {h h' : Heap} {a C dx : Addr} {fs fs' : List (Str × V)}
theorem zI(hok:HOk P w H h)(e:H a=some (.ins C dx fs)):∃mA,ObjM h a dx C mA/\(∀f,RelO (fs.lookup f) (mA f))/\PySem.Within mA (fs.map (·.1))/\fs.length<=1000/\H dx=some (.own a):=by
 obtain⟨d,z,ne,ob,mA,n,r,q⟩:=(show ObjOk P w H h a (.ins C dx fs) from hok a _ e)
 exact⟨mA,⟨ob,n,ne⟩,r,q,z,d⟩
end
structure Cls (K:PySem.W.Frag) (C:Addr):Prop where
 pg:PySem.W.plainGet K C Str.empty=true
 hd:PySem.W.hasDictIn K C=true
 po:PySem.W.plainOver K C=true
 sa:PySem.W.findIn K (.ref C) "__setattr__"=some (some (.builtin "object.__setattr__"))
theorem Cls.get{K:PySem.W.Frag}{C:Addr}(c:Cls K C)(f:Str):PySem.W.plainGet K C f=true:=c.pg
def NoAttr(K:PySem.W.Frag)(C:Addr)(f:Str):Prop:=PySem.W.findIn K (.ref C) f=some none
theorem NoAttr.taker{K:PySem.W.Frag}{C:Addr}{f:Str}(n:NoAttr K C f):PySem.W.takerIn K C f=some none:=by
 unfold PySem.W.takerIn
 rw[show PySem.W.findIn K (.ref C) f=some none from n]
 rfl
structure cl2 (K:PySem.W.Frag) (C:Addr) (m:Str) (f:Addr):Prop where
 at_:PySem.W.findIn K (.ref C) m=some (some (.ref f))
 fn:PySem.W.isFn K (.ref f)=true
 kp:PySem.W.keepIn K (.ref f)=true
section
variable {X : Cx} {pins : List (Addr × Obj)} {σ : St} {H : Hp} {s : Shared} {a C dx : Addr} {fs : List (Str × V)} {f : Str} {v : V} {A : Around} {E : Value → Shared → Prop}
theorem bv5(I:Inv X pins σ H s)(e:H a=some (.ins C dx fs))(c:Cls X.K C)(n:NoAttr X.K C f)(l:fs.lookup f=some v)
 (h:∀u s',Inv X pins σ H s'->RelV v u->Q u s'):wpAny (model X.prog X.w) A (getAttr (.ref a) f b) Q E s:=by
 obtain⟨mA,O,r,_,_,_⟩:=zI I.hok e
 obtain⟨u,hu,ru⟩:=RelO.some_of (v:=v) (o:=mA f) (by rw[<-l];exact r f)
 exact cb7 I.kIn O (c.get f) c.hd n hu (bl9 ru) (h u _ (I.tok _) ru)
theorem ar2(I:Inv X pins σ H s)(e:H a=some (.ins C dx fs))(c:Cls X.K C)(k:cl2 X.K C m g)(l:fs.lookup m=none)
 (h:Q (.ref g,[.ref a]) s):wpAny (model X.prog X.w) A (getMethod (.ref a) m pl) Q E s:=by
 obtain⟨mA,O,r,_,_,_⟩:=zI I.hok e
 have hn:mA m=none:=RelO.none_of (by rw[<-l];exact r m)
 exact cf4 I.kIn O (c.get m) k.at_ k.fn hn h
theorem bi5(I:Inv X pins σ H s)(e:H a=some (.ins C dx fs))(c:Cls X.K C)(n:NoAttr X.K C f)(hl:fs.length<1000)(ry:RelV y u)
 (h:∀s',Inv X pins σ (upd H a (.ins C dx (lH f y fs))) s'->Q () s'):wpAny (model X.prog X.w) A (setAttr (.ref a) f u) Q E s:=by
 obtain⟨mA,O,r,wi,_,ho⟩:=zI I.hok e
 have hz:(fs.map (·.1)).length<=sizeLine:=by rw[List.length_map,sizeLine_eq];omega
 refine cl7 I.kIn O c.sa c.po n.taker c.hd wi hz λh' O' sb=>h _ ?_
 have hd:∃o,h'.get? dx=some o:=let⟨o,_,_,e',_⟩:=O'.ns;⟨o,e'⟩
 refine I.write (x:=a) (e:=dx) (by rw[e];exact True.intro) (.inr ho) (λb q hb z=>(sb.2 b hb).trans z) hd ?_
 refine⟨by rw[cK O.ne];exact ho,?_,O.ne,O'.obj,_,O'.ns,λg=>?_,λg hg=>?_⟩
 . have:=zV f y fs;omega
 . show RelO ((lH f y fs).lookup g) (if g=f then some u else mA g)
   rw[ah0]
   by_cases q:g=f
   . rw[if_pos q,if_pos q];exact ry
   . rw[if_neg q,if_neg q];exact r g
 . by_cases q:g=f
   . rw[q];exact(xO f y fs).1
   . refine(xO f y fs).2 g (wi g λz=>hg ?_)
     show(if g=f then some u else mA g)=none
     rw[if_neg q];exact z
theorem Inv.made(I:Inv X pins σ H s):Inv X pins σ (upd (upd H s.heap.objs.size (.own (s.heap.objs.size+1))) (s.heap.objs.size+1) (.ins C s.heap.objs.size []))
 {s with heap:=(s.heap.push PySem.W.emptyDict).push (PySem.W.instObj C s.heap.objs.size)}:=by
 have e1:(s.heap.push PySem.W.emptyDict).get? s.heap.objs.size=some PySem.W.emptyDict:=Heap.get?_push_size s.heap rfl
 have e2:((s.heap.push PySem.W.emptyDict).push (PySem.W.instObj C s.heap.objs.size)).get? (s.heap.objs.size+1)=some (PySem.W.instObj C s.heap.objs.size):=by
  have:=Heap.get?_push_size (s.heap.push PySem.W.emptyDict) (o:=PySem.W.instObj C s.heap.objs.size) rfl
  rwa[Heap.size_push]at this
 have e3:(s.heap.push PySem.W.emptyDict).Ns s.heap.objs.size (λ_=>none):=⟨PySem.W.emptyDict,#[],_,e1,rfl,(λe he=>absurd he (by simp)),λ_=>rfl⟩
 have I1:=I.laid (a:=s.heap.objs.size) (o:=.own (s.heap.objs.size+1)) (h':=s.heap.push PySem.W.emptyDict) (t':=s.toks) (λb u q=>Heap.get?_push_of_some _ q) (Nat.le_refl _) ⟨_,e1⟩
 refine I1.laid (a:=s.heap.objs.size+1) (o:=.ins C s.heap.objs.size []) (t':=s.toks) (λb u q=>Heap.get?_push_of_some _ q) (Nat.le_of_eq (Heap.size_push _ _)) ?_
 have ne:s.heap.objs.size≠s.heap.objs.size+1:=Nat.ne_of_lt (Nat.lt_succ_self _)
 refine⟨by rw[cK ne,eT],Nat.zero_le _,ne,e2,λ_=>none,(Heap.Ns1.of_empty e3).at λo q=>Heap.get?_push_of_some _ q,λ_=>True.intro,λy hy=>absurd rfl hy⟩
theorem cg9(hb:attributeBase e f env (eval e env)=eval e env)
 (h:wpAny (model prog w) A (eval e env) (λo s₁=>wpAny (model prog w) A (getAttr o f true) Q E s₁) E s):wpAny (model prog w) A (eval (.Attribute e f pos) env) Q E s:=
 Attribute_any_ h (by rw[arm_eval_Attribute,hb])
end
def by9(K:PySem.W.Frag)(ta:TE)(f:Str):TE:=λσ H Q=>ta σ H λx H1=>∃a C dx fs v,x=.ref a/\H1 a=some (.ins C dx fs)/\Cls K C/\NoAttr K C f/\fs.lookup f=some v/\Q v H1
def ch0(K:PySem.W.Frag)(ta tv:TE)(f:Str):TS:=λD σ H=>tv σ H λy H1=>ta σ H1 λx H2=>∃a C dx fs,x=.ref a/\H2 a=some (.ins C dx fs)/\Cls K C/\NoAttr K C f/\fs.length<1000/\
 D.nx σ (upd H2 a (.ins C dx (lH f y fs)))
section
variable {X : Cx} {o e value : Expr} {f : Str} {pos pos' tpos : Pos} {ta tv : TE}
theorem cr9(he:PE X e ta)(hb:attributeBase e f X.env (eval e X.env)=eval e X.env):PE X (.Attribute e f pos) (by9 X.K ta f):=by
 intro pins s σ H Q I h
 refine cg9 hb (cD (he s σ H _ I h) λu s1 ⟨x,H1,I1,rx,a,C,dx,fs,v,ex,ea,c,n,l,q⟩=>?_)
 subst ex
 obtain rfl:u=Value.ref a:=rx
 exact bv5 I1 ea c n l λu' s2 I2 ru=>⟨v,H1,I2,ru,q⟩
theorem di4(ha:PE X o ta)(hv:PE X value tv)(hs:swapsWith value (some (.Attribute o f pos')) pos.line X.env=pure false):PS X (.Assign [.Attribute o f pos'] value pos) (ch0 X.K ta tv f):=by
 intro pins s σ H D I h
 refine plainObj_wpAny_Assign_Attribute (cD (hv s σ H _ I h) λu s1 ⟨y,H1,I1,ry,q⟩=>cD (ha s1 σ H1 _ I1 q) λov s2 ⟨x,H2,I2,rx,a,C,dx,fs,ex,ea,c,n,l,q2⟩=>?_) hs
 subst ex
 obtain rfl:ov=Value.ref a:=rx
 exact bi5 I2 ea c n l ry λs3 I3=>⟨σ,_,I3,q2⟩
end
section
variable {X : Cx} {pins : List (Addr × Obj)} {σ : St} {H : Hp} {s : Shared} {A : Around} {E : Value → Shared → Prop} {Q : Value → Shared → Prop} {c : Value} {b : Bool}
inductive TyOf (K:PySem.W.Frag) (H:Hp):V->Value->Prop where
 |non:TyOf K H .non (.type "NoneType")
 |bl (x:Bool):TyOf K H (.bl x) (.type "bool")
 |int (i:Int):TyOf K H (.int i) (.type "int")
 |str (x:Str):TyOf K H (.str x) (.type "str")
 |flt (x:UInt64):TyOf K H (.flt x) (.type "float")
 |lst {a:Addr} {xs:List V} (e:H a=some (.lst xs)):TyOf K H (.ref a) (.type "list")
 |frz {a:Addr} {o:Obj} {xs:List V} (e:H a=some (.frz o (.lst xs))):TyOf K H (.ref a) (.type "list")
 |tup {a:Addr} {xs:List V} (e:H a=some (.tup xs)):TyOf K H (.ref a) (.type "tuple")
 |dK {a:Addr} {kvs:List (qC×V)} (e:H a=some (.dK kvs)):TyOf K H (.ref a) (.type "dict")
 |dT {a:Addr} {kvs:List (List qC×V)} (e:H a=some (.dT kvs)):TyOf K H (.ref a) (.type "dict")
 |ins {a C dx:Addr} {fs:List (Str×V)} (e:H a=some (.ins C dx fs)) (cl:Cls K C) (ha:PySem.W.findIn K (.ref C) "__class__"=some (some (.builtin "object.__class__")))
  (hn:PySem.W.specialIn K (.builtin "object.__class__") "__get__"=some (some (.builtin "getset_descriptor.__get__"))) (htk:PySem.W.takesIn K (.builtin "object.__class__")=some true)
  (hm:PySem.W.mroIn K C (.type "object")=some true):TyOf K H (.ref a) (.ref C)
theorem by7(I:Inv X pins σ H s)(rx:RelV x u)(ty:TyOf X.K H x t)(e:PySem.W.kitOne X.K t c=some b)(h:∀tk,Q (.bool b) {s with toks:=tk}):
 wpAny (model X.prog X.w) A (call (.builtin "isinstance") [u,c]) Q E s:=by
 cases ty with
 |non=>cases(show u=Value.none from rx);exact PySem.W.kia_one PySem.W.kitx_none I.kIn True.intro e (λz=>nomatch z) h
 |bl y=>cases(show u=Value.bool y from rx);exact PySem.W.kia_one PySem.W.kitx_bool I.kIn True.intro e (λz=>nomatch z) h
 |int i=>obtain⟨t,q⟩:=(show∃t,u=Value.int i t from rx);cases q;exact PySem.W.kia_one PySem.W.kitx_int I.kIn True.intro e (λz=>nomatch z) h
 |str y=>obtain⟨t,q⟩:=(show∃t,u=Value.str y t from rx);cases q;exact PySem.W.kia_one PySem.W.kitx_str I.kIn True.intro e (λz=>nomatch z) h
 |flt y=>obtain⟨t,q⟩:=(show∃t,u=Value.float y t from rx);cases q;exact PySem.W.kia_one PySem.W.kitx_float I.kIn True.intro e (λz=>nomatch z) h
 |@lst a xs ea=>
  cases(show u=Value.ref a from rx)
  obtain⟨_,_,n,_,h1⟩:=(show ObjOk X.prog X.w H s.heap a (.lst xs) from I.hok a _ ea)
  exact PySem.W.kia_one PySem.W.kitx_list I.kIn ⟨_,h1,rfl⟩ e (λz=>nomatch z) h
 |@frz a ob xs ea=>
  cases(show u=Value.ref a from rx)
  obtain⟨_,_,_,n,_,h1⟩:=(show ObjOk X.prog X.w H s.heap a (.frz ob (.lst xs)) from I.hok a _ ea)
  exact PySem.W.kia_one PySem.W.kitx_list I.kIn ⟨_,h1,rfl⟩ e (λz=>nomatch z) h
 |@tup a xs ea=>
  cases(show u=Value.ref a from rx)
  obtain⟨_,_,_,p⟩:=(show ObjOk X.prog X.w H s.heap a (.tup xs) from I.hok a _ ea)
  obtain⟨o,h1,h2,_⟩:=p
  exact PySem.W.kia_one PySem.W.kitx_tuple I.kIn ⟨o,h1,h2⟩ e (λz=>nomatch z) h
 |@dK a kvs ea=>
  cases(show u=Value.ref a from rx)
  obtain⟨_,_,vs,_,p⟩:=(show ObjOk X.prog X.w H s.heap a (.dK kvs) from I.hok a _ ea)
  obtain⟨o,es,ep,h1,h2,_⟩:=p
  exact PySem.W.kia_one PySem.W.kitx_dict I.kIn ⟨o,h1,h2.1⟩ e (λz=>nomatch z) h
 |@dT a kvs ea=>
  cases(show u=Value.ref a from rx)
  obtain⟨_,_,xs,_,o,es,ep,h1,h2,_⟩:=(show ObjOk X.prog X.w H s.heap a (.dT kvs) from I.hok a _ ea)
  exact PySem.W.kia_one PySem.W.kitx_dict I.kIn ⟨o,h1,h2.1⟩ e (λz=>nomatch z) h
 |@ins a C dx fs ea cl ha hn htk hm=>
  cases(show u=Value.ref a from rx)
  obtain⟨mA,O,_⟩:=zI I.hok ea
  obtain⟨od,J,_⟩:=O.look
  exact PySem.W.kia_one (PySem.W.kitx_own (cl.get _) cl.hd ha hn htk hm) I.kIn J e (λz=>nomatch z) h
end
end L2
namespace L2
open PySem PySem.Spec PyProof.Rows
structure Room (k:Nat) (A:Around):Prop where
 hd:A.handled=none
 dp:A.depth+3*k+5<recursionLimit
 un:A.units+16*k+200<cLine
theorem Room.mono(r:Room k A)(h:j<=k):Room j A:=⟨r.hd,by have:=r.dp;omega,by have:=r.un;omega⟩
theorem Room.deeper(r:Room (k+1) A)(env:Env):Room k (A.deeper env):=
 ⟨r.hd,by have:=r.dp;show A.depth+1+3*k+5<_;omega,by have:=r.un;show A.units+3+16*k+200<_;omega⟩
theorem bz4{A:Around}{C:Addr}{us:List Value}{kw:List (Str×Value)}:(A.under (.builtin "type.__call__" ⟨.ref C::us,kw⟩)).depth=A.depth+1:=by
 first|rfl|simp[Around.under,Code.weight,Code.isCreation,Code.isGuard,Code.isCaller,Code.frames,Code.isFrame,guardIds]
theorem bt4{A:Around}{C:Addr}{us:List Value}{kw:List (Str×Value)}:(A.under (.builtin "type.__call__" ⟨.ref C::us,kw⟩)).units=A.units+1:=by
 first|rfl|simp[Around.under,Code.cUnits,Code.frames,Code.isFrame]
theorem Room.make(r:Room (k+1) A)(C:Addr)(us:List Value)(kw:List (Str×Value)):Room k (A.under (.builtin "type.__call__" ⟨.ref C::us,kw⟩)):=
 ⟨r.hd,by have:=r.dp;rw[bz4];omega,by have:=r.un;rw[bt4];omega⟩
theorem Room.depth(r:Room k A):A.depth<recursionLimit:=by have:=r.dp;omega
theorem Room.units(r:Room k A):A.units+64<cLine:=by have:=r.un;omega
def ap0:TA:=λ_ H Q=>Q [] H
def tV(ta:TE)(tr:TA):TA:=λσ H Q=>ta σ H λx H1=>tr σ H1 λxs H2=>Q (x::xs) H2
section
variable {X : Cx} {e : Expr} {es : List Expr} {te : TE} {t : TA} {pos : Pos}
theorem vC:PA X [] ap0:=λ_ _ _ _ H Q I h=>Calls.spliced_nil ⟨[],H,I,.nil,h⟩
theorem aG(ha:PE X e te)(hr:PA X es t)(hs:starEach (e::es) X.env=(false,eval e X.env)::starEach es X.env:=by rfl):PA X (e::es) (tV te t):=by
 intro pos pins s σ H Q I h
 rw[hs]
 show wpAny _ _ (spliced ((false,eval e X.env)::backTo pos (starEach es X.env))) _ _ s
 refine Calls.spliced_cons (cD (ha s σ H _ I h) λu s1 ⟨x,H1,I1,r1,q1⟩=>?_)
 exact cD (hr pins s1 σ H1 _ I1 q1) λus s2 ⟨xs,H2,I2,r2,q2⟩=>⟨x::xs,H2,I2,.cons r1 r2,q2⟩
def dk0(t:TA):TE:=λσ H Q=>t σ H λxs H1=>xs.length<=sizeLine/\∀p,H1 p=none->Q (.ref p) (upd H1 p (.tup xs))
def di2(t:TA):TE:=λσ H Q=>t σ H λxs H1=>xs.length<=sizeLine/\∀p,H1 p=none->Q (.ref p) (upd H1 p (.lst xs))
theorem kN{x1}(h:PA X es t):PE X (.Tuple es x1 pos) (dk0 t):=by
 intro pins s σ H Q I hq
 refine wpAny_Tuple_spliced (cD (h pins s σ H _ I hq) λus s1 ⟨xs,H1,I1,r,z,q⟩=>⟨by rw[<-r.length];exact z,?_⟩)
 have hf:H1 s1.heap.objs.size=none:=I1.hok.fresh (Nat.le_refl _)
 refine⟨.ref s1.heap.objs.size,upd H1 s1.heap.objs.size (.tup xs),I1.laid (t':=s1.toks) (λb u e=>Heap.get?_push_of_some _ e) (Nat.le_refl _) ?_,rfl,q _ hf⟩
 exact⟨z,us,r,⟨_,Heap.get?_push_size _ rfl,rfl,_,rfl⟩⟩
theorem cI(h:PA X es t):PE X (.List es pos) (di2 t):=by
 intro pins s σ H Q I hq
 refine wpAny_List_spliced (cD (h pins s σ H _ I hq) λus s1 ⟨xs,H1,I1,r,z,q⟩=>⟨by rw[<-r.length];exact z,?_⟩)
 have hf:H1 s1.heap.objs.size=none:=I1.hok.fresh (Nat.le_refl _)
 refine⟨.ref s1.heap.objs.size,upd H1 s1.heap.objs.size (.lst xs),I1.laid (t':=s1.toks) (λb u e=>Heap.get?_push_of_some _ e) (Nat.le_refl _) ?_,rfl,q _ hf⟩
 exact⟨z,us,0,r,Heap.get?_push_size _ rfl⟩
end
abbrev Sp:=List V->Hp->VK->XK->Prop
abbrev wY:=List Env->Hp->Shared->XK->Value->Shared->Prop
structure Env0 (P:Program) (w:World) (K:PySem.W.Frag) (mg:Str->Option Value) (base:Heap) (A:Around) (outer:List Env) (s:Shared) (H:Hp):Prop where
 frames:A.frames=some outer
 mod:Mod K mg base
 bs:∀b o,base.get? b=some o->s.heap.get? b=some o/\H b=none
 bsz:base.objs.size<=s.heap.objs.size
 funs:s.heap.FunFrames base outer
 frf:∀b∈vD outer,H b=none
 hok:HOk P w H s.heap
 bare:AllBare s.gens
def CE(outer:List Env)(P:Program)(w:World)(H:Hp)(s:Shared)(Q:VK)(u:Value)(s':Shared):Prop:=
 ∃v H',s'.os=s.os/\AllBare s'.gens/\Un (vD outer) [] H H' s.heap s'.heap/\HOk P w H' s'.heap/\RelV v u/\Q v H'
def CR(CX:wY)(outer:List Env)(P:Program)(w:World)(H:Hp)(s:Shared)(Q:VK)(E:XK)(r:Result)(s':Shared):Prop:=
 match r with
 |.ok (.ret u)=>CE outer P w H s Q u s'
 |.ok _=>False
 |.error e=>CX outer H s E e s'
structure FnOk (P:Program) (w:World) (K:PySem.W.Frag) (mg:Str->Option Value) (base:Heap) (CX:wY) (k:Nat) (f:Addr) (fd:FuncData) (ps:List Str) (sp:Sp):Prop where
 len:∀vs H Q E,sp vs H Q E->vs.length=ps.length
 run:∀(A:Around)(outer:List Env)(s:Shared)(H:Hp)(args:Args)(us:List Value)(vs:List V)(Q:VK)(E:XK),Room k A->Env0 P w K mg base A outer s H->BindsTo s fd args (ps.zip us)->Vals vs us->sp vs H Q E->
  codeAny (model P w) A (.call (.ref f) args) (CR CX outer P w H s Q E) s
theorem FnOk.mono{P:Program}{w:World}{K:PySem.W.Frag}{mg:Str->Option Value}{base:Heap}{CX:wY}{j k:Nat}{f:Addr}{fd:FuncData}{ps:List Str}{sp:Sp}(F:FnOk P w K mg base CX j f fd ps sp)(h:j<=k):
 FnOk P w K mg base CX k f fd ps sp:=⟨F.len,λA outer s H args us vs Q E hr=>F.run A outer s H args us vs Q E (hr.mono h)⟩
theorem FnOk.imp{P:Program}{w:World}{K:PySem.W.Frag}{mg:Str->Option Value}{base:Heap}{CX:wY}{k:Nat}{f:Addr}{fd:FuncData}{ps:List Str}{sp sp':Sp}(F:FnOk P w K mg base CX k f fd ps sp)
 (h:∀vs H Q E,sp' vs H Q E->sp vs H Q E):FnOk P w K mg base CX k f fd ps sp':=
 ⟨λvs H Q E q=>F.len vs H Q E (h _ _ _ _ q),λA outer s H args us vs Q E hr he hb hv hs=>F.run A outer s H args us vs Q E hr he hb hv (h _ _ _ _ hs)⟩
theorem Env0.make {P : Program} {w : World} {K : PySem.W.Frag} {mg : Str → Option Value} {base : Heap} {A : Around} {outer : List Env} {s : Shared} {H : Hp} (e : Env0 P w K mg base A outer s H) (C : Addr) (us : List Value) (kw : List (Str × Value)) :
    Env0 P w K mg base (A.under (.builtin "type.__call__" ⟨.ref C :: us, kw⟩)) outer s H := ⟨by first | exact e.frames | (simpa [Around.under, Code.envs, Code.isFrame, pushEnvs] using e.frames), e.mod, e.bs, e.bsz, e.funs, e.frf, e.hok, e.bare⟩
section
variable {X : Cx} {pins : List (Addr × Obj)} {σ : St} {H : Hp} {s s' : Shared}
theorem Inv.env0(I:Inv X pins σ H s):Env0 X.prog X.w X.K X.mg X.base X.A X.stack s H:=
 ⟨I.ok.frames,I.ok.mod,I.bs,Nat.le_trans I.ok.bsz I.sz,I.stack,I.stkFree,I.hok,I.bare⟩
theorem Inv.after(I:Inv X pins σ H s)(h:CE X.stack X.prog X.w H s Q u s'):EP X pins σ Q u s':=by
 obtain⟨v,H',os,bare,un,hok,r,q⟩:=h
 obtain⟨hh,g,d,t,os'⟩:=s'
 obtain rfl:os'=s.os:=os
 exact⟨v,H',I.call (h':=hh) (g':=g) (d':=d) (t':=t) (ch:=[]) un hok bare (λb z=>absurd z (by simp)),r,q⟩
end
def dk5(sp:Sp)(dvs:List V)(E:XK)(t:TA):TE:=λσ H Q=>t σ H λvs H1=>sp (vs++dvs) H1 Q E
def bs4(C:Addr)(sp:Sp)(dvs:List V)(E:XK)(t:TA):TE:=λσ H Q=>t σ H λvs H1=>∀x dx,H1 x=none->H1 dx=none->dx≠x->
 sp (.ref x::(vs++dvs)) (upd (upd H1 dx (.own x)) x (.ins C dx [])) (λv H2=>v=.non/\Q (.ref x) H2) E
def Binds(K:PySem.W.Frag)(fd:FuncData)(ps:List Str)(ds:List Value):Prop:=
 ∀(s:Shared)(us:List Value),K.In s.heap->(us++ds).length=ps.length->BindsTo s fd ⟨us,[]⟩ (ps.zip (us++ds))
theorem Binds.all{K:PySem.W.Frag}{fd:FuncData}{ps:List Str}(h:∀us:List Value,us.length=ps.length->bindArgs fd ⟨us,[]⟩=pure (ps.zip us)):Binds K fd ps []:=λs us _ hl=>by
 rw[List.append_nil]at hl⊢
 exact .of_eq (h us hl)
def yA(CX:wY)(X:Cx)(E:XK):Prop:=∀(pins:List (Addr×Obj))(σ:St)(H:Hp)(s:Shared)(e:Value)(s':Shared),Inv X pins σ H s->CX X.stack H s E e s'->X.xe e s'
section
variable {X : Cx} {CX : wY} {k : Nat} {f C : Addr} {fd : FuncData} {ps : List Str} {sp : Sp} {dvs : List V} {ds : List Value} {E : XK} {x m : Str} {p pos apos : Pos} {e o : Expr} {es : List Expr} {ta : TE} {t : TA}
theorem ae2(F:FnOk X.prog X.w X.K X.mg X.base CX k f fd ps sp)(hr:Room k X.A)(hb:Binds X.K fd ps ds)(hd:Vals dvs ds)(hx:yA CX X E)
 (I:Inv X pins σ H s)(r:Vals vs us)(h:sp (vs++dvs) H Q E):wpAny (model X.prog X.w) X.A (call (.ref f) us) (EP X pins σ Q) X.xe s:=by
 have r2:Vals (vs++dvs) (us++ds):=r.append hd
 have hl:(us++ds).length=ps.length:=by rw[<-r2.length];exact F.len _ _ _ _ h
 refine wpAny_call (codeAny_mono (F.run X.A X.stack s H ⟨us,[]⟩ (us++ds) (vs++dvs) Q E hr I.env0 (hb s us I.kIn hl) r2 h) λr s' hq=>?_)
 cases r with
 |error e=>exact hx pins σ H s e s' I hq
 |ok fl=>
  cases fl with
  |ret u=>exact I.after hq
  |next=>exact False.elim hq
  |brk=>exact False.elim hq
  |cont=>exact False.elim hq
theorem cz6(F:FnOk X.prog X.w X.K X.mg X.base CX k f fd ps sp)(hr:Room k X.A)(hg:Gl X x)(hm:X.mg x=some (.ref f))(hk:PySem.W.keepIn X.K (.ref f)=true)(hb:Binds X.K fd ps ds)(hd:Vals dvs ds)(hx:yA CX X E)
 (ha:PA X (e::es) t)(hdb:(x==("__debug__":Str))=false:=by decide)(he:starEach (e::es) X.env=(false,eval e X.env)::starEach es X.env:=by rfl)(hpl:(backTo pos (starEach es X.env)).any (·.1)=false:=by rfl):
 PE X (.Call (.Name x p) (e::es) [] pos) (dk5 sp dvs E t):=by
 intro pins s σ H Q I h
 refine wpAny_Call_Name_kw (uW I hg hm ?_ hdb)
 refine PySem.W.callWith_K (h₀:=X.base) I.ok.mod.kin hk (cD (ha pins s σ H _ I h) λus s1 ⟨vs,H1,I1,r,q⟩=>⟨I1.kIn,?_⟩) he hpl
 exact ae2 F hr hb hd hx I1 r q
structure Mk (K:PySem.W.Frag) (C f:Addr):Prop where
 makes:PySem.W.makesIn K C=true
 init:PySem.W.findIn K (.ref C) "__init__"=some (some (.ref f))
 fn:PySem.W.isFn K (.ref f)=true
 kp:PySem.W.keepIn K (.ref C)=true
theorem cu0(M:Mk X.K C f)(F:FnOk X.prog X.w X.K X.mg X.base CX k f fd ps sp)(hr:Room (k+1) X.A)(hb:Binds X.K fd ps ds)(hd:Vals dvs ds)
 (hx:yA CX X E)(I:Inv X pins σ H s)(r:Vals vs us)
 (h:∀x dx,H x=none->H dx=none->dx≠x->sp (.ref x::(vs++dvs)) (upd (upd H dx (.own x)) x (.ins C dx [])) (λv H2=>v=.non/\Q (.ref x) H2) E):
 wpAny (model X.prog X.w) X.A (call (.ref C) us) (EP X pins σ Q) X.xe s:=by
 have hq:=h (s.heap.objs.size+1) s.heap.objs.size (I.hok.fresh (Nat.le_succ _)) (I.hok.fresh (Nat.le_refl _)) (Nat.ne_of_lt (Nat.lt_succ_self _))
 have I2:=Inv.made (C:=C) I
 have r2:Vals (V.ref (s.heap.objs.size+1)::(vs++dvs)) (Value.ref (s.heap.objs.size+1)::(us++ds)):=.cons rfl (r.append hd)
 have hl:(Value.ref (s.heap.objs.size+1)::us++ds).length=ps.length:=by
  have e:=r2.length
  rw[F.len _ _ _ _ hq]at e
  exact e.symm
 refine wpAny_call (ck1 (f:=f) I.kIn M.makes M.init (beq_iff_eq.mp M.fn) (codeAny_mono (F.run _ X.stack _ _ ⟨Value.ref (s.heap.objs.size+1)::us,[]⟩ (Value.ref (s.heap.objs.size+1)::(us++ds)) _ _ E (hr.make C us [])
  (I2.env0.make C us []) (hb _ (Value.ref (s.heap.objs.size+1)::us) I2.kIn hl) r2 hq) λr s' hq'=>?_))
 cases r with
 |error e=>exact hx pins σ _ _ e s' I2 hq'
 |ok fl=>
  cases fl with
  |ret u=>
   obtain⟨v,H',I3,rv,ev,q3⟩:=I2.after hq'
   subst ev
   exact⟨rv,⟨V.ref (s.heap.objs.size+1),H',I3,rfl,q3⟩⟩
  |next=>exact False.elim hq'
  |brk=>exact False.elim hq'
  |cont=>exact False.elim hq'
theorem cu8(M:Mk X.K C f)(F:FnOk X.prog X.w X.K X.mg X.base CX k f fd ps sp)(hr:Room (k+1) X.A)(hg:Gl X x)(hm:X.mg x=some (.ref C))(hb:Binds X.K fd ps ds)(hd:Vals dvs ds)(hx:yA CX X E)
 (ha:PA X (e::es) t)(hdb:(x==("__debug__":Str))=false:=by decide)(he:starEach (e::es) X.env=(false,eval e X.env)::starEach es X.env:=by rfl)(hpl:(backTo pos (starEach es X.env)).any (·.1)=false:=by rfl):
 PE X (.Call (.Name x p) (e::es) [] pos) (bs4 C sp dvs E t):=by
 intro pins s σ H Q I h
 refine wpAny_Call_Name_kw (uW I hg hm ?_ hdb)
 refine PySem.W.callWith_K (h₀:=X.base) I.ok.mod.kin M.kp (cD (ha pins s σ H _ I h) λus s1 ⟨vs,H1,I1,r,q⟩=>⟨I1.kIn,?_⟩) he hpl
 exact cu0 M F hr hb hd hx I1 r q
end
section
variable {X : Cx} {CX : wY} {k : Nat} {f C : Addr} {fd : FuncData} {ps ks : List Str} {sp : Sp} {E : XK} {x m : Str} {p pos apos kpos : Pos} {e o : Expr} {es : List Expr} {kws : List Keyword} {te ta : TE} {t tk : TA} {nm : Option Str}
variable {g : List Value → List Value → List Value} {gV : List V → List V → List V}
end
structure bF (N P:List Str) (sc:Scope):Prop where
 kind:sc.kind=.function
 co:sc.isCoroutine=false
 gen:sc.isGenerator=false
 nd:N.Nodup
 pre:N.take P.length=P
 par:∀x∈P,sc.names.lookup x=some .local\/sc.names.lookup x=some .cell
 nofree:∀y∈sc.names,y.2≠ .free
theorem am6 {kindOf : Str → Option NameKind} {x : Str} : ∀ {binds : List (Str × Value)} {m : Str → Option Value}, (∀ v, (x, v) ∉ binds) → bindL kindOf binds m x = m x
  | [], _, _ => rfl
  | (n, v) :: r, m, h => by
    unfold bindL
    rw [am6 fun w hw => h w (List.mem_cons_of_mem _ hw)]
    split
    · have : x ≠ n := by rintro rfl; exact h v List.mem_cons_self
      simp [this]
    · rfl
theorem ai7 {kindOf : Str → Option NameKind} {x : Str} : ∀ {binds : List (Str × Value)} {m : Str → Option Value}, (∀ v, (x, v) ∉ binds) → bindC kindOf binds m x = m x
  | [], _, _ => rfl
  | (n, v) :: r, m, h => by
    unfold bindC
    rw [ai7 fun w hw => h w (List.mem_cons_of_mem _ hw)]
    split
    · rfl
    · have : x ≠ n := by rintro rfl; exact h v List.mem_cons_self
      simp [this]
theorem ak6{kindOf:Str->Option NameKind}{x:Str}{v:Value}:∀{P:List Str}{vs:List Value}{i:Nat}{m:Str->Option Value},P.Nodup->P[i]?=some x->vs[i]?=some v->kindOf x=some .local->
 bindL kindOf (P.zip vs) m x=some v
 |[],_,_,_,_,h,_,_=>by simp at h
 |_::_,[],_,_,_,_,h,_=>by simp at h
 |p::P,w::vs,0,m,nd,h1,h2,hk=>by
  simp at h1 h2;subst h1;subst h2
  show bindL kindOf ((p,w)::P.zip vs) m p=_
  unfold bindL
  rw[am6 λv hv=>(List.nodup_cons.mp nd).1 (List.of_mem_zip hv).1,if_pos hk]
  simp
 |p::P,w::vs,i+1,m,nd,h1,h2,hk=>by
  show bindL kindOf ((p,w)::P.zip vs) m x=_
  unfold bindL
  exact ak6 (i:=i) (List.nodup_cons.mp nd).2 (by simpa using h1) (by simpa using h2) hk
theorem aj6{kindOf:Str->Option NameKind}{x:Str}{v:Value}:∀{P:List Str}{vs:List Value}{i:Nat}{m:Str->Option Value},P.Nodup->P[i]?=some x->vs[i]?=some v->kindOf x≠some .local->
 bindC kindOf (P.zip vs) m x=some v
 |[],_,_,_,_,h,_,_=>by simp at h
 |_::_,[],_,_,_,_,h,_=>by simp at h
 |p::P,w::vs,0,m,nd,h1,h2,hk=>by
  simp at h1 h2;subst h1;subst h2
  show bindC kindOf ((p,w)::P.zip vs) m p=_
  unfold bindC
  rw[ai7 λv hv=>(List.nodup_cons.mp nd).1 (List.of_mem_zip hv).1,if_neg hk]
  simp
 |p::P,w::vs,i+1,m,nd,h1,h2,hk=>by
  show bindC kindOf ((p,w)::P.zip vs) m x=_
  unfold bindC
  exact aj6 (i:=i) (List.nodup_cons.mp nd).2 (by simpa using h1) (by simpa using h2) hk
def kE(N:List Str)(vs:List V):St:=vs.map some++List.replicate (N.length-vs.length) none
def mS(CX:wY)(P:Program)(w:World)(K:PySem.W.Frag)(mg:Str->Option Value)(base:Heap)(N:List Str)(qual:Str)(scope:Scope)(f:Addr)(cd:Value)(A:Around)(outer:List Env)(s:Shared)(H:Hp)(E:XK):Cx where
 prog:=P
 w:=w
 K:=K
 mg:=mg
 base:=base
 A:=A.deeper (envOfC qual scope s.heap.objs.size f cd)
 N:=N
 s₀:=s
 H₀:=H
 env:=envOfC qual scope s.heap.objs.size f cd
 outer:=outer
 stack:=envOfC qual scope s.heap.objs.size f cd::outer
 ex:=[]
 calm:=true
 fn:=λ_=>true
 pn:=[]
 xe:=λe s'=>wpAny (model P w) (A.deeper (envOfC qual scope s.heap.objs.size f cd)) (leaving (envOfC qual scope s.heap.objs.size f cd) e) (λ_ s''=>CX outer H s E e s'') (λe' s''=>CX outer H s E e' s'') s'
theorem be0{sc:Scope}{n:Nat}{x:Str}(h:sc.names.lookup x=some .cell):∃c,(cellsFrom n sc.names []).lookup x=some c:=by
 have q:=PySem.W.cellsFrom_some sc.names n [] (.inl h)
 exact Option.isSome_iff_exists.mp q
theorem bi7{CX:wY}{P:Program}{w:World}{K:PySem.W.Frag}{mg:Str->Option Value}{base:Heap}{N ps:List Str}{qual:Str}{scope:Scope}{f:Addr}{cd:Value}{A:Around}{outer:List Env}{s s1:Shared}{H:Hp}{E:XK}{us:List Value}{vs:List V}
 (S:bF N ps scope)(hd:A.handled=none)(e0:Env0 P w K mg base A outer s H)(hl:vs.length=ps.length)(r:Vals vs us)
 (x:InCallC s s.heap.objs.size (bindL (envOfC qual scope s.heap.objs.size f cd).kindOf (ps.zip us) λ_=>none) (cellsFrom (s.heap.objs.size+1) scope.names []) (bindC (envOfC qual scope s.heap.objs.size f cd).kindOf (ps.zip us) λ_=>none) s1):
 Inv (mS CX P w K mg base N qual scope f cd A outer s H E) [] (kE N vs) H s1:=by
 have hpl:ps.length<=N.length:=by have:=congrArg List.length S.pre;rw[List.length_take]at this;omega
 obtain⟨h1,tk,rfl,hk⟩:=x.done
 have noA:∀b:Addr,b∉(mS CX P w K mg base N qual scope f cd A outer s H E).ex:=λb z=>absurd (show b∈([]:List Addr) from z) (by simp)
 refine⟨⟨e0.mod,S.kind,rfl,rfl,Nat.le_refl _,λy z c h1 h2=>?_,λy hy=>?_,λy c _ h=>?_,λ_=>hd,Around.frames_deeper e0.frames,.inr ⟨rfl,rfl⟩,λb z=>absurd z (noA b),e0.bs,e0.bsz,λb _ _=>noA b,λb z=>absurd z (noA b),e0.funs,e0.frf⟩,
  rfl,e0.bare,Un.kept hk,⟨_,x.toInCall.ns,λi y v h1 h2 h3=>?_⟩,λy c h=>⟨_,x.cell y c h⟩,e0.hok.fresh (Nat.le_refl _),λy c h=>?_,λp hp=>absurd (show p∈([]:List (Addr×Obj)) from hp) (by simp),e0.hok.kept hk,?_⟩
 . exact name_of_addr x.apart (PySem.mem_of_lookup h1) (PySem.mem_of_lookup h2)
 . have hy:scope.names.lookup y=some .cell\/scope.names.lookup y=some .free:=hy
   rcases hy with hy|hy
   . exact be0 hy
   . exact absurd rfl (S.nofree _ (PySem.mem_of_lookup hy))
 . exact Nat.le_of_lt (x.above y c (PySem.mem_of_lookup h))
 . have hi:i<vs.length:=by
    unfold kE at h2
    by_cases hi:i<vs.length
    . exact hi
    . rw[List.getElem?_append_right (by simpa using hi)]at h2
      rw[List.getElem?_replicate]at h2
      split at h2<;>cases h2
   have ha:vs[i]?=some v:=by
    unfold kE at h2
    rw[List.getElem?_append_left (by simpa using hi),List.getElem?_map]at h2
    cases e:vs[i]? with
    |none=>rw[e]at h2;cases h2
    |some a=>rw[e]at h2;cases h2;rfl
   obtain⟨u,hu,rv⟩:=r.get ha
   have hp:ps[i]?=some y:=by
    rw[<-S.pre,List.getElem?_take_of_lt (by omega)];exact h1
   have ndP:ps.Nodup:=by rw[<-S.pre];exact S.nd.sublist (List.take_sublist _ _)
   refine⟨u,rv,?_⟩
   rcases S.par y (List.mem_of_getElem? hp)with k|k
   . exact .inl ⟨k,ak6 ndP hp hu k⟩
   . obtain⟨c,e⟩:=be0 (n:=s.heap.objs.size+1) k
     refine .inr ⟨.inl k,c,e,?_⟩
     have q:=x.cell y c e
     rw[aj6 ndP hp hu (by show scope.names.lookup y≠_;rw[k];decide)]at q
     exact q
 . exact e0.hok.fresh (Nat.le_of_lt (x.above y c (PySem.mem_of_lookup h)))
 . unfold kE
   show _=N.length
   rw[List.length_append,List.length_map,List.length_replicate]
   omega
theorem db8{CX:wY}{P:Program}{w:World}{K:PySem.W.Frag}{mg:Str->Option Value}{base:Heap}{k:Nat}{f:Addr}{name qual:Str}{params:Arguments}{body:List Stmt}{scope:Scope}{dV kV doc pm cdv ct oc:Value}{an od:Option Addr}
 {osl:Array (Option Value)}{N ps:List Str}{sp:Sp}(lk:K.lookup f=some ⟨oc,od,.func (PySem.W.fnOf name qual params body scope dV kV doc pm an cdv ct),osl⟩)(hcd:PySem.W.codeIn K cdv qual=true)(S:bF N ps scope)
 (len:∀vs H Q E,sp vs H Q E->vs.length=ps.length)
 (hbody:∀(A:Around)(outer:List Env)(s:Shared)(H:Hp)(vs:List V)(Q:VK)(E:XK),Room k (A.deeper (envOfC qual scope s.heap.objs.size f cdv))->sp vs H Q E->
  ∃t,PSs (mS CX P w K mg base N qual scope f cdv A outer s H E) body t/\t {nx:=λ_ H'=>Q .non H',rt:=Q} (kE N vs) H):
 FnOk P w K mg base CX (k+1) f (PySem.W.fnOf name qual params body scope dV kV doc pm an cdv ct) ps sp:=by
 refine⟨len,λA outer s H args us vs Q E hr e0 hb r hsp=>?_⟩
 have hl:=len _ _ _ _ hsp
 have KX:K.In s.heap:=e0.mod.kin.keeps λb o e=>(e0.bs b o e).1
 have lim:s.heap.NoLimit:=e0.mod.nolimit.keeps λb o e=>(e0.bs b o e).1
 have hkind:∀y∈ps.zip us,scope.names.lookup y.1=some .local\/(scope.names.lookup y.1=some .cell/\((cellsFrom (s.heap.objs.size+1) scope.names []).lookup y.1).isSome=true):=λ⟨n,v⟩ hy=>by
  rcases S.par n (List.of_mem_zip hy).1 with q|q
  . exact .inl q
  . exact .inr ⟨q,PySem.W.cellsFrom_some _ _ _ (.inl q)⟩
 refine codeAny_call_function hr.depth (KX _ _ lk) rfl S.co S.gen rfl (PySem.W.codeRec_of KX hcd) (hb _ _ _ _ ?_)
 refine wpAny_newFunctionEnv_cells S.kind hkind λenv he s1 x=>?_
 subst he
 refine⟨lim.keeps x.toInCall.keep,codeAny_func ?_⟩
 obtain⟨t,ht,hq⟩:=hbody A outer s H vs Q E (hr.deeper _) hsp
 have I:Inv (mS CX P w K mg base N qual scope f cdv A outer s H E) [] (kE N vs) H s1:=bi7 S hr.hd e0 hl r x
 refine wpAny_mono (ht s1 (kE N vs) H _ I hq) (λfl s' hs=>?_) λe s' hs=>hs
 have bU:∀{σ':St}{H':Hp}{v:V}{u:Value},Inv (mS CX P w K mg base N qual scope f cdv A outer s H E) [] σ' H' s'->RelV v u->Q v H'->CE outer P w H s Q u s':=
  λ{σ' H' v u} J rv q=>⟨v,H',J.os,J.bare,J.base,J.hok,rv,q⟩
 cases fl with
 |ret u=>
  obtain⟨v,σ',H',J,rv,q⟩:=hs
  exact bU J rv q
 |next=>
  obtain⟨σ',H',J,q⟩:=hs
  exact bU (v:=V.non) (u:=Value.none) J rfl q
 |brk=>
  obtain⟨_,_,_,q⟩:=hs
  exact False.elim q
 |cont=>
  obtain⟨_,_,_,q⟩:=hs
  exact False.elim q
end L2
namespace L2
open PySem PySem.Spec PyProof.Rows
section
variable {X : Cx} {x : Str} {p pos : Pos} {e : Expr} {es : List Expr} {t : TA} {id T : String} {r : List V → Hp → VK → Prop}
def tCB(r:List V->Hp->VK->Prop)(t:TA):TE:=λσ H Q=>t σ H λvs H1=>r vs H1 Q
theorem aU(hc:CallR X (.builtin id) r)(hg:Gl X x)(hm:X.mg x=none)(hv:bootBuiltins x=some (.builtin id))(ha:PA X (e::es) t)(hn:x≠"__name__":=by decide)(hdb:(x==("__debug__":Str))=false:=by decide)
 (he:starEach (e::es) X.env=(false,eval e X.env)::starEach es X.env:=by rfl)(hpl:(backTo pos (starEach es X.env)).any (·.1)=false:=by rfl):PE X (.Call (.Name x p) (e::es) [] pos) (tCB r t):=by
 intro pins s σ H Q I h
 refine wpAny_Call_Name_kw (rH I hg hm hv ?_ hn hdb)
 exact PyProof.Rows.callWith_builtin1 (cD (ha pins s σ H _ I h) λus s1 ⟨vs,H1,I1,r1,q1⟩=>hc s1 σ H1 vs us Q I1 r1 q1) he hpl
theorem iP(hc:CallR X (.type T) r)(hg:Gl X x)(hm:X.mg x=none)(hv:bootBuiltins x=some (.type T))(ha:PA X (e::es) t)(hn:x≠"__name__":=by decide)(hdb:(x==("__debug__":Str))=false:=by decide)
 (he:starEach (e::es) X.env=(false,eval e X.env)::starEach es X.env:=by rfl)(hpl:(backTo pos (starEach es X.env)).any (·.1)=false:=by rfl):PE X (.Call (.Name x p) (e::es) [] pos) (tCB r t):=by
 intro pins s σ H Q I h
 refine wpAny_Call_Name_kw (rH I hg hm hv ?_ hn hdb)
 exact PyProof.Rows.callWith_type1 (cD (ha pins s σ H _ I h) λus s1 ⟨vs,H1,I1,r1,q1⟩=>hc s1 σ H1 vs us Q I1 r1 q1) he hpl
end
end L2
namespace HT
open PySem PyProof.Rows
section
open PySem.SeqAt
open PySem.AutoSeq1 (wpAny_loadPart')
open PySem.MeetsSeq PySem.MeetsSeq2 PySem.MeetsSeq3
end
section
variable {prog : Program} {w : World} {A : Around} {E : Value → Shared → Prop} {s : Shared}
theorem cat_tup(ht:IsTup s.heap t vs.toArray)(hb:IsTup s.heap b ws.toArray)(hv:vs≠[])
 (h1:ws=[]->Q (.ref t) s)(h2:ws≠[]->Q (.ref s.heap.objs.size) {s with heap:=s.heap.push {cls:=.type "tuple",data:=.seq (vs++ws).toArray}})
 (hsz:vs.length+ws.length<=sizeLine):wpAny (model prog w) A (binaryOp .Add (.ref t) (.ref b)) Q E s:=by
 obtain⟨⟨cls,dd,data,sl⟩,ho,hc,n,hd⟩:=id ht
 obtain⟨⟨cls2,dd2,data2,sl2⟩,ho2,hc2,n2,hd2⟩:=id hb
 simp only at hc hd hc2 hd2
 subst hc hd hc2 hd2
 have e:vs.toArray++ws.toArray=(vs++ws).toArray:=by simp
 by_cases hw:ws=[]
 . exact concat_meets ⟨_,ho,rfl⟩ ⟨_,ho2,rfl⟩ noFill_tuple_add seq_tuple_add PySem.F.slot_tuple_add PySem.F.entry_tuple_add (PySem.F.args_tuple_add_2 _ _)
    (tuple_addW1 t b vs.toArray ws.toArray n n2 dd dd2 sl sl2 (by simpa using hv) (by simp[hw])) ⟨ho,ho2,h1 hw⟩
 . refine concat_meets ⟨_,ho,rfl⟩ ⟨_,ho2,rfl⟩ noFill_tuple_add seq_tuple_add PySem.F.slot_tuple_add PySem.F.entry_tuple_add (PySem.F.args_tuple_add_2 _ _)
    (tuple_addW2 t b vs.toArray ws.toArray n n2 dd dd2 sl sl2 (by simpa using hv) (by simpa using hw) (by rw[List.size_toArray,List.size_toArray];exact hsz)) ⟨ho,ho2,?_⟩
   rw[e]
   exact h2 hw
def sIx(n d:Nat):Option Int->Nat
 |none=>d
 |some v=>if v<0 then(v+(n:Int)).toNat else min v.toNat n
theorem sIx_nat(n d k:Nat):sIx n d (some (k:Int))=min k n:=by
 show(if(k:Int)<0 then((k:Int)+(n:Int)).toNat else min (k:Int).toNat n)=min k n
 rw[if_neg (by omega),Int.toNat_natCast]
theorem sIx_le(n d:Nat)(hd:d<=n)(o:Option Int):sIx n d o<=n:=by
 cases o with
 |none=>exact hd
 |some v=>
  show(if v<0 then(v+(n:Int)).toNat else min v.toNat n)<=n
  by_cases hv:v<0
  . rw[if_pos hv];omega
  . rw[if_neg hv];exact Nat.min_le_right _ _
theorem clip_eq(v:Int)(n d:Nat):(if v<0 then max (v+(n:Int)) 0 else min v (n:Int))=((sIx n d (some v):Nat):Int):=by
 show(if v<0 then max (v+(n:Int)) 0 else min v (n:Int))=(((if v<0 then(v+(n:Int)).toNat else min v.toNat n):Nat):Int)
 by_cases hv:v<0
 . simp only[if_pos hv];omega
 . simp only[if_neg hv];omega
theorem adjust_gen(lo hi:Option Int)(n:Nat):Builtin.Slice.sliceAdjust lo hi 1 (n:Int)=(((sIx n 0 lo:Nat):Int),((sIx n n hi:Nat):Int)):=by
 have h1:¬((1:Int)<0):=by omega
 unfold Builtin.Slice.sliceAdjust
 simp only[h1,if_false]
 refine Prod.ext ?_ ?_
 . cases lo with
   |none=>rfl
   |some v=>exact clip_eq v n 0
 . cases hi with
   |none=>rfl
   |some v=>exact clip_eq v n n
theorem places_gen(i j:Nat):Builtin.Slice.slicePlaces (i:Int) (j:Int) 1=j-i:=by
 unfold Builtin.Slice.slicePlaces
 have h1:(1:Int)>0:=by omega
 simp only[h1,if_true,Int.ediv_one]
 split<;>omega
theorem slicePart_(p:IsPart v o)(h:Q o s):wpAny (model prog w) A (Builtin.Slice.slicePartIndex v) Q E s:=by
 cases p with
 |none=>exact slicePart_none h
 |int i t=>exact slicePart_int h
theorem sliceApplied_gen {sl : Addr} {vl vu : Value} {lo hi : Option Int} {n : Nat} {Q : Int × Int × Nat → Shared → Prop} (hs : s.heap.IsSliceOf sl vl vu .none) (pl : IsPart vl lo) (pu : IsPart vu hi)
    (h : Q (((sIx n 0 lo : Nat) : Int), 1, sIx n n hi - sIx n 0 lo) s) : wpAny (model prog w) A (Builtin.Slice.sliceApplied (.ref sl) (pure (n : Int))) Q E s := by
  obtain ⟨os, hos, hcs, hds⟩ := id hs
  unfold Builtin.Slice.sliceApplied Builtin.Slice.sliceFields
  refine wpAny_bind (wpAny_bind (wpAny_field hos hds (x := vl) rfl (wpAny_bind (wpAny_field hos hds (x := vu) rfl (wpAny_bind (wpAny_field hos hds (x := .none) rfl (wpAny_pure ?_)))))))
  refine wpAny_bind (slicePart_none ?_)
  show wpAny _ _ (if ((1 : Int) == 0) = true then _ else _) _ _ s
  rw [if_neg (by decide)]
  refine wpAny_bind (slicePart_ pl (wpAny_bind (slicePart_ pu (wpAny_bind (wpAny_pure ?_)))))
  show wpAny _ _ (match Builtin.Slice.sliceAdjust lo hi 1 (n : Int) with | (lo, hi) => pure (lo, (1 : Int), Builtin.Slice.slicePlaces lo hi 1)) _ _ s
  rw [adjust_gen lo hi n]
  show wpAny _ _ (pure (((sIx n 0 lo : Nat) : Int), (1 : Int), Builtin.Slice.slicePlaces ((sIx n 0 lo : Nat) : Int) ((sIx n n hi : Nat) : Int) 1)) _ _ s
  rw [places_gen]
  exact wpAny_pure h
theorem pick_gen(xs:Array Value)(i k:Nat):((List.range k).filterMap λ(m:Nat)=>xs[((i:Int)+(m:Int)*1).toNat]?).toArray=((xs.toList.drop i).take k).toArray:=by
 have e:(λ(m:Nat)=>xs[((i:Int)+(m:Int)*1).toNat]?)=λm=>xs[i+m]?:=by
  funext m
  have:((i:Int)+(m:Int)*1).toNat=i+m:=by omega
  rw[this]
 rw[e]
 have:=pick_run xs i k
 rw[List.filterMap_map]at this
 have e2:((λx=>xs[x]?)∘λx=>i+x)=λm=>xs[i+m]?:=rfl
 rw[e2]at this
 rw[this]
theorem getItem_tuple_cut{t sl:Addr}{items:Array Value}{vl vu:Value}{lo hi:Option Int}{Q:Value->Shared->Prop}(ht:IsTup s.heap t items)(hs:s.heap.IsSliceOf sl vl vu .none)(pl:IsPart vl lo)(pu:IsPart vu hi)
 (hw:¬(sIx items.size 0 lo=0/\sIx items.size items.size hi=items.size))
 (h:Q (.ref s.heap.objs.size) {s with heap:=s.heap.push {cls:=.type "tuple",data:=.seq ((items.toList.drop (sIx items.size 0 lo)).take (sIx items.size items.size hi-sIx items.size 0 lo)).toArray}})
 (hsz:items.size<=sizeLine):wpAny (model prog w) A (getItem (.ref t) (.ref sl)) Q E s:=by
 have htake:sizeOk (.seq ((items.toList.drop (sIx items.size 0 lo)).take (sIx items.size items.size hi-sIx items.size 0 lo)).toArray):=by
  show((items.toList.drop (sIx items.size 0 lo)).take (sIx items.size items.size hi-sIx items.size 0 lo)).toArray.size<=sizeLine
  rw[List.size_toArray,List.length_take,List.length_drop,Array.length_toList]
  omega
 have hj:sIx items.size items.size hi<=items.size:=sIx_le _ _ (Nat.le_refl _) hi
 obtain⟨os,hos,hcs,hds⟩:=id hs
 have hTs:s.TypeIs (.ref sl) "slice":=⟨os,hos,hcs⟩
 unfold getItem
 try with_reducible refine wpAny_holding ?_
 first|refine wpAny_bind (wpAny_pure ?_)|skip
 refine wpAny_bind (wpAny_sequenceKey ht.typeIs (by decide) ?_)
 refine wpAny_bind (wpAny_callSpecial?_slot (name:=Str.ofString "__getitem__") ht.typeIs PyProof.Rows.slot_tuple_getitem
  (wpAny_call_entry PyProof.Rows.slot_tuple_getitem ht.typeIs entry_tuple_getitem ?_ (args_tuple_getitem _ _)))
 show wpAny _ _ (Builtin.Tuple.tupleItemsOf (.ref t)>>=_) _ _ s
 refine wpAny_bind (tupleItemsOf_ ht ?_)
 refine wpAny_bind (wpAny_typeOf hTs ?_)
 rw[if_pos (by decide)]
 refine wpAny_bind (sliceApplied_gen hs pl pu ?_)
 have hno:¬((((sIx items.size 0 lo:Nat):Int)==0&&(1:Int)==1&&(sIx items.size items.size hi-sIx items.size 0 lo)==items.size)=true):=by
  intro q
  rw[Bool.and_eq_true,Bool.and_eq_true]at q
  have q1:((sIx items.size 0 lo:Nat):Int)=0:=eq_of_beq q.1.1
  have q2:sIx items.size items.size hi-sIx items.size 0 lo=items.size:=eq_of_beq q.2
  exact hw ⟨by omega,by omega⟩
 show wpAny _ _ (if(((sIx items.size 0 lo:Nat):Int)==0&&(1:Int)==1&&(sIx items.size items.size hi-sIx items.size 0 lo)==items.size)=true then _ else _) _ _ s
 rw[if_neg hno,pick_gen]
 first
  |exact wpAny_bind (m:=Builtin.Tuple.tupleExact _) (wpAny_newObj_type (wpAny_pure ⟨_,rfl,wpAny_pure h⟩) htake)
  |exact wpAny_bind (m:=Builtin.Tuple.tupleExact _) (wpAny_newObj_type (wpAny_bind (wpAny_pure (wpAny_pure ⟨_,rfl,wpAny_pure h⟩))) htake)
  |exact wpAny_bind (wpAny_bind (m:=Builtin.Tuple.tupleExact _) (wpAny_newObj_type (wpAny_pure (wpAny_pure ⟨_,rfl,wpAny_pure h⟩)) htake))
  |exact wpAny_bind (wpAny_bind (m:=Builtin.Tuple.tupleExact _) (wpAny_newObj_type (wpAny_pure ⟨_,rfl,wpAny_pure h⟩) htake))
end
end HT
namespace L2
open PySem PySem.Spec PyProof.Rows
abbrev TO:=St->Hp->(Option Int->Hp->Prop)->Prop
def PO(X:Cx)(e:Option Expr)(t:TO):Prop:=
 ∀⦃pins:List (Addr×Obj)⦄ (s:Shared)(σ:St)(H:Hp)(Q:Option Int->Hp->Prop),Inv X pins σ H s->t σ H Q->
  wpAny (model X.prog X.w) X.A (evalPart e X.env) (λu s'=>∃o H',Inv X pins σ H' s'/\IsPart u o/\Q o H') X.xe s
def bw3:TO:=λ_ H Q=>Q none H
def ce5(t:TE):TO:=λσ H Q=>t σ H λx H1=>∃i,x=.int i/\Q (some i) H1
theorem an1:∀{us:List Value},Vals (ns.map V.int) us->IntsAre us ns:=by
 induction ns with
 |nil=>intro us r;rw[List.map_nil]at r;cases r;exact .nil
 |cons n ns ih=>
  intro us r
  rw[List.map_cons]at r
  cases r with
  |cons r1 r2=>
   obtain⟨t,e⟩:=r1
   subst e
   exact .cons n t (ih r2)
section
variable {X : Cx} {e : Expr} {te : TE} {lo hi : Option Expr} {tl th : TO} {pos p2 : Pos}
theorem qE:PO X none bw3:=by
 intro pins s σ H Q I h
 rw[evalPart_none]
 exact wpAny_pure ⟨none,H,I,.none,h⟩
theorem jO(h:PE X e te):PO X (some e) (ce5 te):=by
 intro pins s σ H Q I hw
 rw[evalPart_some]
 refine cD (h s σ H _ I hw) λu s1 ⟨x,H1,I1,r1,q1⟩=>?_
 obtain⟨i,rfl,q⟩:=q1
 obtain⟨t,rfl⟩:=r1
 exact⟨some i,H1,I1,.int i t,q⟩
def SlR(X:Cx)(r:V->Option Int->Option Int->Hp->VK->Prop):Prop:=
 ∀⦃pins:List (Addr×Obj)⦄ (s:Shared)(σ:St)(H:Hp)(x:V)(v vl vu:Value)(lo hi:Option Int)(sl:Addr)(Q:VK),Inv X pins σ H s->RelV x v->s.heap.IsSliceOf sl vl vu .none->IsPart vl lo->IsPart vu hi->r x lo hi H Q->
  ∃T id,typeLookup (.type T) "__getitem__"=pure (some (.builtin id))/\s.TypeIs v T/\wpAny (model X.prog X.w) X.A (getItem v (.ref sl)) (EP X pins σ Q) X.xe s
theorem SlR.or(h:SlR X r)(h':SlR X r'):SlR X (λx lo hi H Q=>r x lo hi H Q\/r' x lo hi H Q):=by
 intro pins s σ H x v vl vu lo hi sl Q I rx hs pl pu q
 rcases q with q|q
 . exact h s σ H x v vl vu lo hi sl Q I rx hs pl pu q
 . exact h' s σ H x v vl vu lo hi sl Q I rx hs pl pu q
def tSl(r:V->Option Int->Option Int->Hp->VK->Prop)(te:TE)(tl th:TO):TE:=λσ H Q=>te σ H λx H1=>tl σ H1 λl H2=>th σ H2 λu H3=>r x l u H3 Q
theorem kT(hr:SlR X r)(he:PE X e te)(hl:PO X lo tl)(hu:PO X hi th):PE X (.Subscript e (.Slice lo hi none p2) pos) (tSl r te tl th):=by
 intro pins s σ H Q I h
 refine Subscript_ (cD (he s σ H _ I h) λv s1 ⟨x,H1,I1,r1,q1⟩=>?_)
 refine wpAny_Slice (cD (hl s1 σ H1 _ I1 q1) λvl s2 ⟨l,H2,I2,pl,q2⟩=>cD (hu s2 σ H2 _ I2 q2) λvu s3 ⟨u,H3,I3,pu,q3⟩=>?_)
 rw[evalPart_none]
 refine wpAny_pure ?_
 have I4:Inv X pins σ H3 {s3 with heap:=s3.heap.push {cls:=.type "slice",data:=.fields #[vl,vu,.none]}}:=I3.kept (t':=s3.toks) λb ob q=>Heap.get?_push_of_some _ q
 obtain⟨T,id,hT,ht,hg⟩:=hr {s3 with heap:=s3.heap.push {cls:=.type "slice",data:=.fields #[vl,vu,.none]}} σ H3 x v vl vu l u s3.heap.objs.size Q I4 r1 (Heap.IsSliceOf.new ..) pl pu q3
 show wpAny (model X.prog X.w) X.A (subscriptTail e (.Slice lo hi none p2) v (.ref s3.heap.objs.size)) (EP X pins σ Q) X.xe {s3 with heap:=s3.heap.push {cls:=.type "slice",data:=.fields #[vl,vu,.none]}}
 exact tail_any (ops:=[.ref s3.heap.objs.size,v]) ht hT hg (by with_unfolding_all rfl)
def xG(xs:List V)(lo hi:Option Int):List V:=(xs.drop (HT.sIx xs.length 0 lo)).take (HT.sIx xs.length xs.length hi-HT.sIx xs.length 0 lo)
theorem ac0(xs:List V)(lo hi:Option Int):(xG xs lo hi).length<=xs.length:=by
 unfold xG
 rw[List.length_take,List.length_drop]
 omega
def db0(K:PySem.W.Frag):V->Option Int->Option Int->Hp->VK->Prop:=λx lo hi H Q=>∃a xs,x=.ref a/\SqT K H a xs/\
 ¬(HT.sIx xs.length 0 lo=0/\HT.sIx xs.length xs.length hi=xs.length)/\∀p,H p=none->Q (.ref p) (upd H p (.tup (xG xs lo hi)))
theorem dx0:SlR X (db0 X.K):=by
 intro pins s σ H x v vl vu lo hi sl Q I rx hs pl pu h
 obtain⟨a,xs,rfl,hx,hw,q⟩:=h
 cases rx
 obtain⟨its,r,ht,hz⟩:=I.tuple hx
 have hlen:its.toArray.size=xs.length:=by rw[List.size_toArray];exact r.length.symm
 refine⟨"tuple",_,PyProof.Rows.slot_tuple_getitem.lookup,ht.typeIs,?_⟩
 refine HT.getItem_tuple_cut ht hs pl pu (by rw[hlen];exact hw) ?_ (by rw[hlen];exact hz)
 rw[hlen]
 refine⟨.ref s.heap.objs.size,_,I.laid (t':=s.toks) (o:=.tup (xG xs lo hi)) (λb ob q=>Heap.get?_push_of_some _ q) (Nat.le_refl _) ?_,rfl,q _ (I.hok.fresh (Nat.le_refl _))⟩
 exact⟨Nat.le_trans (ac0 xs lo hi) hz,_,(r.drop (HT.sIx xs.length 0 lo)).take (HT.sIx xs.length xs.length hi-HT.sIx xs.length 0 lo),IsTup.new _ _⟩
def cf5(K:PySem.W.Frag):R2:=λx y H Q=>∃a b xs ys,x=.ref a/\y=.ref b/\SqT K H a xs/\SqT K H b ys/\xs≠[]/\xs.length+ys.length<=sizeLine/\
 (ys=[]->Q (.ref a) H)/\(ys≠[]->∀p,H p=none->Q (.ref p) (upd H p (.tup (xs++ys))))
theorem Vals.nil_iff(r:Vals xs us):us=[]↔xs=[]:=by
 cases r with
 |nil=>simp
 |cons _ _=>simp
theorem co8:OpR X (binaryOp .Add) (cf5 X.K):=by
 intro pins s σ H x y v u Q I rx ry h
 obtain⟨a,b,xs,ys,rfl,rfl,ha,hb,hx,hz,q1,q2⟩:=h
 cases rx
 cases ry
 obtain⟨its,r1,p1,_⟩:=I.tuple ha
 obtain⟨its2,r2,p2,_⟩:=I.tuple hb
 refine HT.cat_tup p1 p2 (λz=>hx (r1.nil_iff.mp z)) (λz=>⟨.ref a,H,I,rfl,q1 (r2.nil_iff.mp z)⟩) (λz=>?_) (by rw[<-r1.length,<-r2.length];exact hz)
 refine⟨.ref s.heap.objs.size,_,I.laid (t':=s.toks) (o:=.tup (xs++ys)) (λb ob q=>Heap.get?_push_of_some _ q) (Nat.le_refl _) ?_,rfl,q2 (λw=>z (r2.nil_iff.mpr w)) _ (I.hok.fresh (Nat.le_refl _))⟩
 exact⟨by rw[List.length_append];exact hz,_,r1.append r2,IsTup.new _ _⟩
end
end L2
namespace L2
open PySem PySem.Spec PyProof.Rows
def sU(n:Nat)(i:Int):Option Nat:=if 0<=i then(if i<n then some i.toNat else none)else if -(n:Int)<=i then some (i+n).toNat else none
def atI{α:Type}(xs:List α)(i:Int):Option α:=(sU xs.length i).bind λj=>xs[j]?
theorem aj4(h:sU n i=some j):seqIndex? i n=some j/\j<n/\-(n:Int)<=i/\i<n:=by
 unfold sU at h
 by_cases h0:0<=i
 . rw[if_pos h0]at h
   by_cases h1:i<n
   . rw[if_pos h1]at h
     have e:i.toNat=j:=Option.some.inj h
     exact⟨by rw[seqIndex_of h0 h1,e],by omega,by omega,h1⟩
   . rw[if_neg h1]at h;cases h
 . rw[if_neg h0]at h
   by_cases h1:-(n:Int)<=i
   . rw[if_pos h1]at h
     have e:(i+n).toNat=j:=Option.some.inj h
     exact⟨by rw[seqIndex_neg (by omega) h1,e],by omega,h1,by omega⟩
   . rw[if_neg h1]at h;cases h
theorem ab5(h:atI xs i=some v):∃j,seqIndex? i xs.length=some j/\xs[j]?=some v/\j<xs.length/\-(xs.length:Int)<=i/\i<xs.length:=by
 unfold atI at h
 cases e:sU xs.length i with
 |none=>rw[e]at h;cases h
 |some j=>
  rw[e]at h
  obtain⟨h1,h2,h3,h4⟩:=aj4 e
  exact⟨j,h1,h,h2,h3,h4⟩
theorem gM{α:Type}{xs:List α}{j:Nat}{v:α}(h:xs[j]?=some v):atI xs (j:Int)=some v:=by
 have hj:j<xs.length:=(List.getElem?_eq_some_iff.mp h).1
 have e:sU xs.length (j:Int)=some j:=by
  unfold sU
  rw[if_pos (by omega),if_pos (by omega)];simp
 unfold atI;rw[e];exact h
def bn3(b:Expr):Prop:=∀o i,subscripted b false o i=operate [o,i] (getItem o i)
def IxR(X:Cx)(r:R2):Prop:=
 ∀(value slice:Expr)(pins:List (Addr×Obj))(s:Shared)(σ:St)(H:Hp)(x y:V)(v u:Value)(Q:VK),Inv X pins σ H s->RelV x v->RelV y u->r x y H Q->
  subscripted slice false v u=operate [v,u] (getItem v u)->wpAny (model X.prog X.w) X.A (subscriptTail value slice v u) (EP X pins σ Q) X.xe s
def MtR(X:Cx)(id:String)(r:V->List V->Hp->VK->Prop):Prop:=
 ∀⦃pins:List (Addr×Obj)⦄ (s:Shared)(σ:St)(H:Hp)(x:V)(xs:List V)(v:Value)(us:List Value)(Q:VK),Inv X pins σ H s->RelV x v->Vals xs us->r x xs H Q->
  wpAny (model X.prog X.w) X.A (call (.builtin id) (v::us)) (EP X pins σ Q) X.xe s
section
variable {X : Cx} {a b : Expr} {ta tb : TE} {pos : Pos}
theorem IxR.or(h:IxR X r)(h':IxR X r'):IxR X (λx y H Q=>r x y H Q\/r' x y H Q):=by
 intro value slice pins s σ H x y v u Q I rx ry q hs
 rcases q with q|q
 . exact h value slice pins s σ H x y v u Q I rx ry q hs
 . exact h' value slice pins s σ H x y v u Q I rx ry q hs
theorem de6(hr:IxR X r)(ha:PE X a ta)(hb:PE X b tb)(hs:bn3 b):PE X (.Subscript a b pos) (tOp r ta tb):=by
 intro pins s σ H Q I h
 exact Subscript_ (ck2 ha hb I h λv u s2 x y H2 I2 rx ry q=>hr a b pins s2 σ H2 x y v u Q I2 rx ry q (hs _ _))
def db1(K:PySem.W.Frag):R2:=λx y H Q=>∃p xs i v,x=.ref p/\y=.int i/\SqL K H p xs/\atI xs i=some v/\Q v H
def du0(K:PySem.W.Frag):R2:=λx y H Q=>∃p xs i v,x=.ref p/\y=.int i/\SqT K H p xs/\atI xs i=some v/\Q v H
def dr4:R2:=λx y H Q=>∃z i c,x=.str z/\y=.int i/\z.length<=sizeLine/\atI z.cps.toList i=some c/\Q (.str ⟨#[c]⟩) H
theorem ix_list:IxR X (db1 X.K):=by
 intro value slice pins s σ H x y v u Q I rx ry h hs
 obtain⟨p,xs,i,z,rfl,rfl,hq,he,q⟩:=h
 cases rx
 obtain⟨t,rfl⟩:=ry
 obtain⟨its,r,pl,hz⟩:=I.list hq
 obtain⟨j,h1,h2,h3,h4,h5⟩:=ab5 he
 obtain⟨w,ew,rw'⟩:=r.get h2
 have hl:=r.length
 have hn:=uU
 have bU:EP X pins σ Q w s:=⟨z,H,I,rw',q⟩
 by_cases h0:0<=i
 . have hj:i.toNat=j:=by
    rw[seqIndex_of h0 h5]at h1
    exact Option.some.inj h1
   exact item_listR pl.isList h0 (by omega) (by rw[hj];simpa using ew) bU hs
 . have hj:(i+(its.toArray.size:Int)).toNat=j:=by
    rw[seqIndex_neg (by omega) h4]at h1
    rw[List.size_toArray,<-hl]
    exact Option.some.inj h1
   exact subscriptTail_builtinR (x:=w) pl.isList.typeIs slot_list_getitem.lookup
    (wpAny_getItem_list_neg (Q:=λr s'=>r=w/\EP X pins σ Q r s') pl.isList (by omega) (by rw[List.size_toArray]<;>omega) (by omega) (by rw[hj];simpa using ew) ⟨rfl,bU⟩) hs
theorem ix_tup:IxR X (du0 X.K):=by
 intro value slice pins s σ H x y v u Q I rx ry h hs
 obtain⟨p,xs,i,z,rfl,rfl,hq,he,q⟩:=h
 cases rx
 obtain⟨t,rfl⟩:=ry
 obtain⟨its,r,pl,hz⟩:=I.tuple hq
 obtain⟨j,h1,h2,h3,h4,h5⟩:=ab5 he
 obtain⟨w,ew,rw'⟩:=r.get h2
 have hl:=r.length
 have hn:=uU
 have bU:EP X pins σ Q w s:=⟨z,H,I,rw',q⟩
 exact subscriptTail_builtinR (x:=w) pl.typeIs slot_tuple_getitem.lookup
  (getItem_tuple (j:=j) (Q:=λr s'=>r=w/\EP X pins σ Q r s') pl (by omega) (by omega) (by rw[List.size_toArray,<-hl];exact h1) (by simpa using ew) ⟨rfl,bU⟩) hs
theorem dr1:IxR X dr4:=by
 intro value slice pins s σ H x y v u Q I rx ry h hs
 obtain⟨z,i,c,rfl,rfl,hz,he,q⟩:=h
 obtain⟨t,rfl⟩:=rx
 obtain⟨t',rfl⟩:=ry
 obtain⟨j,h1,h2,h3,h4,h5⟩:=ab5 he
 have hl:z.cps.toList.length=z.length:=by simp[Str.length]
 rw[hl]at h1 h4 h5
 have hn:=uU
 exact tail_any (typeIs_str s z t) slot_str_getitem.lookup (getItem_str (c:=c) (by
  have e1:decide (i< -(2^63:Int))=false:=decide_eq_false (by omega)
  have e2:decide (i>=2^63)=false:=decide_eq_false (by omega)
  rw[e1,e2,Bool.or_false]) (by rw[h1];simpa using h2) ⟨.str ⟨#[c]⟩,H,I.tok _,⟨_,rfl⟩,q⟩) hs
def rIx(K:PySem.W.Frag):R2:=λx y H Q=>db1 K x y H Q\/du0 K x y H Q\/dr4 x y H Q
theorem dg1:IxR X (rIx X.K):=ix_list.or (ix_tup.or dr1)
theorem be5(its:List Value)(n j:Nat)(u:Value):Obj.mapSeq (·.setIfInBounds j u) {cls:=.type "list",data:=.seq its.toArray n}={cls:=.type "list",data:=.seq (its.set j u).toArray n}:=by
 simp[Obj.mapSeq]
theorem Inv.lst{pins:List (Addr×Obj)}{σ:St}{H:Hp}{s:Shared}{p:Addr}{xs:List V}(I:Inv X pins σ H s)(h:H p=some (.lst xs)):
 ∃(its:List Value)(n:Nat),Vals xs its/\s.heap.get? p=some {cls:=.type "list",data:=.seq its.toArray n}/\xs.length<=sizeLine:=by
 obtain⟨z,its,n,r,e⟩:=I.hok p _ h
 exact⟨its,n,r,e,z⟩
theorem Inv.lstUpd{pins:List (Addr×Obj)}{σ:St}{H:Hp}{s:Shared}{p:Addr}{xs ys:List V}{its its':List Value}{n n':Nat}{f:Obj->Obj}(I:Inv X pins σ H s)(h:H p=some (.lst xs))
 (ho:s.heap.get? p=some {cls:=.type "list",data:=.seq its.toArray n})(hf:f {cls:=.type "list",data:=.seq its.toArray n}={cls:=.type "list",data:=.seq its'.toArray n'})(r:Vals ys its')(hz:ys.length<=sizeLine)(t:Nat):
 Inv X pins σ (upd H p (.lst ys)) {s with heap:=s.heap.update p f,toks:=t}:=by
 have e:(s.heap.update p f).get? p=some {cls:=.type "list",data:=.seq its'.toArray n'}:=by
  rw[Heap.get?_update_self f ho (by rw[hf]<;>rfl),hf]
 refine I.write (x:=p) (e:=p) (by rw[h];trivial) (.inl rfl) (λb u hb q=>(Heap.get?_update_other _ _ (Ne.symm hb)).trans q) ⟨_,e⟩ ?_
 exact⟨hz,its',n',r,e⟩
def co4:V->V->V->Hp->(Hp->Prop)->Prop:=λo i v H Q=>∃p xs k j,o=.ref p/\i=.int k/\H p=some (.lst xs)/\sU xs.length k=some j/\Q (upd H p (.lst (xs.set j v)))
theorem ai9:dw1 X co4:=by
 intro pins s σ H o i v ov iv u Q I ro ri rv h
 obtain⟨p,xs,k,j,rfl,rfl,hp,hj,q⟩:=h
 cases ro
 obtain⟨t,rfl⟩:=ri
 obtain⟨its,n,r,ho,hz⟩:=I.lst hp
 obtain⟨h1,h2,h3,h4⟩:=aj4 hj
 have hl:=r.length
 have hn:=uU
 have I':Inv X pins σ (upd H p (.lst (xs.set j v))) {s with heap:=s.heap.update p (Obj.mapSeq (·.setIfInBounds j u))}:=
  I.lstUpd hp ho (be5 its n j u) (r.set rv j) (by rw[List.length_set];exact hz) s.toks
 by_cases h0:0<=k
 . have hk:k.toNat=j:=by
    rw[seqIndex_of h0 h4]at h1
    exact Option.some.inj h1
   exact PySem.W.ki_setAt ho h0 (by omega) (by rw[List.size_toArray,<-hl];exact h4) (by rw[hk];exact⟨_,I',q⟩)
 . have hk:(k+(its.toArray.size:Int)).toNat=j:=by
    rw[seqIndex_neg (by omega) h3]at h1
    rw[List.size_toArray,<-hl]
    exact Option.some.inj h1
   exact PySem.W.ki_setBack ho (by omega) (by rw[List.size_toArray,<-hl];exact h3) (by omega) (by rw[hk];exact⟨_,I',q⟩)
theorem ay8(lo hi:Option Int)(n:Nat):(sliceBounds lo hi none n).1=((HT.sIx n 0 lo:Nat):Int)/\(sliceBounds lo hi none n).2.1=((HT.sIx n n hi:Nat):Int)/\(sliceBounds lo hi none n).2.2=1:=by
 refine⟨?_,?_,rfl⟩
 . cases lo with
   |none=>simp[sliceBounds,HT.sIx]
   |some i=>
    simp only[sliceBounds,HT.sIx,Option.getD_none,show(1:Int)>0 by decide,if_true]
    by_cases h:i<0
    . simp only[h,if_true]<;>omega
    . simp only[h,if_false]<;>omega
 . cases hi with
   |none=>simp[sliceBounds,HT.sIx]
   |some i=>
    simp only[sliceBounds,HT.sIx,Option.getD_none,show(1:Int)>0 by decide,if_true]
    by_cases h:i<0
    . simp only[h,if_true]<;>omega
    . simp only[h,if_false]<;>omega
theorem av7(its:List Value)(lo hi:Option Int):slicePick its.toArray lo hi none=((its.drop (HT.sIx its.length 0 lo)).take (HT.sIx its.length its.length hi-HT.sIx its.length 0 lo)).toArray:=by
 obtain⟨h1,h2,h3⟩:=ay8 lo hi its.toArray.size
 unfold slicePick
 rw[h1,h2,h3]
 simp only[sliceRange_one,pick_run,List.size_toArray]<;>rfl
def dx2(K:PySem.W.Frag):V->Option Int->Option Int->Hp->VK->Prop:=λx lo hi H Q=>∃a xs,x=.ref a/\SqL K H a xs/\∀p,H p=none->Q (.ref p) (upd H p (.lst (xG xs lo hi)))
theorem ci7:SlR X (dx2 X.K):=by
 intro pins s σ H x v vl vu lo hi sl Q I rx hs pl pu h
 obtain⟨a,xs,rfl,hx,q⟩:=h
 cases rx
 obtain⟨its,r,ht,hz⟩:=I.list hx
 have hlen:=r.length
 refine⟨"list",_,slot_list_getitem.lookup,ht.isList.typeIs,?_⟩
 refine wpAny_getItem_list_slice ht.isList hs pl pu .none (by simp) ?_ (by rw[List.size_toArray]<;>omega)
 rw[av7,<-hlen]
 refine⟨.ref s.heap.objs.size,_,I.laid (t':=s.toks) (o:=.lst (xG xs lo hi)) (λb ob q=>Heap.get?_push_of_some _ q) (Nat.le_refl _) ?_,rfl,q _ (I.hok.fresh (Nat.le_refl _))⟩
 exact⟨Nat.le_trans (ac0 xs lo hi) hz,_,0,(r.drop (HT.sIx xs.length 0 lo)).take (HT.sIx xs.length xs.length hi-HT.sIx xs.length 0 lo),Heap.get?_push_size _ rfl⟩
def qU:V->Bool
 |.non=>true
 |.bl _=>true
 |.int _=>true
 |.str _=>true
 |_=>false
def eqV:V->V->Bool
 |.non,.non=>true
 |.bl a,.bl b=>a==b
 |.bl a,.int b=>(if a then 1 else 0)==b
 |.int a,.bl b=>a==(if b then 1 else 0)
 |.int a,.int b=>a==b
 |.str a,.str b=>a==b
 |_,_=>false
theorem bw6(ry:RelV y u)(rx:RelV x v)(fy:qU y=true)(fx:qU x=true):SeqAt.EqAt A s u v (eqV y x):=by
 cases y with
 |non=>
  cases ry
  cases x with
  |non=>cases rx;exact SeqAt.EqAt.same _
  |bl b=>cases rx;exact SeqAt.EqAt.none_bool b
  |int b=>obtain⟨t,rfl⟩:=rx;exact SeqAt.EqAt.none_int b t
  |str b=>obtain⟨t,rfl⟩:=rx;exact SeqAt.EqAt.none_str b t
  |_=>exact absurd (show false=true from fx) Bool.false_ne_true
 |bl a=>
  cases ry
  cases x with
  |non=>cases rx;exact SeqAt.EqAt.bool_none a
  |bl b=>cases rx;exact SeqAt.EqAt.bool_bool a b
  |int b=>obtain⟨t,rfl⟩:=rx;exact SeqAt.EqAt.bool_int a b t
  |str b=>obtain⟨t,rfl⟩:=rx;exact SeqAt.EqAt.bool_str a b t
  |_=>exact absurd (show false=true from fx) Bool.false_ne_true
 |int a=>
  obtain⟨t',rfl⟩:=ry
  cases x with
  |non=>cases rx;exact SeqAt.EqAt.int_none a t'
  |bl b=>cases rx;exact SeqAt.EqAt.int_bool a t' b
  |int b=>obtain⟨t,rfl⟩:=rx;exact SeqAt.EqAt.int_int a t' b t
  |str b=>obtain⟨t,rfl⟩:=rx;exact SeqAt.EqAt.int_str a t' b t
  |_=>exact absurd (show false=true from fx) Bool.false_ne_true
 |str a=>
  obtain⟨t',rfl⟩:=ry
  cases x with
  |non=>cases rx;exact SeqAt.EqAt.str_none a t'
  |bl b=>cases rx;exact SeqAt.EqAt.str_bool a t' b
  |int b=>obtain⟨t,rfl⟩:=rx;exact SeqAt.EqAt.str_int a t' b t
  |str b=>obtain⟨t,rfl⟩:=rx;exact SeqAt.EqAt.str_str a t' b t
  |_=>exact absurd (show false=true from fx) Bool.false_ne_true
 |_=>exact absurd (show false=true from fy) Bool.false_ne_true
theorem CallR.or(h:CallR X f r)(h':CallR X f r'):CallR X f (λxs H Q=>r xs H Q\/r' xs H Q):=by
 intro pins s σ H xs us Q I rs q
 rcases q with q|q
 . exact h s σ H xs us Q I rs q
 . exact h' s σ H xs us Q I rs q
theorem bn0:CallR X (.type "list") (λxs H Q=>∃p ys,xs=[.ref p]/\(SqL X.K H p ys\/SqT X.K H p ys)/\∀l,H l=none->Q (.ref l) (upd H l (.lst ys))):=by
 intro pins s σ H xs us Q I r h
 obtain⟨p,ys,rfl,hq,q⟩:=h
 obtain⟨u,rfl,rx⟩:=ab2 r
 cases rx
 have bU:∀(its:List Value),Vals ys its->ys.length<=sizeLine->∀(h':Heap)(c':Nat),(∀b o',s.heap.get? b=some o'->h'.get? b=some o')->
  h'.get? s.heap.objs.size=some {cls:=.type "list",dict:=none,data:=.seq its.toArray c',slots:=#[]}->EP X pins σ Q (.ref s.heap.objs.size) {s with heap:=h'}:=λits r' hz h' c' kp e=>
  ⟨.ref s.heap.objs.size,_,I.laid (t':=s.toks) kp (Nat.le_refl _) (show ObjOk X.prog X.w _ h' _ (.lst ys) from⟨hz,its,c',r',e⟩),rfl,q _ (I.hok.fresh (Nat.le_refl _))⟩
 rcases hq with hq|hq
 . obtain⟨its,r',pl,hz⟩:=I.list hq
   have hlen:=r'.length
   obtain⟨o,ho,hc,n,hd⟩:=pl.isList
   exact call_list_seq p (.inl rfl) ho hc hd (λh' c' kp e=>bU its r' hz h' c' kp e) (by simp only[List.size_toArray]<;>omega)
 . obtain⟨its,r',pl,hz⟩:=I.tuple hq
   have hlen:=r'.length
   obtain⟨o,ho,hc,n,hd⟩:=pl
   exact call_list_seq p (.inr rfl) ho hc hd (λh' c' kp e=>bU its r' hz h' c' kp e) (by simp only[List.size_toArray]<;>omega)
def tyV(K:PySem.W.Frag)(T:String)(x:V)(H:Hp):Prop:=match x with
 |.str _=>T="str"
 |.int _=>T="int"
 |.ref p=>(T="list"/\∃xs,SqL K H p xs)\/(T="tuple"/\∃o,K.lookup p=some o/\o.cls=.type "tuple"/\o.dict=none)\/
  (T="dict"/\((∃kvs,H p=some (.dK kvs))\/∃kvs,H p=some (.dT kvs)))\/(T="set"/\∃S n,H p=some (.set S n))
 |_=>False
theorem dm1(I:Inv X pins σ H s)(r:RelV x v)(ty:tyV X.K T x H):
 s.TypeIs v T/\∀a,v=.ref a->∃ob,s.heap.get? a=some ob/\ob.dict=none:=by
 cases x with
 |str z=>
  obtain⟨t,rfl⟩:=r
  cases(show T="str" from ty)
  exact⟨typeIs_str s z t,λ_ e=>nomatch e⟩
 |int i=>
  obtain⟨t,rfl⟩:=r
  cases(show T="int" from ty)
  exact⟨typeIs_int s i t,λ_ e=>nomatch e⟩
 |ref p=>
  cases r
  rcases ty with⟨rfl,xs,hq⟩|⟨rfl,o,hk,hc,hd⟩|⟨rfl,hk⟩|⟨rfl,S,n,hk⟩
  . obtain⟨its,_,pl,_⟩:=I.list hq
    refine⟨pl.isList.typeIs,λa e=>?_⟩
    cases e
    obtain⟨o,n,e,c,hd,_⟩:=pl
    exact⟨o,e,hd⟩
  . refine⟨⟨o,I.kIn p o hk,hc⟩,λa e=>?_⟩
    cases e
    exact⟨o,I.kIn _ o hk,hd⟩
  . have z:∃o,s.heap.get? p=some o/\o.ExactDict:=by
     rcases hk with⟨kvs,hk⟩|⟨kvs,hk⟩
     . obtain⟨_,_,_,_,o,_,_,e,ex,_⟩:=I.hok p _ hk
       exact⟨o,e,ex⟩
     . obtain⟨_,_,_,_,o,_,_,e,ex,_⟩:=I.hok p _ hk
       exact⟨o,e,ex⟩
    obtain⟨o,e,ex⟩:=z
    refine⟨⟨o,e,ex.1⟩,λa e2=>?_⟩
    cases e2
    exact⟨o,e,ex.2.1⟩
  . obtain⟨o,_,_,_,e,ex,_⟩:=I.hok p _ hk
    refine⟨⟨o,e,ex.1⟩,λa e2=>?_⟩
    cases e2
    exact⟨o,e,ex.2.1⟩
 |_=>exact False.elim ty
def tBM(K:PySem.W.Frag)(T:String)(r:V->List V->Hp->VK->Prop)(to:TE)(t:TA):TE:=λσ H Q=>to σ H λx H1=>tyV K T x H1/\t σ H1 λxs H2=>r x xs H2 Q
variable {o e : Expr} {es : List Expr} {to : TE} {t : TA} {name : Str} {apos cpos : Pos} {T id : String} {r : V → List V → Hp → VK → Prop}
theorem du5(pa:PlainAttrs T)(slot:Slot T name id)(hty:typeOf (.builtin id)=pure (.type "method_descriptor"))(hm:MtR X id r)(ho:PE X o to)(ha:PA X (e::es) t)
 (hbase:attributeBase o name X.env (eval o X.env)=eval o X.env:=by rfl)
 (hfew:((backTo cpos (starEach (e::es) X.env)).all (λx=>!x.1)&&(backToKw cpos (keywordEach [] X.env)).all (λx=>x.1.isSome)
  &&decide ((e::es).length+([]:List Keyword).length+(if([]:List Keyword).isEmpty then 0 else 1)<30))=true:=by rfl)
 (hline:(apos.endLine==cpos.line)=true:=by rfl)(hs:starEach (e::es) X.env=(false,eval e X.env)::starEach es X.env:=by rfl)(hplain:(backTo cpos (starEach es X.env)).any (·.1)=false:=by rfl):
 PE X (.Call (.Attribute o name apos) (e::es) [] cpos) (tBM X.K T r to t):=by
 intro pins s σ H Q I h
 refine wpAny_Call_method_late hbase hfew hline rfl (cD (ho s σ H _ I h) λv s1 ⟨x,H1,I1,r1,ty,q1⟩=>?_)
 obtain⟨h1,h2⟩:=dm1 I1 r1 ty
 refine⟨T,id,pa,slot,hty,h1,h2,?_⟩
 have hA:=@ha cpos pins s1 σ H1 _ I1 q1
 rw[hs]at hA⊢
 refine Calls.callWith_builtin (by show(false||(backTo cpos (starEach es X.env)).any (·.1))=false;rw[hplain]<;>rfl) (Calls.evalArgs_plain ?_)
 exact cD hA λus s2 ⟨vs,H2,I2,r2,q2⟩=>hm s2 σ H2 x vs v us Q I2 r1 r2 q2
/- xs.append(e), list.index on a module's tuple .. are MtR facts of 06m -/
end
end L2
namespace L2
open PySem PySem.Spec PyProof.Rows
def MtM(X:Cx)(id:String)(r:V->List V->Hp->VK->Prop):Prop:=
 ∀(pins:List (Addr×Obj))(s:Shared)(σ:St)(H:Hp)(x:V)(xs:List V)(v:Value)(us:List Value)(Q:VK),Inv X pins σ H s->RelV x v->Vals xs us->r x xs H Q->
  wpAny (model X.prog X.w) X.A (call (.builtin id) (v::us)) (EP X pins σ Q) X.xe s
theorem Vals.one:∀{x:V}{us:List Value},Vals [x] us->∃u,us=[u]/\RelV x u
 |_,_,.cons r .nil=>⟨_,rfl,r⟩
theorem Vals.two:∀{x y:V}{us:List Value},Vals [x,y] us->∃u v,us=[u,v]/\RelV x u/\RelV y v
 |_,_,_,.cons r (.cons q .nil)=>⟨_,_,rfl,r,q⟩
section
variable {X : Cx} {pins : List (Addr × Obj)} {σ : St} {H : Hp} {s : Shared} {l b : Addr} {xs ys zs : List V}
theorem Inv.lset{its its':List Value}{n:Nat}{f:Array Value->Array Value}{t':Nat}(I:Inv X pins σ H s)(hH:H l=some (.lst xs))
 (e:s.heap.get? l=some {cls:=.type "list",data:=.seq its.toArray n})(hf:f its.toArray=its'.toArray)(hv:Vals ys its')(hz:ys.length<=sizeLine):
 Inv X pins σ (upd H l (.lst ys)) {s with heap:=s.heap.update l (Obj.mapSeq f),toks:=t'}:=by
 have q:=PySem.IsL.update e f
 rw[hf]at q
 refine I.write (x:=l) (e:=l) (by rw[hH];exact trivial) (.inl rfl) (λb' u hb hu=>(Heap.get?_update_other s.heap (Obj.mapSeq f) (Ne.symm hb)).trans hu) ⟨_,q⟩ ?_
 exact⟨hz,its',_,hv,q⟩
theorem Inv.lnew(I:Inv X pins σ H s)(hv:Vals ys its)(hz:ys.length<=sizeLine):
 Inv X pins σ (upd H s.heap.objs.size (.lst ys)) {s with heap:=s.heap.push {cls:=.type "list",data:=.seq its.toArray},toks:=t'}:=
 I.laid (λ_ _ q=>Heap.get?_push_of_some _ q) (Nat.le_refl _) ⟨hz,its,0,hv,Heap.get?_push_size _ rfl⟩
theorem Inv.fresh(I:Inv X pins σ H s):H s.heap.objs.size=none:=I.hok.fresh (Nat.le_refl _)
theorem Inv.lstM(I:Inv X pins σ H s)(hH:H l=some (.lst xs)):xs.length<=sizeLine/\∃(its:List Value)(n:Nat),Vals xs its/\xs.length=its.length/\s.heap.get? l=some {cls:=.type "list",data:=.seq its.toArray n}:=by
 obtain⟨z,its,n,r,e⟩:=I.hok l _ hH
 exact⟨z,its,n,r,r.length,e⟩
end
section
variable {X : Cx}
def ar4:V->List V->Hp->VK->Prop:=λx vs H Q=>∃l xs y,x=.ref l/\vs=[y]/\H l=some (.lst xs)/\xs.length<sizeLine/\Q .non (upd H l (.lst (xs++[y])))
theorem bh8:MtM X "list.append" ar4:=by
 intro pins s σ H x vs v us Q I rx rv h
 obtain⟨l,xs,y,rfl,rfl,hH,hz,q⟩:=h
 cases rx
 obtain⟨u,rfl,ru⟩:=rv.one
 obtain⟨z,its,n,r,hl,e⟩:=I.lstM hH
 refine call_meets F.slot_list_append ⟨_,e,rfl⟩ F.entry_list_append (F.args_list_append_2 _ _) (PySem.list_append l its.toArray n u (by rw[List.size_toArray];omega)) ⟨e,?_⟩
 refine⟨.non,_,I.lset (its':=its++[u]) hH e (by simp) (r.append (.cons ru .nil)) ?_,rfl,q⟩
 rw[List.length_append,List.length_singleton]
 omega
theorem by2(xs:List α)(k:Nat):(List.replicate k xs).flatten.length=k*xs.length:=by
 induction k with
 |zero=>simp
 |succ k ih=>rw[List.replicate_succ,List.flatten_cons,List.length_append,ih,Nat.succ_mul,Nat.add_comm]
end
section
variable {prog : Program} {w : World} {A : Around} {E : Value → Shared → Prop} {s : Shared}
set_option maxRecDepth 100000 in
end
section
variable {X : Cx}
end
end L2
namespace Att
open PySem PySem.W PySem.Calls PyProof.Rows
theorem ints_of_wellAll:∀(ns:List Int)(vs:List Value),WellAll P h vs (ns.map WData.int)->IntsAre vs ns:=by
 intro ns
 induction ns with
 |nil=>
  intro vs w
  rw[List.map_nil]at w
  cases w
  exact .nil
 |cons n ns ih=>
  intro vs w
  rw[List.map_cons]at w
  cases w with
  |cons a b=>
   cases a
   exact .cons _ _ (ih _ b)
theorem script_of{l:OpenLaw}{n:Nat}(hn:l.most=some n){P:Params}{h:Heap}{args:List WData}{vals:List Value}
 (hpre:l.row.toRowW.claim.pre args=true)(hwl:WellAll P h vals args):
 ∃a vs ns,vals=[Value.ref a]/\args=[WData.list (ns.map WData.int)]/\h.get? a=some {cls:=.type "list",data:=.seq vs.toArray}/\IntsAre vs ns/\ns.length<=n:=by
 have hsh:WShape.hasAll [] args [.list .int]=true:=(pre_splitW hpre).1
 have hc:l.pre.holds [] {args:=args}=true:=(pre_splitW hpre).2
 obtain⟨d,r,rfl,h1,h2⟩:=hasAllW_cons hsh
 obtain rfl:=hasAllW_nil h2
 obtain⟨xs,rfl,h3⟩:=hasW_list h1
 obtain⟨ns,rfl⟩:=items_int h3
 have hlen:ns.length<=n:=by
  unfold OpenLaw.pre at hc
  have h4:(WTm.not (.lt (.lit (.int (n:Int))) (.len (.arg 0)))).holds [] {args:=[.list (ns.map .int)]}=true:=by
   have h4:=(holds_andW hc).1
   rw[hn]at h4
   exact h4
  have h5:=condW_of h4 (w_not (w_lt w_lit (w_len_list (w_arg rfl))))
  rw[List.length_map]at h5
  refine Nat.le_of_not_lt λq=>?_
  have q':(n:Int)<((ns.length:Nat):Int):=by omega
  first
   |(rw[decide_eq_true q']at h5;exact absurd h5 (by decide))
   |(simp at h5;omega)
 cases hwl with
 |cons w1 w2=>
  cases w2
  cases w1 with
  |list ho hall=>exact⟨_,_,ns,rfl,rfl,ho,ints_of_wellAll ns _ hall,hlen⟩
theorem post_true(l:OpenLaw)(args:List WData):l.row.toRowW.claim.post args (.bool true) args=true:=
 postW_of (r:=l.row.toRowW) (X:=(true==true))
  (show WShape.has [] (.bool true) .bool=true by first|rfl|decide|simp[WShape.has,WShape.arms,WShape.armsAll])
  (show(WTm.eq .res (.lit (.bool true))).value [] {args:=args,res:=some (.bool true),after:=args}=some (.bool (true==true)) from w_eq_bool (w_res rfl) w_lit) rfl
section
variable {prog : Program} {w : World} {A : Around} {E : Value → Shared → Prop} {s : Shared} {K : Frag}
end
end Att
namespace L2
open PySem PySem.Spec PyProof.Rows
theorem an6:∀{vs:List Value}{ns:List Int},IntsAre vs ns->Vals (ns.map V.int) vs
 |_,_,.nil=>.nil
 |_,_,.cons n t h=>.cons ⟨t,rfl⟩ (an6 h)
def df1(H:Hp):Prop:=∀b,H b=none\/∃o xs,H b=some (.frz o (.lst xs))
theorem ce4{P:Program}{w:World}{K:PySem.W.Frag}{mg mb:Str->Option Value}{CX:wY}{k:Nat}{fa a:Addr}{fd:FuncData}{x:Str}{sp:Sp}{s₁:Shared}{vs:List Value}{ns:List Int}
 (KX:K.In s₁.heap)(hns:s₁.heap.Ns mainGlobals mg)(hb:s₁.heap.Ns builtinsNs mb)(hbb:∀x:Str,x≠"__name__"->mb x=bootBuiltins x)(hlim:s₁.heap.NoLimit)(hg:s₁.gens=#[])
 (ha:s₁.heap.get? a=some {cls:=.type "list",data:=.seq vs.toArray})(hi:IntsAre vs ns)(hl:ns.length<=sizeLine)(hr:Room k callerA)
 (F:∀base:Heap,K.In base->base.Ns mainGlobals mg->FnOk P w K mg base CX k fa fd [x] sp)(hbind:∀(s:Shared)(u:Value),BindsTo s fd ⟨[u],[]⟩ [(x,u)])
 (hsp:∀H:Hp,df1 H->SqL K H a (ns.map V.int)->sp [.ref a] H (λv _=>v=.bl true) λ_ _ _=>False)
 (hCX:∀H e s',CX [] H s₁ (λ_ _ _=>False) e s'->False):
 codeAny (model P w) callerA (.call (.ref fa) ⟨[.ref a],[]⟩) (λr s'=>r=.ok (.ret (.bool true))/\OldK s₁.heap s'.heap/\s'.os=s₁.os/\AllBare s'.gens) s₁:=by
 have rv:=an6 hi
 have lenV:=hi.length
 have core:∀H:Hp,df1 H->SqL K H a (ns.map V.int)->HOk P w H s₁.heap->(∀b,H b≠none->b=a)->(H a≠none->K.lookup a=none)->
  codeAny (model P w) callerA (.call (.ref fa) ⟨[.ref a],[]⟩) (λr s'=>r=.ok (.ret (.bool true))/\OldK s₁.heap s'.heap/\s'.os=s₁.os/\AllBare s'.gens) s₁:=by
  intro H hO hS hok hA hK
  have base_of:∀{b:Addr}{o:Obj},s₁.heap.get? b=some o->H b=none->(wE s₁.heap H).get? b=some o:=λe n=>ct2 e n
  have noA:∀{b:Addr}{o:Obj}{es:Array DictEntry}{ep:Nat},s₁.heap.get? b=some o->o.data=.dict es ep->H b=none:=λ{b o es ep} e d=>by
   cases q:H b with
   |none=>rfl
   |some u=>
    have e':b=a:=hA b (by rw[q];simp)
    subst e'
    rw[ha]at e;cases e
    have d':Data.seq vs.toArray _=Data.dict es ep:=d
    cases d'
  have nsK:∀{b:Addr}{m:Str->Option Value},s₁.heap.Ns b m->(wE s₁.heap H).Ns b m:=λ{b m} ⟨o,es,ep,e,d,r⟩=>⟨o,es,ep,base_of e (noA e d),d,r⟩
  have hKb:K.In (wE s₁.heap H):=λb o e=>base_of (KX b o e) (by
   cases q:H b with
   |none=>rfl
   |some u=>
    have e':b=a:=hA b (by rw[q];simp)
    subst e'
    rw[hK (by rw[q];simp)]at e;cases e)
  have hM:Mod K mg (wE s₁.heap H):=⟨hKb,nsK hns,⟨mb,nsK hb,hbb⟩,let⟨mc,h1,h2⟩:=hlim;⟨mc,nsK h1,h2⟩⟩
  have e0:Env0 P w K mg (wE s₁.heap H) callerA [] s₁ H:=⟨rfl,hM,λb o e=>cx6 e,Nat.le_of_eq (bj9 _ _),trivial,λb hb=>absurd (show b∈([]:List Addr) from hb) (by simp),hok,.of_eq hg⟩
  refine codeAny_mono ((F _ hKb (nsK hns)).run callerA [] s₁ H ⟨[.ref a],[]⟩ [.ref a] [.ref a] _ _ hr e0 (hbind s₁ (.ref a)) (.cons rfl .nil) (hsp H hO hS)) λr s' h=>?_
  cases r with
  |error e=>exact(hCX H e s' h).elim
  |ok fl=>
   cases fl with
   |next=>exact False.elim h
   |brk=>exact False.elim h
   |cont=>exact False.elim h
   |ret u=>
    obtain⟨v,H',os,bare,un,hok',r',q⟩:=h
    have q':v=.bl true:=q
    subst q'
    obtain rfl:u=Value.bool true:=r'
    refine⟨rfl,OldK.of_keep λb o e=>?_,os,bare⟩
    cases q:H b with
    |none=>exact un.keep b o e q (by intro z;exact absurd (show b∈([]:List Addr) from z) (by simp)) (by simp)
    |some u=>
     rcases hO b with z|⟨ob,xs,z⟩
     . rw[q]at z;cases z
     . have z2:=un.frzs b ob _ z
       obtain⟨e1,_⟩:=hok b _ z
       obtain⟨e2,_⟩:=hok' b _ z2
       rw[e]at e1;cases e1
       exact e2
 cases hk:K.lookup a with
 |some o=>
  have e:=KX a o hk
  rw[ha]at e
  cases e
  refine core (λ_=>none) (λ_=>.inl rfl) (.inr ⟨_,vs.toArray,_,hk,rfl,rfl,rfl,by rw[List.size_toArray,lenV];exact hl,by simpa using rv⟩) (λb u z=>by have z':(none:Option HO)=some u:=z;cases z') (λb z=>absurd rfl z) λz=>absurd rfl z
 |none=>
  refine core (λb=>if b=a then some (.frz {cls:=.type "list",data:=.seq vs.toArray} (.lst (ns.map V.int)))else none) (λb=>?_) (.inl (.inr ⟨{cls:=.type "list",data:=.seq vs.toArray},if_pos rfl⟩)) (λb u z=>?_) (λb z=>?_) λ_=>hk
  . by_cases hb:b=a
    . exact .inr ⟨_,_,if_pos hb⟩
    . exact .inl (if_neg hb)
  . by_cases hb:b=a
    . have z':=(if_pos hb).symm.trans z
      cases z'
      subst hb
      exact⟨ha,by rw[List.length_map];exact hl,vs,_,rv,ha⟩
    . have z':=(if_neg hb).symm.trans z
      cases z'
  . by_cases hb:b=a
    . exact hb
    . exact absurd (if_neg hb) z
end L2
namespace L2
open PySem PySem.Spec PyProof.Rows
end L2
namespace L2
open PySem PySem.Spec PyProof.Rows
def sM(s:Stmt)(j:Nat):Stmt:=match s with
 |.ClassDef _ _ _ body _ _ _ _ _ _ _=>body.getD j (.Pass ⟨0,0,0,0⟩)
 |_=>.Pass ⟨0,0,0,0⟩
def jZ(s:Stmt):Arguments:=match s with
 |.FunctionDef _ a _ _ _ _ _ _ _ _=>a
 |_=>{posonlyargs:=[],args:=[],vararg:=none,kwonlyargs:=[],kw_defaults:=[],kwarg:=none,defaults:=[]}
def dS(s:Stmt):List Stmt:=match s with
 |.FunctionDef _ _ b _ _ _ _ _ _ _=>b
 |_=>[]
def aM(s:Stmt):Scope:=match s with
 |.FunctionDef _ _ _ _ _ _ sc _ _ _=>sc
 |_=>{kind:=.function,names:=[],isGenerator:=false,isCoroutine:=false}
abbrev lB:wY:=λ_ _ _ _ _ _=>False
abbrev E0:XK:=λ_ _ _=>False
theorem ap1:yA lB X E0:=λ_ _ _ _ _ _ _ h=>h.elim
structure Fun (K:PySem.W.Frag) (x qual:Str) (st:Stmt) (f:Addr) (fd:FuncData):Prop where
 ex:∃(oc:Value)(od:Option Addr)(kV doc pm:Value)(an:Option Addr)(cdv ct:Value)(osl:Array (Option Value)),
  fd=PySem.W.fnOf x qual (jZ st) (dS st) (aM st) .none kV doc pm an cdv ct/\K.lookup f=some ⟨oc,od,.func fd,osl⟩/\PySem.W.codeIn K cdv qual=true
 kp:PySem.W.keepIn K (.ref f)=true
section
variable {P : Program} {w : World} {K : PySem.W.Frag} {mg : Str → Option Value} {base : Heap}
theorem Fun.ok{x qual:Str}{st:Stmt}{f:Addr}{fd:FuncData}{N ps:List Str}{k:Nat}{sp:Sp}(F:Fun K x qual st f fd)(S:bF N ps (aM st))(len:∀vs H Q E,sp vs H Q E->vs.length=ps.length)
 (hbody:∀(cdv:Value)(A:Around)(outer:List Env)(s:Shared)(H:Hp)(vs:List V)(Q:VK)(E:XK),Room k (A.deeper (envOfC qual (aM st) s.heap.objs.size f cdv))->sp vs H Q E->
  ∃t,PSs (mS lB P w K mg base N qual (aM st) f cdv A outer s H E).nox (dS st) t/\t {nx:=λ_ H'=>Q .non H',rt:=Q} (kE N vs) H):FnOk P w K mg base lB (k+1) f fd ps sp:=by
 obtain⟨oc,od,kV,doc,pm,an,cdv,ct,osl,rfl,lk,hcd⟩:=F.ex
 refine db8 lk hcd S len λA outer s H vs Q E hr hsp=>?_
 obtain⟨t,h,q⟩:=hbody cdv A outer s H vs Q E hr hsp
 exact⟨t,h.nox,q⟩
theorem Fun.binds{x qual:Str}{st:Stmt}{f:Addr}{fd:FuncData}{ps:List Str}(F:Fun K x qual st f fd)
 (h:∀(kV doc pm:Value)(an:Option Addr)(cdv ct:Value)(us:List Value),us.length=ps.length->bindArgs (PySem.W.fnOf x qual (jZ st) (dS st) (aM st) .none kV doc pm an cdv ct) ⟨us,[]⟩=pure (ps.zip us)):Binds K fd ps []:=by
 obtain⟨oc,od,kV,doc,pm,an,cdv,ct,osl,rfl,lk,hcd⟩:=F.ex
 exact .all (h kV doc pm an cdv ct)
theorem ad3{x qual:Str}{st:Stmt}{f:Addr}{oc:Value}{od an:Option Addr}{osl:Array (Option Value)}{kV doc pm cdv ct:Value}(l:K.lookup f=some ⟨oc,od,.func (PySem.W.fnOf x qual (jZ st) (dS st) (aM st) .none kV doc pm an cdv ct),osl⟩)
 (c:PySem.W.codeIn K cdv qual=true)(k:PySem.W.keepIn K (.ref f)=true):Fun K x qual st f (PySem.W.fnOf x qual (jZ st) (dS st) (aM st) .none kV doc pm an cdv ct):=⟨⟨oc,od,kV,doc,pm,an,cdv,ct,osl,rfl,l,c⟩,k⟩
end
section
variable {X : Cx}
theorem pv(i:Nat)(hN:X.N[i]?=some x:=by rfl)(hv:Vis X.env.scope x:=by first|exact Or.inl rfl|exact Or.inr (Or.inl rfl)|exact Or.inr (Or.inr rfl))(hd:(x==("__debug__":Str))=false:=by decide)
 (hcd:(x==("__classdict__":Str))=false:=by decide):PE X (.Name x pos) (bk0 i):=dl2 hN hv hd hcd
end
def Same(H H':Hp):Prop:=∀b o,H b=some o->H' b=some o
theorem Same.refl(H:Hp):Same H H:=λ_ _ h=>h
theorem Same.trans(a:Same H H1)(b:Same H1 H2):Same H H2:=λc o h=>b c o (a c o h)
theorem Same.free(e:Same H H')(h:H' l=Option.none):H l=Option.none:=by
 cases q:H l with
 |none=>rfl
 |some o=>
  rw[e l o q]at h
  cases h
theorem Same.seq{K:PySem.W.Frag}{H H':Hp}{a:Addr}{xs:List V}(e:Same H H')(h:SqL K H a xs):SqL K H' a xs:=by
 rcases h with(h|⟨o,h⟩)|h
 . exact .inl (.inl (e _ _ h))
 . exact .inl (.inr ⟨o,e _ _ h⟩)
 . exact .inr h
end L2
namespace L2
open PySem PySem.Spec PyProof.Rows
def dr3:R2:=λx y H Q=>∃i j,x=.int i/\y=.int j/\IntMulOk i j/\Q (.int (i*j)) H
section
variable {X : Cx}
theorem op_mulB:OpR X (binaryOp .Mult) dr3:=by
 intro pins s σ H x y v u Q I rx ry h
 obtain⟨i,j,rfl,rfl,hc,q⟩:=h
 obtain⟨t,rfl⟩:=rx
 obtain⟨t',rfl⟩:=ry
 exact mul_int ⟨.int (i*j),H,I.tok _,⟨_,rfl⟩,q⟩ hc
def TyN(K:PySem.W.Frag)(H:Hp)(x:V)(tx:String):Prop:=match x with
 |.int _=>tx="int"
 |.bl _=>tx="bool"
 |.str _=>tx="str"
 |.ref p=>(tx="list"/\∃xs,SqL K H p xs)\/(tx="tuple"/\∃xs,SqT K H p xs)
 |_=>False
inductive gS:String->String->Bool->Prop where
 |int_int:gS "int" "int" true
 |int_bool:gS "int" "bool" false
 |int_str:gS "int" "str" false
 |int_list:gS "int" "list" false
 |int_tuple:gS "int" "tuple" false
 |bool_int:gS "bool" "int" true
 |bool_bool:gS "bool" "bool" true
 |bool_str:gS "bool" "str" false
 |bool_list:gS "bool" "list" false
 |bool_tuple:gS "bool" "tuple" false
 |str_int:gS "str" "int" false
 |str_bool:gS "str" "bool" false
 |str_str:gS "str" "str" true
 |str_list:gS "str" "list" false
 |str_tuple:gS "str" "tuple" false
 |list_int:gS "list" "int" false
 |list_bool:gS "list" "bool" false
 |list_str:gS "list" "str" false
 |list_list:gS "list" "list" true
 |list_tuple:gS "list" "tuple" false
 |tuple_int:gS "tuple" "int" false
 |tuple_bool:gS "tuple" "bool" false
 |tuple_str:gS "tuple" "str" false
 |tuple_list:gS "tuple" "list" false
 |tuple_tuple:gS "tuple" "tuple" true
theorem ca2:CallR X (.builtin "isinstance") (λxs H Q=>∃x T tx b,xs=[x,.ty T]/\TyN X.K H x tx/\gS tx T b/\Q (.bl b) H):=by
 intro pins s σ H xs us Q I r h
 obtain⟨x,T,tx,b,rfl,ht,ho,q⟩:=h
 obtain⟨u,v,rfl,rx,rT⟩:=r.two
 obtain rfl:v=Value.type T:=rT
 have fin1:EP X pins σ Q (.bool b) s:=⟨.bl b,H,I,rfl,q⟩
 have fin2:EP X pins σ Q (.bool b) {s with toks:=s.toks+1}:=⟨.bl b,H,I.tok _,rfl,q⟩
 cases x with
 |int i=>
  obtain⟨t,rfl⟩:=rx
  have ht:tx="int":=ht
  cases ho with
  |int_int=>exact IsiPair.int_int fin1
  |int_bool=>exact IsiPair.int_bool fin2
  |int_str=>exact IsiPair.int_str fin2
  |int_list=>exact IsiPair.int_list fin2
  |int_tuple=>exact IsiPair.int_tuple fin2
  |bool_int=>exact absurd ht (by decide+kernel)
  |bool_bool=>exact absurd ht (by decide+kernel)
  |bool_str=>exact absurd ht (by decide+kernel)
  |bool_list=>exact absurd ht (by decide+kernel)
  |bool_tuple=>exact absurd ht (by decide+kernel)
  |str_int=>exact absurd ht (by decide+kernel)
  |str_bool=>exact absurd ht (by decide+kernel)
  |str_str=>exact absurd ht (by decide+kernel)
  |str_list=>exact absurd ht (by decide+kernel)
  |str_tuple=>exact absurd ht (by decide+kernel)
  |list_int=>exact absurd ht (by decide+kernel)
  |list_bool=>exact absurd ht (by decide+kernel)
  |list_str=>exact absurd ht (by decide+kernel)
  |list_list=>exact absurd ht (by decide+kernel)
  |list_tuple=>exact absurd ht (by decide+kernel)
  |tuple_int=>exact absurd ht (by decide+kernel)
  |tuple_bool=>exact absurd ht (by decide+kernel)
  |tuple_str=>exact absurd ht (by decide+kernel)
  |tuple_list=>exact absurd ht (by decide+kernel)
  |tuple_tuple=>exact absurd ht (by decide+kernel)
 |bl i=>
  cases rx
  have ht:tx="bool":=ht
  cases ho with
  |int_int=>exact absurd ht (by decide+kernel)
  |int_bool=>exact absurd ht (by decide+kernel)
  |int_str=>exact absurd ht (by decide+kernel)
  |int_list=>exact absurd ht (by decide+kernel)
  |int_tuple=>exact absurd ht (by decide+kernel)
  |bool_int=>exact IsiPair.bool_int fin1
  |bool_bool=>exact IsiPair.bool_bool fin1
  |bool_str=>exact IsiPair.bool_str fin2
  |bool_list=>exact IsiPair.bool_list fin2
  |bool_tuple=>exact IsiPair.bool_tuple fin2
  |str_int=>exact absurd ht (by decide+kernel)
  |str_bool=>exact absurd ht (by decide+kernel)
  |str_str=>exact absurd ht (by decide+kernel)
  |str_list=>exact absurd ht (by decide+kernel)
  |str_tuple=>exact absurd ht (by decide+kernel)
  |list_int=>exact absurd ht (by decide+kernel)
  |list_bool=>exact absurd ht (by decide+kernel)
  |list_str=>exact absurd ht (by decide+kernel)
  |list_list=>exact absurd ht (by decide+kernel)
  |list_tuple=>exact absurd ht (by decide+kernel)
  |tuple_int=>exact absurd ht (by decide+kernel)
  |tuple_bool=>exact absurd ht (by decide+kernel)
  |tuple_str=>exact absurd ht (by decide+kernel)
  |tuple_list=>exact absurd ht (by decide+kernel)
  |tuple_tuple=>exact absurd ht (by decide+kernel)
 |str i=>
  obtain⟨t,rfl⟩:=rx
  have ht:tx="str":=ht
  cases ho with
  |int_int=>exact absurd ht (by decide+kernel)
  |int_bool=>exact absurd ht (by decide+kernel)
  |int_str=>exact absurd ht (by decide+kernel)
  |int_list=>exact absurd ht (by decide+kernel)
  |int_tuple=>exact absurd ht (by decide+kernel)
  |bool_int=>exact absurd ht (by decide+kernel)
  |bool_bool=>exact absurd ht (by decide+kernel)
  |bool_str=>exact absurd ht (by decide+kernel)
  |bool_list=>exact absurd ht (by decide+kernel)
  |bool_tuple=>exact absurd ht (by decide+kernel)
  |str_int=>exact IsiPair.str_int fin2
  |str_bool=>exact IsiPair.str_bool fin2
  |str_str=>exact IsiPair.str_str fin1
  |str_list=>exact IsiPair.str_list fin2
  |str_tuple=>exact IsiPair.str_tuple fin2
  |list_int=>exact absurd ht (by decide+kernel)
  |list_bool=>exact absurd ht (by decide+kernel)
  |list_str=>exact absurd ht (by decide+kernel)
  |list_list=>exact absurd ht (by decide+kernel)
  |list_tuple=>exact absurd ht (by decide+kernel)
  |tuple_int=>exact absurd ht (by decide+kernel)
  |tuple_bool=>exact absurd ht (by decide+kernel)
  |tuple_str=>exact absurd ht (by decide+kernel)
  |tuple_list=>exact absurd ht (by decide+kernel)
  |tuple_tuple=>exact absurd ht (by decide+kernel)
 |ref p=>
  cases rx
  have ht:(tx="list"/\∃xs,SqL X.K H p xs)\/(tx="tuple"/\∃xs,SqT X.K H p xs):=ht
  rcases ht with⟨ht,ys,hq⟩|⟨ht,ys,hq⟩
  . obtain⟨its,rv,⟨o,n,e,c,d,dt⟩,hz⟩:=I.list hq
    cases ho with
    |int_int=>exact absurd ht (by decide+kernel)
    |int_bool=>exact absurd ht (by decide+kernel)
    |int_str=>exact absurd ht (by decide+kernel)
    |int_list=>exact absurd ht (by decide+kernel)
    |int_tuple=>exact absurd ht (by decide+kernel)
    |bool_int=>exact absurd ht (by decide+kernel)
    |bool_bool=>exact absurd ht (by decide+kernel)
    |bool_str=>exact absurd ht (by decide+kernel)
    |bool_list=>exact absurd ht (by decide+kernel)
    |bool_tuple=>exact absurd ht (by decide+kernel)
    |str_int=>exact absurd ht (by decide+kernel)
    |str_bool=>exact absurd ht (by decide+kernel)
    |str_str=>exact absurd ht (by decide+kernel)
    |str_list=>exact absurd ht (by decide+kernel)
    |str_tuple=>exact absurd ht (by decide+kernel)
    |list_int=>exact IsiPair.list_int e c fin2
    |list_bool=>exact IsiPair.list_bool e c fin2
    |list_str=>exact IsiPair.list_str e c fin2
    |list_list=>exact IsiPair.list_list e c fin1
    |list_tuple=>exact IsiPair.list_tuple e c fin2
    |tuple_int=>exact absurd ht (by decide+kernel)
    |tuple_bool=>exact absurd ht (by decide+kernel)
    |tuple_str=>exact absurd ht (by decide+kernel)
    |tuple_list=>exact absurd ht (by decide+kernel)
    |tuple_tuple=>exact absurd ht (by decide+kernel)
  . obtain⟨its,rv,⟨o,e,c,n,d⟩,hz⟩:=I.tuple hq
    cases ho with
    |int_int=>exact absurd ht (by decide+kernel)
    |int_bool=>exact absurd ht (by decide+kernel)
    |int_str=>exact absurd ht (by decide+kernel)
    |int_list=>exact absurd ht (by decide+kernel)
    |int_tuple=>exact absurd ht (by decide+kernel)
    |bool_int=>exact absurd ht (by decide+kernel)
    |bool_bool=>exact absurd ht (by decide+kernel)
    |bool_str=>exact absurd ht (by decide+kernel)
    |bool_list=>exact absurd ht (by decide+kernel)
    |bool_tuple=>exact absurd ht (by decide+kernel)
    |str_int=>exact absurd ht (by decide+kernel)
    |str_bool=>exact absurd ht (by decide+kernel)
    |str_str=>exact absurd ht (by decide+kernel)
    |str_list=>exact absurd ht (by decide+kernel)
    |str_tuple=>exact absurd ht (by decide+kernel)
    |list_int=>exact absurd ht (by decide+kernel)
    |list_bool=>exact absurd ht (by decide+kernel)
    |list_str=>exact absurd ht (by decide+kernel)
    |list_list=>exact absurd ht (by decide+kernel)
    |list_tuple=>exact absurd ht (by decide+kernel)
    |tuple_int=>exact IsiPair.tuple_int e c fin2
    |tuple_bool=>exact IsiPair.tuple_bool e c fin2
    |tuple_str=>exact IsiPair.tuple_str e c fin2
    |tuple_list=>exact IsiPair.tuple_list e c fin2
    |tuple_tuple=>exact IsiPair.tuple_tuple e c fin1
 |_=>exact(show False from ht).elim
theorem uI:∀{bs:List Bool}{us:List Value}{i:Nat}{u:Value},Vals (bs.map V.bl) us->us[i]?=some u->∃b,bs[i]?=some b/\u=.bool b
 |[],_,_,_,.nil,e=>by simp at e
 |b::bs,_,0,_,.cons r _,e=>by
  simp at e
  subst e
  exact⟨b,rfl,r⟩
 |b::bs,_,i+1,_,.cons _ t,e=>by
  obtain⟨c,h1,h2⟩:=uI (i:=i) t (by simpa using e)
  exact⟨c,by simpa using h1,h2⟩
theorem bf8(bs:List Bool):((List.range bs.length).all λi=>(bs[i]?).getD true)=bs.all id:=by
 rw[Bool.eq_iff_iff,List.all_eq_true,List.all_eq_true]
 constructor
 . intro h b hb
   obtain⟨i,hi,e⟩:=List.mem_iff_getElem.mp hb
   have q:=h i (List.mem_range.mpr hi)
   rw[List.getElem?_eq_getElem hi,e]at q
   exact q
 . intro h i hi
   have hi':=List.mem_range.mp hi
   rw[List.getElem?_eq_getElem hi']
   exact h _ (List.getElem_mem hi')
theorem bz7(bs:List Bool):((List.range bs.length).any λi=>(bs[i]?).getD true)=bs.any id:=by
 rw[Bool.eq_iff_iff,List.any_eq_true,List.any_eq_true]
 constructor
 . rintro⟨i,hi,q⟩
   have hi':=List.mem_range.mp hi
   rw[List.getElem?_eq_getElem hi']at q
   exact⟨_,List.getElem_mem hi',q⟩
 . rintro⟨b,hb,q⟩
   obtain⟨i,hi,e⟩:=List.mem_iff_getElem.mp hb
   refine⟨i,List.mem_range.mpr hi,?_⟩
   rw[List.getElem?_eq_getElem hi,e]
   exact q
theorem xV{s:Shared}{h':Heap}{o:Obj}(hk:∀b x,b∉[s.heap.objs.size]->(s.heap.push o).get? b=some x->h'.get? b=some x):∀b x,s.heap.get? b=some x->h'.get? b=some x:=
 λb x e=>hk b x (λhm=>by rw[List.mem_singleton.mp hm]at e;exact Nat.lt_irrefl _ (Heap.lt_size e)) (Heap.get?_push_of_some _ e)
theorem ca1(hc:X.calm=true):CallR X (.builtin "all") (λxs H Q=>∃(p:Addr)(bs:List Bool),xs=[.ref p]/\SqL X.K H p (bs.map V.bl)/\Q (.bl (bs.all id)) H):=by
 intro pins s σ H xs us Q I r h
 obtain⟨p,bs,rfl,hq,q⟩:=h
 obtain⟨u,rfl,r1⟩:=r.one
 obtain rfl:u=Value.ref p:=r1
 obtain⟨its,rv,pl,hz⟩:=I.list hq
 have hl:=pl.isList
 have hlen:bs.length=its.length:=by have:=rv.length;rwa[List.length_map]at this
 have hlt:p<s.heap.objs.size:=by obtain⟨_,_,e,_⟩:=pl;exact Heap.lt_size e
 refine call_all_walk (wpAny_pyIter_list hl ?_)
 refine⟨s.heap.objs.size,[s.heap.objs.size,p],[s.heap.objs.size],its.toArray.size,_,_,λi=>(bs[i]?).getD true,rfl,Walks.list (A:=X.A.in1) (I.ok.hd hc) _ p (Nat.ne_of_lt hlt) its.toArray,
  ⟨⟨_,Heap.get?_push_size _ rfl,rfl,rfl⟩,hl.push _⟩,λi v s' Q' E' hP hQ=>?_,λh' tk hk=>?_⟩
 . obtain⟨b,e,rfl⟩:=uI rv (i:=i) (u:=v) (by simpa using hP)
   simp only[e,Option.getD_some]at hQ
   exact wpAny_truthy_bool hQ
 . have e:((List.range its.toArray.size).all λi=>(bs[i]?).getD true)=bs.all id:=by
    rw[List.size_toArray,<-hlen]
    exact bf8 bs
   rw[e]
   exact⟨.bl _,H,I.kept (xV hk),rfl,q⟩
theorem cu3(hc:X.calm=true):CallR X (.builtin "any") (λxs H Q=>∃(p:Addr)(bs:List Bool),xs=[.ref p]/\SqL X.K H p (bs.map V.bl)/\Q (.bl (bs.any id)) H):=by
 intro pins s σ H xs us Q I r h
 obtain⟨p,bs,rfl,hq,q⟩:=h
 obtain⟨u,rfl,r1⟩:=r.one
 obtain rfl:u=Value.ref p:=r1
 obtain⟨its,rv,pl,hz⟩:=I.list hq
 have hl:=pl.isList
 have hlen:bs.length=its.length:=by have:=rv.length;rwa[List.length_map]at this
 have hlt:p<s.heap.objs.size:=by obtain⟨_,_,e,_⟩:=pl;exact Heap.lt_size e
 refine call_any_walk (wpAny_pyIter_list hl ?_)
 refine⟨s.heap.objs.size,[s.heap.objs.size,p],[s.heap.objs.size],its.toArray.size,_,_,λi=>(bs[i]?).getD true,rfl,Walks.list (A:=X.A.in1) (I.ok.hd hc) _ p (Nat.ne_of_lt hlt) its.toArray,
  ⟨⟨_,Heap.get?_push_size _ rfl,rfl,rfl⟩,hl.push _⟩,λi v s' Q' E' hP hQ=>?_,λh' tk hk=>?_⟩
 . obtain⟨b,e,rfl⟩:=uI rv (i:=i) (u:=v) (by simpa using hP)
   simp only[e,Option.getD_some]at hQ
   exact wpAny_truthy_bool hQ
 . have e:((List.range its.toArray.size).any λi=>(bs[i]?).getD true)=bs.any id:=by
    rw[List.size_toArray,<-hlen]
    exact bz7 bs
   rw[e]
   exact⟨.bl _,H,I.kept (xV hk),rfl,q⟩
end
structure fL (P:Program) (w:World) (K:PySem.W.Frag) (mg:Str->Option Value) (base:Heap) (k:Nat) (x:Str) (ps:List Str) (sp:Sp):Prop where
 ex:∃f fd,FnOk P w K mg base lB k f fd ps sp/\mg x=some (.ref f)/\PySem.W.keepIn K (.ref f)=true/\Binds K fd ps []
def cm3(sp:Sp)(t:TA):TE:=λσ H Q=>t σ H λvs H1=>sp vs H1 Q E0
section
variable {X : Cx}
theorem dj0(d:fL X.prog X.w X.K X.mg X.base k x ps sp)(hr:Room k X.A)(ha:PA X (e::es) t)(hg:Gl X x:=by rfl)
 (hdb:(x==("__debug__":Str))=false:=by decide)(he:starEach (e::es) X.env=(false,eval e X.env)::starEach es X.env:=by rfl)(hpl:(backTo pos (starEach es X.env)).any (·.1)=false:=by rfl):
 PE X (.Call (.Name x p) (e::es) [] pos) (cm3 sp t):=by
 obtain⟨f,fd,F,hm,hk,hb⟩:=d.ex
 intro pins s σ H Q I h
 have e1:(λvs H1=>sp (vs++[]) H1 Q E0)=λvs H1=>sp vs H1 Q E0:=by
  funext vs H1
  rw[List.append_nil]
 refine cz6 F hr hg hm hk hb .nil ap1 ha hdb he hpl s σ H Q I ?_
 show t σ H λvs H1=>sp (vs++[]) H1 Q E0
 rw[e1]
 exact h
end
end L2
namespace Att
open PySem PySem.W PySem.Calls PyProof.Rows
theorem weight_mem:∀(ns:List Int)(n:Int),n∈ns->WData.weight (.int n)<=WData.weightAll (ns.map WData.int)
 |m::ns,n,h=>by
  rw[List.map_cons]
  simp only[WData.weightAll]
  rcases List.mem_cons.mp h with rfl|h
  . omega
  . have:=weight_mem ns n h
    omega
theorem bits_of{ns:List Int}(h:WData.layableAll [.list (ns.map WData.int)]=true):∀n∈ns,Builtin.Int.intBits n<=1048576:=by
 intro n hn
 have h1:WData.layable (.list (ns.map WData.int))=true:=by
  have h2:([WData.list (ns.map WData.int)].all WData.layable)=true:=h
  rw[List.all_cons,Bool.and_eq_true]at h2
  exact h2.1
 unfold WData.layable at h1
 rw[Bool.and_eq_true]at h1
 have h3:=of_decide_eq_true h1.2
 have h4:=weight_mem ns n hn
 have h5:WData.weight (.int n)=Builtin.Int.intBits n:=by
  unfold WData.weight Builtin.Int.intBits
  rfl
 have h6:WData.weight (.list (ns.map WData.int))=WData.weightAll (ns.map WData.int):=by
  conv=>lhs;unfold WData.weight
 rw[h6]at h3
 rw[h5]at h4
 have h7:(2:Nat)^20=1048576:=by decide
 omega
theorem attach_callB{l:OpenLaw}{n:Nat}{q:Program}{loose:List Str}{XP:(Str->Option Value)->Heap->Prop}{YP:World->Heap->Prop}{d:DefRec}
 (hn:l.most=some n)(hdf:d.params.defaults=[])
 (call:∀(w:World)(s₀ s₁:Shared)(mg mb:Str->Option Value)(fa:Addr)(o:Obj)(pm cd doc:Value)(a:Addr)(vs:List Value)(ns:List Int),
  Ground q loose [] XP w s₀ mg mb s₁.heap->YP w s₁.heap->
  s₁.heap.get? fa=some o->o.data=.func (docDef d.name d.params d.body d.scope pm cd doc)->s₁.heap.CodeRec cd d.name->mg d.name=some (.ref fa)->
  s₁.heap.get? a=some {cls:=.type "list",data:=.seq vs.toArray}->IntsAre vs ns->ns.length<=n->s₁.gens=#[]->(∀n∈ns,Builtin.Int.intBits n<=1048576)->
  codeAny (model l.prog w) callerA (.call (.ref fa) ⟨[.ref a],[]⟩) (λr s'=>r=.ok (.ret (.bool true))/\OldK s₁.heap s'.heap/\s'.os=s₁.os/\AllBare s'.gens) s₁):
 WalkO q loose XP YP l.row.toRowW d [] (λf vs=>PySem.call f vs):=by
 intro w s₀ s₁ mg mb G Y fa o pm cd doc dV kV ho hd hcd hD hmg hg args vals as hpre hlay hrd hwl hlo
 obtain rfl:dV=.none:=Dflts.none hD hdf
 obtain rfl:kV=.none:=Dflts.noKw hD
 obtain⟨a,vs,ns,rfl,rfl,hobj,hints,hlen⟩:=script_of hn hpre hwl
 refine enter_call (codeAny_mono (call w s₀ s₁ mg mb fa o pm cd doc a vs ns G Y ho (fd_plain hd) hcd hmg hobj hints hlen hg (bits_of hlay)) λr s' hq=>?_)
 obtain⟨rfl,h2,h3,h4⟩:=hq
 exact⟨.inl ⟨.bool true,.bool true,[],rfl,λ_=>rfl,.bool true,post_true l _,λ_=>⟨List.Pairwise.nil,λ_ hm=>(nomatch hm)⟩⟩,h2,h3,h4⟩
end Att
namespace L2
open PySem PySem.Spec PyProof.Rows
def SqS(K:PySem.W.Frag)(H:Hp)(a:Addr)(xs:List V):Prop:=
 Rd H a (.lst xs)\/
  ∃(o:Obj)(its:Array Value)(n:Nat),K.lookup a=some o/\o.cls=.type "list"/\o.dict=none/\o.slots=#[]/\o.data=.seq its n/\its.size<=sizeLine/\Vals xs its.toList
theorem SqS.sq{K:PySem.W.Frag}{H:Hp}{a:Addr}{xs:List V}(h:SqS K H a xs):SqL K H a xs:=by
 rcases h with h|⟨o,its,n,h1,h2,h3,_,h5,h6,h7⟩
 . exact .inl h
 . exact .inr ⟨o,its,n,h1,h2,h3,h5,h6,h7⟩
theorem Inv.listS(I:Inv X pins σ H s)(h:SqS X.K H a xs):∃(its:List Value)(n:Nat),Vals xs its/\s.heap.get? a=some {cls:=.type "list",data:=.seq its.toArray n}/\xs.length<=sizeLine:=by
 rcases h with h|⟨o,its,n,hk,hc,hd,hsl,hs,hz,r⟩
 . obtain⟨z,its,n,r,e⟩:=h.ok I.hok
   exact⟨its,n,r,e,z⟩
 . have e:=I.kIn a o hk
   obtain⟨cls,dict,data,slots⟩:=o
   simp only at hc hd hsl hs
   subst hc hd hsl hs
   refine⟨its.toList,n,r,by simpa using e,?_⟩
   have:=r.length
   simp only[Array.length_toList]at this
   omega
def ao8(K:PySem.W.Frag):Sp:=λvs H Q _=>∃(a:Addr)(ns:List Int),vs=[.ref a]/\SqS K H a (ns.map V.int)/\ns.length<=63/\(∀n∈ns,Builtin.Int.intBits n<=1048576)/\∀H',Q (.bl true) H'
theorem cf0{l:PySem.W.OpenLaw}{k:Nat}{q:Program}{loose:List Str}{XP:(Str->Option Value)->Heap->Prop}{YP:World->Heap->Prop}{d:DefRec}{K:Params->PySem.W.Frag}{x:Str}
 (hn:l.most=some 63)(hdf:d.params.defaults=[])(hr:Room k callerA)
 (hY:∀(w:World)(h:Heap),YP w h->(K w.params).In h)
 (F:∀(w:World)(mg:Str->Option Value)(fa:Addr)(h:Heap),(K w.params).In h->h.Ns mainGlobals mg->mg d.name=some (.ref fa)->
  ∃fd:FuncData,(∀(s:Shared)(u:Value),BindsTo s fd ⟨[u],[]⟩ [(x,u)])/\
   ∀base:Heap,(K w.params).In base->base.Ns mainGlobals mg->FnOk l.prog w (K w.params) mg base lB k fa fd [x] (ao8 (K w.params))):
 PySem.W.WalkO q loose XP YP l.row.toRowW d [] (λf vs=>PySem.call f vs):=by
 refine Att.attach_callB hn hdf λw s₀ s₁ mg mb fa o pm cd doc a vs ns G Y ho hd hcd hmg hobj hints hlen hg hbits=>?_
 have KX:=hY w _ Y
 obtain⟨fd,hb,hF⟩:=F w mg fa _ KX G.T.g hmg
 have hS':∀{H:Hp},SqL (K w.params) H a (ns.map V.int)->SqS (K w.params) H a (ns.map V.int):=λ{H} h=>by
  rcases h with h|⟨o,its,n,h1,h2,h3,h5,h6,h7⟩
  . exact .inl h
  . have e:=KX a o h1
    rw[hobj]at e
    cases e
    exact .inr ⟨_,its,n,h1,h2,h3,rfl,h5,h6,h7⟩
 exact ce4 KX G.T.g G.T.b G.T.builtins G.T.nolimit hg hobj hints (Nat.le_trans hlen (by decide)) hr hF hb (λH hO hS=>⟨a,ns,rfl,hS' hS,hlen,hbits,λ_=>rfl⟩) λH e s' h=>h
end L2
namespace L2
open PySem PySem.Spec PyProof.Rows
abbrev mY(X:Cx)(scope:Scope)(cl:List (Str×Addr))(C:Addr)(s₀:Shared)(H₀:Hp)(ex:List Addr):Cx:=
 {X with s₀:=s₀,H₀:=H₀,env:=compEnvC scope cl C X.env,outer:=X.stack,ex:=ex,fn:=λ_=>false,pn:=[],xe:=λ_ _=>False}
def gK (cells : List (Str × Addr)) : List (Str × NameKind) → List (Str × Addr) → List (Str × Addr)
  | [], acc => acc
  | (n, k) :: r, acc => if (k == .free) = true then gK cells r ((n, (cells.lookup n).getD 0) :: acc) else gK cells r acc
theorem wP : ∀ (names : List (Str × NameKind)) (acc : List (Str × Addr)), (∀ x ∈ names, x.2 = .free → ∃ c, env.cells.lookup x.1 = some c) →
    (forIn names acc fun (x : Str × NameKind) (cs : List (Str × Addr)) => (if (x.2 == .free) = true then (do let c ← cellOf env x.1; pure (ForInStep.yield ((x.1, c) :: cs))) else pure (ForInStep.yield cs) : Sem (ForInStep (List (Str × Addr))))) = (pure (gK env.cells names acc) : Sem (List (Str × Addr)))
  | [], acc, _ => rfl
  | (n, k) :: r, acc, h => by
    rw [List.forIn_cons]
    have hr : ∀ x ∈ r, x.2 = .free → ∃ c, env.cells.lookup x.1 = some c := fun x hx => h x (List.mem_cons_of_mem _ hx)
    by_cases hk : (k == NameKind.free) = true
    · obtain ⟨c, hc⟩ := h (n, k) List.mem_cons_self (by simpa using hk)
      have e1 : cellOf env n = pure c := by unfold cellOf; rw [hc]
      simp only [hk, if_true, e1, pure_bind]
      have e2 : gK env.cells ((n, k) :: r) acc = gK env.cells r ((n, c) :: acc) := by
        conv => lhs; unfold gK
        rw [if_pos hk, hc]
        all_goals rfl
      rw [e2]
      exact wP r _ hr
    · simp only [hk, if_false, pure_bind]
      have e2 : gK env.cells ((n, k) :: r) acc = gK env.cells r acc := by
        conv => lhs; unfold gK
        rw [if_neg hk]
      rw [e2]
      exact wP r _ hr
theorem wI (h : ∀ x ∈ scope.names, x.2 = .free → ∃ c, env.cells.lookup x.1 = some c) : closureFor scope env = pure (gK env.cells scope.names []) := by
  have q := wP (env := env) scope.names [] h
  unfold closureFor
  have e : (forIn scope.names ([] : List (Str × Addr)) fun (x : Str × NameKind) (r : List (Str × Addr)) =>
      (match x with
      | (name, kind) => if (kind == NameKind.free) = true then (do let c ← cellOf env name; pure (ForInStep.yield ((name, c) :: r))) else pure (ForInStep.yield r) : Sem (ForInStep (List (Str × Addr))))) = pure (gK env.cells scope.names []) := q
  first
    | (show (do let r ← (forIn scope.names ([] : List (Str × Addr)) _); pure r) = _; erw [e]; rfl)
    | (simp only [bind_pure]; exact e)
    | exact e
theorem sX : ∀ (names : List (Str × NameKind)) (acc : List (Str × Addr)), (∀ x ∈ names, x.2 = .free → ∃ c, cells.lookup x.1 = some c) → (∀ y c, acc.lookup y = some c → cells.lookup y = some c) →
    ∀ y c, (gK cells names acc).lookup y = some c → cells.lookup y = some c
  | [], _, _, ha => ha
  | (n, k) :: r, acc, h, ha => by
    have hr : ∀ x ∈ r, x.2 = .free → ∃ c, cells.lookup x.1 = some c := fun x hx => h x (List.mem_cons_of_mem _ hx)
    unfold gK
    by_cases hk : (k == NameKind.free) = true
    · rw [if_pos hk]
      obtain ⟨c, hc⟩ := h (n, k) List.mem_cons_self (by simpa using hk)
      refine sX r _ hr fun y d e => ?_
      rw [List.lookup_cons] at e
      cases q : y == n with
      | true =>
        rw [q] at e
        have e' : (cells.lookup n).getD 0 = d := Option.some.inj e
        have yn : y = n := by simpa using q
        subst yn
        have hc' : cells.lookup y = some c := hc
        rw [hc'] at e' ⊢
        exact congrArg some e'
      | false =>
        rw [q] at e
        exact ha y d e
    · rw [if_neg hk]
      exact sX r acc hr ha
theorem sQ : ∀ (names : List (Str × NameKind)) (acc : List (Str × Addr)) (y : Str), (∃ c, acc.lookup y = some c) → ∃ c, (gK cells names acc).lookup y = some c
  | [], _, _, h => h
  | (n, k) :: r, acc, y, h => by
    unfold gK
    split
    · refine sQ r _ y ?_
      rw [List.lookup_cons]
      cases q : y == n with
      | true => exact ⟨_, rfl⟩
      | false => exact h
    · exact sQ r acc y h
theorem sG : ∀ (names : List (Str × NameKind)) (acc : List (Str × Addr)) (y : Str), (y, NameKind.free) ∈ names → ∃ c, (gK cells names acc).lookup y = some c
  | (n, k) :: r, acc, y, h => by
    unfold gK
    rcases List.mem_cons.mp h with e | h
    · have e1 : y = n := congrArg Prod.fst e
      have e2 : NameKind.free = k := congrArg Prod.snd e
      subst e1
      subst e2
      rw [if_pos (by rfl)]
      refine sQ r _ y ?_
      rw [List.lookup_cons, beq_self_eq_true]
      exact ⟨_, rfl⟩
    · split
      · exact sG r _ y h
      · exact sG r _ y h
theorem vM {env : Env} {x : Str} : ∀ (names : List (Str × NameKind)),
    (names.map fun (n, k) => if (k == NameKind.free && env.scope.kind == .function && env.kindOf n == some .cell) then (n, NameKind.cell) else (n, k)).lookup x
      = (names.lookup x).map fun k => if (k == NameKind.free && env.scope.kind == .function && env.kindOf x == some .cell) = true then NameKind.cell else k
  | [] => rfl
  | (n, k) :: r => by
    have ih := vM (env := env) (x := x) r
    show List.lookup x ((if (k == NameKind.free && env.scope.kind == .function && env.kindOf n == some .cell) = true then (n, NameKind.cell) else (n, k)) :: _) = _
    rw [List.lookup_cons (a := x) (as := r)]
    cases hx : x == n with
    | true =>
      have e : x = n := by simpa using hx
      subst e
      by_cases hc : (k == NameKind.free && env.scope.kind == .function && env.kindOf x == some .cell) = true
      · rw [if_pos hc, List.lookup_cons, beq_self_eq_true]
        show some NameKind.cell = some (if _ then _ else _)
        rw [if_pos hc]
      · rw [if_neg hc, List.lookup_cons, beq_self_eq_true]
        show some k = some (if _ then _ else _)
        rw [if_neg hc]
    | false =>
      by_cases hc : (k == NameKind.free && env.scope.kind == .function && env.kindOf n == some .cell) = true
      · rw [if_pos hc, List.lookup_cons, hx]; exact ih
      · rw [if_neg hc, List.lookup_cons, hx]; exact ih
theorem af0 : ∀ {names : List (Str × NameKind)}, names.lookup x = some k → (x, k) ∈ names
  | (n, k') :: r, h => by
    rw [List.lookup_cons] at h
    cases hx : x == n with
    | true =>
      rw [hx] at h
      have e : x = n := by simpa using hx
      subst e
      cases h
      exact List.mem_cons_self
    | false =>
      rw [hx] at h
      exact List.mem_cons_of_mem _ (af0 h)
structure CScope (X : Cx) (ks : List Nat) (scope : Scope) : Prop where
  kind : scope.kind = .function
  cell : ∀ y ∈ scope.names, y.2 ≠ .cell
  names : ∀ y ∈ scope.names, y.2 = .local → scope.names.lookup y.1 = some .local
  freeB : (scope.names.all fun y => !(y.2 == NameKind.free) || (X.env.kindOf y.1 == some NameKind.cell || X.env.kindOf y.1 == some NameKind.free)) = true
  slotsB : (X.N.zipIdx.all fun p => !(scope.names.lookup p.1 == some NameKind.local) || ks.contains p.2) = true
theorem CScope.free(S:CScope X ks scope):∀y∈scope.names,y.2=.free->X.env.kindOf y.1=some .cell\/X.env.kindOf y.1=some .free:=λy hy hk=>by
 have h:=List.all_eq_true.mp S.freeB y hy
 rw[hk]at h
 simpa using h
theorem CScope.slots(S:CScope X ks scope):∀p∈X.N.zipIdx,scope.names.lookup p.1=some .local->p.2∈ks:=λp hp hk=>by
 have h:=List.all_eq_true.mp S.slotsB p hp
 rw[hk]at h
 simpa using h
def clr:List Nat->St->St
 |[],σ=>σ
 |k::ks,σ=>clr ks (σ.set k none)
theorem pY:∀(ks:List Nat)(σ:St),(clr ks σ).length=σ.length
 |[],_=>rfl
 |k::ks,σ=>by
  show(clr ks (σ.set k none)).length=_
  rw[pY ks,List.length_set]
theorem ah5:∀(ks:List Nat)(σ:St){i:Nat}{v:V},(clr ks σ)[i]?=some (some v)->σ[i]?=some (some v)/\i∉ks
 |[],_,_,_,h=>⟨h,List.not_mem_nil⟩
 |k::ks,σ,i,v,h=>by
  obtain⟨h1,h2⟩:=ah5 ks (σ.set k none) h
  by_cases e:i=k
  . subst e
    rw[List.getElem?_set_self']at h1
    cases q:σ[i]? with
    |none=>rw[q]at h1;cases h1
    |some o=>rw[q]at h1;cases h1
  . rw[List.getElem?_set_ne (Ne.symm e)]at h1
    exact⟨h1,λz=>(List.mem_cons.mp z).elim e h2⟩
def PIf(Y:Cx)(ifs:List Expr)(t:TT):Prop:=
 ∀⦃pins:List (Addr×Obj)⦄ (s:Shared)(σ:St)(H:Hp)(Q:Bool->Hp->Prop),Inv Y pins σ H s->t σ H Q->
  wpAny (model Y.prog Y.w) Y.A (forIn ifs true λc r=>if r=true then do let ok<-isTrue c Y.env (eval c Y.env);pure (ForInStep.yield ok)else pure (ForInStep.yield r)) (TP Y pins σ Q) Y.xe s
def dp2:TT:=λ_ H Q=>Q true H
theorem eZ:PIf Y [] dp2:=λ_ _ _ H _ I h=>wpAny_tests_nil ⟨H,I,h⟩
theorem qK(h:PT Y c t):PIf Y [c] t:=λpins s σ H Q I q=>wpAny_tests_one (h s σ H Q I q)
theorem bt7(I:Nat->Shared->Prop)
 (turn:∀n s,I n s->wpAny (model prog w) A (pyNext it) (λr s₁=>match r with
  |none=>R (.ok .next) s₁
  |some v=>wpAny (model prog w) A (letOwnedTupleGo target it v) (λ_ s₁'=>wpAny (model prog w) A (assign target env v) (λ_ s₂=>
   wpAny (model prog w) A (forIn ifs true λc r=>if r=true then do let ok<-isTrue c env (eval c env);pure (ForInStep.yield ok)else pure (ForInStep.yield r)) (λok s₃=>
    if ok=true then wpAny (model prog w) A (eval elt env) (λx s₄=>
     wpAny (model prog w) A (call (.builtin "list.append") [acc,x]) (λ_ s₅=>∃m,m<n/\I m s₅) (λ_ _=>False) s₄) (λ_ _=>False) s₃
    else∃m,m<n/\I m s₃) (λ_ _=>False) s₂) (λ_ _=>False) s₁') (λ_ _=>False) s₁) (λ_ _=>False) s)
 (n:Nat)(h:I n s):
 codeAny (model prog w) A (.compLoop (.ListComp elt [⟨target,iter,ifs,0⟩] scope pos) 0 it acc env) R s:=by
 refine codeAny_loop rfl I (λn s hI=>?_) n h
 show wpAny _ A ((compTurn (.ListComp elt [⟨target,iter,ifs,0⟩] scope pos) 0 it acc env).onRaise (λx=>do noteFrame x env;theTreesLotGoes x)) _ _ s
 refine wpAny_noted ?_
 rw[compTurn_list]
 refine wpAny_bind (wpAny_standAt (wpAny_bind (wpAny_mono (turn n s hI) (λr s₁ h₁=>?_) λ_ _ h'=>h'.elim)))
 cases r with
 |none=>exact wpAny_pure h₁
 |some v=>
  refine wpAny_bind (wpAny_mono h₁ (λ_ s₁' h₁'=>?_) λ_ _ h'=>h'.elim)
  refine wpAny_bind (wpAny_mono h₁' (λ_ s₂ h₂=>wpAny_bind (wpAny_mono h₂ (λok s₃ h₃=>?_) λ_ _ h'=>h'.elim)) λ_ _ h'=>h'.elim)
  cases ok with
  |false=>exact wpAny_pure ⟨rfl,h₃⟩
  |true=>
   exact wpAny_bind (wpAny_bind (wpAny_mono h₃ (λx s₄ h₄=>wpAny_bind (wpAny_mono h₄ (λ_ s₅ h₅=>wpAny_pure (wpAny_pure ⟨rfl,h₅⟩)) λ_ _ h'=>h'.elim)) λ_ _ h'=>h'.elim))
theorem Inv.track(I:Inv X pins σ H s)(hn:H D=none)(hl:X.s₀.heap.objs.size<=D)(hL:D≠X.env.locals)
 (hc:∀x c,X.env.cells.lookup x=some c->c≠D)(hp:∀p∈X.pn++pins,p.1≠D)(e:s.heap.get? D=some {cls:=.type "list",data:=.seq its.toArray n})(rv:Vals ys its)(hz:ys.length<=sizeLine):
 Inv X pins σ (upd H D (.lst ys)) s:=by
 have old:∀b o,X.s₀.heap.get? b=some o->b≠D:=λb o q z=>by
  subst z
  exact absurd (Nat.lt_of_lt_of_le (Heap.lt_size q) hl) (Nat.lt_irrefl _)
 have ne:∀b o,H b=some o->b≠D:=λb o q=>iM q hn
 refine⟨I.ok,I.os,I.bare,⟨I.base.keep,I.base.slot,λb o q n' hx=>?_,I.base.there,λb xs q=>?_,λb o u q=>?_,λb ps q=>?_⟩,I.loc,I.cell,?_,λx c q=>?_,λp q=>?_,λb u q=>?_,I.len⟩
 . rw[cK (old b o q)]
   exact I.base.free b o q n' hx
 . have z:=I.base.tups b xs q
   rw[cK (ne _ _ z)]
   exact z
 . have z:=I.base.frzs b o u q
   rw[cK (ne _ _ z)]
   exact z
 . obtain⟨more,z⟩:=I.base.tbls b ps q
   exact⟨more,by rw[cK (ne _ _ z)];exact z⟩
 . rw[cK (Ne.symm hL)]
   exact I.free
 . rw[cK (hc x c q)]
   exact I.freeC x c q
 . obtain⟨h1,h2,h3⟩:=I.pin p q
   exact⟨h1,by rw[cK (hp p q)];exact h2,h3⟩
 . by_cases hb:b=D
   . subst hb
     rw[eT]at q
     cases q
     exact⟨hz,its,n,rv,e⟩
   . rw[cK hb]at q
     exact(I.hok b u q).stay (λc v _ z=>z) (λc z=>by rw[cK (ne _ _ z)];exact z) λc xs z=>by rw[cK (ne _ _ z)];exact z
def Ext(ks:List Nat)(σ σ2:St):Prop:=σ2.length=σ.length/\∀(i:Nat)(v:V),(clr ks σ)[i]?=some (some v)->σ2[i]?=some (some v)
def CGo(ks:List Nat)(g:TG)(tc:TT)(te:TE)(σ:St)(F:Addr->Hp->Prop)(J:It)(H1:Hp):Prop:=
 ∃W:Nat->Nat->List V->Hp->Prop,(∃m,W 0 m [] H1)/\∀i m ys H,W i m ys H->
  (J.stop i H/\∀D,H D=none->F D (upd H D (.lst ys)))\/
  (J.go i H/\ys.length<sizeLine/\∃N:List V->Hp->Prop,(∀ys' H',N ys' H'->∃m',m'<m/\W (i+1) m' ys' H')/\∀x H',J.yld i H x H'->g x (clr ks σ) H' λσ2 H2=>Ext ks σ σ2/\tc σ2 H2 λb H3=>
   if b=true then te σ2 H3 λv H4=>N (ys++[v]) H4 else N ys H3)
def bf4(ks:List Nat)(wi:TI)(g:TG)(tc:TT)(te:TE):TE:=λσ H Q=>wi σ H (CGo ks g tc te σ λD H'=>Q (.ref D) H')
def aj0(k:Nat)(ks:List Nat)(wi:TI)(g:TG)(tc:TT)(te:TE):TS:=λD σ H=>wi σ H (CGo ks g tc te σ λa H'=>D.nx (σ.set k (some (.ref a))) H')
section
variable {X : Cx}
theorem bv3 {tg iter elt : Expr} {ifs : List Expr} {scope : Scope} {pos : Pos} {ks : List Nat} {g : TG} {tc : TT} {te : TE} {F : Addr → Hp → Prop} {RR : Value → Addr → Result → Shared → Prop} {E : Value → Shared → Prop}
    {pins : List (Addr × Obj)} {σ : St} {s2 : Shared} {itv : Value} (S : CScope X ks scope) (hc : X.calm = true)
    (hg : ∀ cl C s₀ H₀ ex, PG (mY X scope cl C s₀ H₀ ex) tg g) (hi : ∀ cl C s₀ H₀ ex, PIf (mY X scope cl C s₀ H₀ ex) ifs tc) (he : ∀ cl C s₀ H₀ ex, PE (mY X scope cl C s₀ H₀ ex) elt te)
    (h : PIE X pins σ tg (CGo ks g tc te σ F) itv s2)
    (hRR : ∀ D C s' H', Inv X pins σ H' s' → (∃ m, s'.heap.Ns C m) → qH X pins H' C → F D H' → RR (.ref D) C (.ok .next) s') :
    wpAny (model X.prog X.w) X.A (newList []) (fun acc s₃ => wpAny (model X.prog X.w) X.A (newFunctionEnv scope X.env.globals (gK X.env.cells scope.names []) [] X.env.qual none .none (some X.env)) (fun cenv s₄ =>
      codeAny (model X.prog X.w) X.A (.compStart (.ListComp elt [⟨tg, iter, ifs, 0⟩] scope pos) 0 itv acc { cenv with scope := relabel scope X.env }) (RR acc cenv.locals) s₄) E s₃) E s2 := by
  obtain ⟨it, fp, tn, J, H2, rfl, I2, T, st2, f2, W, ⟨m0, w0⟩, turn⟩ := h
  refine wpAny_newObj_type (wpAny_newFunctionEnv S.cell (by intro y hy; simp at hy) (fun h₁ hns₁ hsb₁ => ?_) S.kind)
  dsimp only at hns₁ hsb₁ ⊢
  have hD2 : s2.heap.get? s2.heap.objs.size = none := Heap.get?_none_of_le (Nat.le_refl _)
  have nD : H2 s2.heap.objs.size = none := I2.hok.fresh (Nat.le_refl _)
  have I3 : Inv X pins σ H2 { s2 with heap := s2.heap.push { cls := .type "list", dict := none, data := .seq ([] : List Value).toArray } } := I2.kept (t' := s2.toks) fun b o e => Heap.get?_push_of_some _ e
  have eD3 : (s2.heap.push { cls := .type "list", dict := none, data := .seq ([] : List Value).toArray }).get? s2.heap.objs.size = some { cls := .type "list", dict := none, data := .seq ([] : List Value).toArray } := Heap.get?_push_size _ rfl
  have hsz3 : (s2.heap.push { cls := .type "list", dict := none, data := .seq ([] : List Value).toArray }).objs.size = s2.heap.objs.size + 1 := Heap.size_push _ _
  have fD := I2.fpOk (b := s2.heap.objs.size) (Nat.le_refl _) nD
  have fplt : ∀ b ∈ fp, b < s2.heap.objs.size := fun b hb => by
    obtain ⟨o, e, _⟩ := T.obj _ _ st2 b hb
    exact Heap.lt_size e
  have hDfp : s2.heap.objs.size ∉ fp := fun z => Nat.lt_irrefl _ (fplt _ z)
  generalize hs3 : ({ s2 with heap := s2.heap.push { cls := .type "list", dict := none, data := .seq ([] : List Value).toArray } } : Shared) = s3 at I3
  generalize hDD : s2.heap.objs.size = D at *
  have s3h : s3.heap = s2.heap.push { cls := .type "list", dict := none, data := .seq ([] : List Value).toArray } := by rw [← hs3]
  rw [← s3h] at hns₁ hsb₁ eD3 hsz3
  have fC := I3.fpOk (H' := H2) (b := s3.heap.objs.size) (Nat.le_refl _) (I3.hok.fresh (Nat.le_refl _))
  have old : ∀ b o, s3.heap.get? b = some o → h₁.get? b = some o := fun b o e => hsb₁.extBut b o (Nat.ne_of_lt (Heap.lt_size e)) (Heap.get?_push_of_some _ e)
  generalize hCC : s3.heap.objs.size = C at *
  have hDltC : D < C := by rw [hsz3]; exact Nat.lt_succ_self _
  have hDC : D ≠ C := Nat.ne_of_lt hDltC
  have hclos := wI (env := X.env) (scope := scope) fun x hx hk => I2.ok.has x.1 (S.free x hx hk)
  have csound : ∀ y c, (gK X.env.cells scope.names []).lookup y = some c → X.env.cells.lookup y = some c :=
    sX scope.names [] (fun x hx hk => I2.ok.has x.1 (S.free x hx hk)) fun y c e => by cases e
  generalize hcl : gK X.env.cells scope.names [] = cl at *
  have kin : ∀ y, (compEnvC scope cl C X.env).kindOf y = (scope.names.lookup y).map fun k => if (k == NameKind.free && X.env.scope.kind == .function && X.env.kindOf y == some .cell) = true then NameKind.cell else k := fun y => vM scope.names
  have isFree : ∀ y, ((compEnvC scope cl C X.env).kindOf y = some .cell ∨ (compEnvC scope cl C X.env).kindOf y = some .free) → (y, NameKind.free) ∈ scope.names := fun y hy => by
    rw [kin y] at hy
    cases q : scope.names.lookup y with
    | none =>
      rw [q] at hy
      rcases hy with z | z <;> cases z
    | some k =>
      rw [q] at hy
      have hm := af0 q
      cases k with
      | free => exact hm
      | cell => exact absurd rfl (S.cell _ hm)
      | _ =>
        rcases hy with z | z
        · exact absurd (Option.some.inj z) (by simp)
        · exact absurd (Option.some.inj z) (by simp)
  have neFs : ∀ b, qH X pins H2 b → b ∉ vD X.stack := fun b f z => by
    rcases List.mem_cons.mp (I2.stkSub b z) with e | e
    · exact f.2.1 e
    · exact f.2.2.1 e
  have exs : ∀ b ∈ D :: fp, qH X pins H2 b := fun b hb => by
    rcases List.mem_cons.mp hb with e | e
    · rw [e]; exact fD
    · exact f2 b e
  have exlt : ∀ b ∈ D :: fp, b < C := fun b hb => by
    rcases List.mem_cons.mp hb with e | e
    · rw [e]; exact hDltC
    · exact Nat.lt_trans (fplt b e) hDltC
  have okY : (mY X scope cl C s3 H2 (D :: fp)).Ok :=
    { mod := I2.ok.mod, kind := S.kind, glob := I2.ok.glob, blt := I2.ok.blt, above := Nat.le_of_eq hCC
      inj := fun x y c h1 h2 => I2.ok.inj x y c (csound _ _ h1) (csound _ _ h2)
      has := fun y hy => by
        have z := sG (cells := X.env.cells) scope.names [] y (isFree y hy)
        rw [hcl] at z
        exact z
      cab := fun _ _ z => by cases z
      hd := I2.ok.hd, frames := I2.ok.frames, stk := .inl rfl
      exf := fun b hb => ⟨Nat.ne_of_lt (exlt b hb), fun x c e z => (exs b hb).2.2.2.2.1 x c (csound _ _ e) z⟩
      bs := I3.bs
      bsz := Nat.le_trans I2.ok.bsz I3.sz
      noex := fun b o e hb => by
        rcases (exs b hb).2.2.2.1 with z | z
        · exact I2.ok.noex b o e z
        · exact absurd (Nat.lt_of_lt_of_le (Heap.lt_size e) (Nat.le_trans I2.ok.bsz z)) (Nat.lt_irrefl _)
      exfs := fun b hb => neFs b (exs b hb)
      funs := I3.stack
      frf := I3.stkFree }
  have outP : ∀ p ∈ X.pn ++ pins, p.1 ≠ C ∧ p.1 ∉ vD X.stack ∧ p.1 ≠ D := fun p hp => by
    obtain ⟨e, n, ne, nf, d⟩ := I2.pin p hp
    have lt : p.1 < D := by rw [← hDD]; exact Heap.lt_size e
    refine ⟨Nat.ne_of_lt (Nat.lt_trans lt hDltC), fun z => ?_, Nat.ne_of_lt lt⟩
    rcases List.mem_cons.mp (I2.stkSub p.1 z) with q | q
    · exact ne q
    · exact nf q
  have I4 : Inv (mY X scope cl C s3 H2 (D :: fp)) (X.pn ++ pins) (clr ks σ) H2 { s3 with heap := h₁, toks := s3.toks + ([] : List (Str × Value)).length } := by
    refine ⟨okY, rfl, I3.bare, Un.kept old, ⟨_, hns₁, fun i x v e1 e2 e3 => ?_⟩, fun x c e => ?_, ?_, fun x c e => ?_, fun p hp => ?_, I3.hok.kept old, ?_⟩
    · obtain ⟨e2, nk⟩ := ah5 ks σ e2
      have hv : (compEnvC scope cl C X.env).kindOf x = some .cell ∨ (compEnvC scope cl C X.env).kindOf x = some .free := by
        rcases e3 with z | z | z
        · exfalso
          have z' : (compEnvC scope cl C X.env).kindOf x = some .local := z
          rw [kin x] at z'
          have hm : (x, i) ∈ X.N.zipIdx := by
            rw [List.mem_zipIdx_iff_getElem?]
            exact e1
          refine nk (S.slots (x, i) hm ?_)
          show scope.names.lookup x = some .local
          cases q : scope.names.lookup x with
          | none => rw [q] at z'; cases z'
          | some k =>
            rw [q] at z'
            have z2 := Option.some.inj z'
            cases k with
            | «local» => rfl
            | free =>
              exfalso
              dsimp only at z2
              split at z2 <;> cases z2
            | _ => exact absurd z2 (by simp)
        · exact .inl z
        · exact .inr z
      have hf := isFree x hv
      have hX := S.free (x, .free) hf rfl
      obtain ⟨m, hn, hl⟩ := I3.loc
      obtain ⟨u, r, lk⟩ := hl i x v e1 e2 (by rcases hX with z | z; exact .inr (.inl z); exact .inr (.inr z))
      refine ⟨u, r, .inr ⟨hv, ?_⟩⟩
      have z := sG (cells := X.env.cells) scope.names [] x hf
      rw [hcl] at z
      obtain ⟨c, hcx⟩ := z
      rcases lk with ⟨kl, _⟩ | ⟨_, c', e', z'⟩
      · have hX' : X.env.kindOf x = some .cell ∨ X.env.kindOf x = some .free := hX
        rw [kl] at hX'
        rcases hX' with z | z <;> cases z
      · have q := csound x c hcx
        rw [e'] at q
        cases q
        obtain ⟨o, ho, hd⟩ := z'
        exact ⟨c, hcx, o, old _ _ ho, hd⟩
    · obtain ⟨v, o, ho, hd⟩ := I3.cell x c (csound x c e)
      exact ⟨v, o, old _ _ ho, hd⟩
    · exact I3.hok.fresh (Nat.le_of_eq hCC)
    · exact I3.freeC x c (csound x c e)
    · have hp' : p ∈ X.pn ++ pins := hp
      obtain ⟨e, n, ne, nf, d⟩ := I3.pin p hp'
      exact ⟨old _ _ e, n, (outP p hp').1, (outP p hp').2.1, d⟩
    · rw [pY]
      exact I3.len
  have fpY : ∀ {pl : List (Addr × Obj)} {H' : Hp}, (∀ p ∈ pl, p.1 ∉ fp) → (∀ b ∈ fp, H' b = none) → ∀ b ∈ fp, qH (mY X scope cl C s3 H2 (D :: fp)) ((X.pn ++ pins) ++ pl) H' b := fun {pl H'} hpl hn b hb => by
    have f := f2 b hb
    refine ⟨hn b hb, Nat.ne_of_lt (exlt b (List.mem_cons_of_mem _ hb)), neFs b f, .inl (List.mem_cons_of_mem _ hb), fun x c e z => f.2.2.2.2.1 x c (csound x c e) z, fun p hp => ?_⟩
    have hp' : p ∈ (X.pn ++ pins) ++ pl := hp
    rcases List.mem_append.mp hp' with q | q
    · exact f.2.2.2.2.2 p q
    · exact fun z => hpl p q (by rw [z]; exact hb)
  have kE : ∀ s₅ : Shared, s₅ = { s3 with heap := h₁, toks := s3.toks + ([] : List (Str × Value)).length } →
      codeAny (model X.prog X.w) X.A (.compLoop (.ListComp elt [⟨tg, iter, ifs, 0⟩] scope pos) 0 (.ref it) (.ref D) (compEnvC scope cl C X.env)) (RR (.ref D) C) s₅ := by
    rintro s₅ rfl
    refine bt7 (fun n s' => ∃ i H' ys its nn, Inv (mY X scope cl C s3 H2 (D :: fp)) (X.pn ++ pins) (clr ks σ) H' s' ∧ tn i s'.heap ∧ (∀ b ∈ fp, H' b = none) ∧ H' D = none ∧ s'.heap.get? D = some { cls := .type "list", data := .seq its nn } ∧ Vals ys its.toList ∧ ys.length ≤ sizeLine ∧ W i n ys H') ?_ m0
      ⟨0, H2, [], #[], 0, I4, T.keep _ _ _ st2 (fun b hb o e => old _ _ (by rw [s3h]; exact Heap.get?_push_of_some _ e)), fun b hb => (f2 b hb).1, nD, old _ _ eD3, .nil, Nat.zero_le _, w0⟩
    rintro n s6 ⟨i, H6, ys, its, nn, I6, st6, fr6, nD6, eD6, rv6, hz6, w6⟩
    have I6' : Inv (mY X scope cl C s3 H2 (D :: fp)) ((X.pn ++ pins) ++ [(D, { cls := .type "list", data := .seq its nn })]) (clr ks σ) H6 s6 := I6.pins_of fun p hp => (List.mem_append.mp hp).elim (fun z => I6.pin p (List.mem_append_right _ z)) fun z => by
      obtain rfl := List.mem_singleton.mp z
      exact ⟨eD6, nD6, hDC, neFs D fD, fun v q => by cases q⟩
    have plD : ∀ p ∈ [((D, { cls := .type "list", data := .seq its nn }) : Addr × Obj)], p.1 ∉ fp := fun p hp => by
      obtain rfl := List.mem_singleton.mp hp
      exact hDfp
    rcases turn i n ys H6 w6 with ⟨stop, bU⟩ | ⟨go, hz, N, hN, step⟩
    · refine cD (T.done (mY X scope cl C s3 H2 (D :: fp)) rfl rfl rfl hc i _ s6 (clr ks σ) H6 _ I6' (fpY plD fr6) st6 stop) fun r s7 ⟨hr, I7⟩ => ?_
      subst hr
      have IX : Inv X pins σ H6 s7 := I3.call' (ch := D :: fp) I7.os I7.base I7.hok I7.bare fun b hb => ⟨(exs b hb).2.2.2.1, (exs b hb).2.1, (exs b hb).2.2.2.2.1, (exs b hb).2.2.2.2.2⟩
      have eD7 := (I7.pin (D, { cls := .type "list", data := .seq its nn }) (List.mem_append_right _ (List.mem_append_right _ (List.mem_singleton.mpr rfl)))).1
      have rv7 : Vals ys its.toList := rv6
      have IT : Inv X pins σ (upd H6 D (.lst ys)) s7 := IX.track (its := its.toList) (n := nn) nD6 (by
        have := I2.sz
        omega) fD.2.1 fD.2.2.2.2.1 fD.2.2.2.2.2 (by simpa using eD7) rv7 hz6
      obtain ⟨m7, hn7, _⟩ := I7.loc
      refine hRR D C s7 _ IT ⟨m7, hn7⟩ ⟨?_, fC.2⟩ (bU D nD6)
      rw [cK (Ne.symm hDC)]
      exact I7.free
    · refine cD (T.item (mY X scope cl C s3 H2 (D :: fp)) rfl rfl rfl hc i _ s6 (clr ks σ) H6 _ I6' (fpY plD fr6) st6 go) fun r s7 ⟨u, hr, h7⟩ => ?_
      subst hr
      refine cD h7 fun _ s8 ⟨x, H8, I8, r8, y8, st8, fr8⟩ => ?_
      have I8' := I8.pinned (fpY plD fr8) (T.obj _ _ st8)
      refine cD (hg cl C s3 H2 (D :: fp) s8 (clr ks σ) H8 x u _ I8' r8 (step x H8 y8)) fun _ s9 ⟨σ9, H9, I9, hE, q9⟩ => ?_
      refine cD (hi cl C s3 H2 (D :: fp) s9 σ9 H9 _ I9 q9) fun ok s10 ⟨H10, I10, q10⟩ => ?_
      have memD : (D, ({ cls := .type "list", data := .seq its nn } : Obj)) ∈ ([] : List (Addr × Obj)) ++ (((X.pn ++ pins) ++ [(D, { cls := .type "list", data := .seq its nn })]) ++ vK fp s8.heap) := List.mem_append_right _ (List.mem_append_left _ (List.mem_append_right _ (List.mem_singleton.mpr rfl)))
      have keepT : ∀ {σ' : St} {H' : Hp} {s' : Shared}, Inv (mY X scope cl C s3 H2 (D :: fp)) (((X.pn ++ pins) ++ [(D, { cls := .type "list", data := .seq its nn })]) ++ vK fp s8.heap) σ' H' s' → tn (i + 1) s'.heap ∧ (∀ b ∈ fp, H' b = none) := fun {σ' H' s'} I' =>
        ⟨T.keep _ _ _ st8 fun b hb o e => (I'.pin (b, o) (List.mem_append_right _ (List.mem_append_right _ (sH hb e)))).1, fun b hb => by
          obtain ⟨o, e, d⟩ := T.obj _ _ st8 b hb
          exact (I'.pin (b, o) (List.mem_append_right _ (List.mem_append_right _ (sH hb e)))).2.1⟩
      cases ok with
      | false =>
        obtain ⟨m', hm, w10⟩ := hN ys H10 q10
        obtain ⟨k1, k2⟩ := keepT I10
        obtain ⟨p1, p2, _⟩ := I10.pin _ memD
        exact ⟨m', hm, i + 1, H10, ys, its, nn, I10.unpinned.unpinned.weak (by rw [pY]; exact hE.1.symm) hE.2, k1, k2, p2, p1, rv6, hz6, w10⟩
      | true =>
        refine cD (he cl C s3 H2 (D :: fp) s10 σ9 H10 _ I10 q10) fun vv s11 ⟨v, H11, I11, r11, n11⟩ => ?_
        obtain ⟨m', hm, w11⟩ := hN _ _ n11
        obtain ⟨k1, k2⟩ := keepT I11
        obtain ⟨p1, p2, _⟩ := I11.pin _ memD
        have hlen : ys.length = its.size := by have := rv6.length; simpa using this
        refine call_meets PySem.F.slot_list_append ⟨_, p1, rfl⟩ PySem.F.entry_list_append (PySem.F.args_list_append_2 _ _) (PySem.list_append D its nn vv (by omega)) ⟨p1, ?_⟩
        have q := PySem.IsL.update p1 fun xs => xs.push vv
        refine ⟨m', hm, i + 1, H11, ys ++ [v], its.push vv, _, (I11.unpinned.unpinned.weak (by rw [pY]; exact hE.1.symm) hE.2).turned (fun b o hb e => (Heap.get?_update_other _ _ (Ne.symm hb)).trans e) p2 hDC (.inl List.mem_cons_self) (fun x c e z => fD.2.2.2.2.1 x c (csound x c e) z) (fun p hp => (outP p hp).2.2), ?_, k2, p2, q, ?_, ?_, w11⟩
        · refine T.keep _ _ _ k1 fun b hb o e => (Heap.get?_update_other _ _ ?_).trans e
          intro z
          exact hDfp (by rw [z]; exact hb)
        · have : (its.push vv).toList = its.toList ++ [vv] := by simp
          rw [this]
          exact rv6.append (.cons r11 .nil)
        · rw [List.length_append, List.length_singleton]
          omega
  have hCC' : (s2.heap.push { cls := .type "list", dict := none, data := .seq ([] : List Value).toArray }).objs.size = C := by rw [← s3h]; exact hCC
  rw [hCC']
  exact codeAny_compStart_list (kE _ (by rw [← hs3])) (T.self _ 0 _ _ _ (T.keep _ _ _ st2 (fun b hb o e => old _ _ (by rw [s3h]; exact Heap.get?_push_of_some _ e))) (kE _ (by rw [← hs3])))
theorem cq7(S:CScope X ks scope)(hc:X.calm=true)(hit:PI X tg iter wi)
 (hg:∀cl C s₀ H₀ ex,PG (mY X scope cl C s₀ H₀ ex) tg g)(hi:∀cl C s₀ H₀ ex,PIf (mY X scope cl C s₀ H₀ ex) ifs tc)(he:∀cl C s₀ H₀ ex,PE (mY X scope cl C s₀ H₀ ex) elt te)
 (hs:∀x,foldedSetIterable iter X.env x=pure x:=by intro _;rfl):PE X (.ListComp elt [⟨tg,iter,ifs,0⟩] scope pos) (bf4 ks wi g tc te):=by
 intro pins s σ H Q I h
 rw[eval_ListComp]
 refine wpAny_comprehension_free (use:=none) rfl hs (wI λx hx hk=>I.ok.has x.1 (S.free x hx hk)) S.kind S.names (cD (hit s σ H _ I h) λv s1 h1=>cD h1 λitv s2 h2=>?_)
 refine bv3 (RR:=λacc C=>compPost (model X.prog X.w) X.A X.xe none (EP X pins σ Q) acc C) S hc hg hi he h2 ?_
 rintro D C s' H' I' ⟨m,hn⟩ f q
 exact⟨m,hn,λh'' sb=>⟨.ref D,H',I'.turned (t':=s'.toks) (λb o hb e=>(sb.2 b hb).trans e) f.1 f.2.1 f.2.2.2.1 f.2.2.2.2.1 f.2.2.2.2.2,rfl,q⟩⟩
theorem bb6(hN:X.N.Nodup)(hi':X.N[i]?=some y)(hy:Loc X.env.scope y)
 (S:CScope X ks scope)(hc:X.calm=true)(hit:PI X tg iter wi)
 (hg:∀cl C s₀ H₀ ex,PG (mY X scope cl C s₀ H₀ ex) tg g)(hi:∀cl C s₀ H₀ ex,PIf (mY X scope cl C s₀ H₀ ex) ifs tc)(he:∀cl C s₀ H₀ ex,PE (mY X scope cl C s₀ H₀ ex) elt te)
 (hsw:swapsWith (.ListComp elt [⟨tg,iter,ifs,0⟩] scope pos) (some (.Name y py)) spos.line X.env=pure true:=by rfl)
 (hs:∀x,foldedSetIterable iter X.env x=pure x:=by intro _;rfl)(hf:X.fn y=true\/X.env.scope.names.lookup y=some .local:=by first|exact .inl rfl|exact .inr rfl|assumption):
 PS X (.Assign [.Name y py] (.ListComp elt [⟨tg,iter,ifs,0⟩] scope pos) spos) (aj0 i ks wi g tc te):=by
 intro pins s σ H D I h
 rw[exec_Assign_Name_used _ _ _ _ hsw]
 refine wpAny_bind (wpAny_standAt (wpAny_bind ?_))
 show wpAny _ X.A (do let _<-comprehension (.ListComp elt [⟨tg,iter,ifs,0⟩] scope pos) scope X.env _ (newList []) false (eval iter X.env) (some (assign (.Name y py) X.env))) _ _ s
 refine wpAny_bind (wpAny_mono (wpAny_comprehension_free (use:=some (assign (.Name y py) X.env)) (Q:=λ_ s'=>SP X pins D .next s') rfl hs (wI λx hx hk=>I.ok.has x.1 (S.free x hx hk)) S.kind S.names
  (cD (hit s σ H _ I h) λv s1 h1=>cD h1 λitv s2 h2=>?_)) (λ_ s' hq=>wpAny_pure (wpAny_pure hq)) λ_ _ e=>e)
 refine bv3 (RR:=λacc C=>compPost (model X.prog X.w) X.A X.xe (some (assign (.Name y py) X.env)) (λ_ s'=>SP X pins D .next s') acc C) S hc hg hi he h2 ?_
 rintro L C s' H' I' ⟨m,hn⟩ f q
 show wpAny _ _ (assign (.Name y py) X.env (.ref L)) _ _ s'
 refine wpAny_assign_Name (aw6 (v:=.ref L) I' hN hi' hy rfl (λs'' I'' hh=>?_) hf)
 obtain⟨a,sb,ha⟩:=hh
 have hCa:C≠a:=by
  rcases ha with e|e
  . rw[e];exact f.2.1
  . exact λz=>f.2.2.2.2.1 y a e z.symm
 exact⟨m,hn.sameBut sb hCa,λh'' sb'=>⟨_,H',I''.turned (t':=s''.toks) (λb o hb e=>(sb'.2 b hb).trans e) f.1 f.2.1 f.2.2.2.1 f.2.2.2.2.1 f.2.2.2.2.2,q⟩⟩
end
end L2
namespace L2
open PySem PySem.Spec PyProof.Rows
section
variable {X : Cx}
theorem bm8(hc:X.calm=true):CallR X (.builtin "max") (λxs H Q=>∃(p:Addr)(ns:List Int),xs=[.ref p]/\SqL X.K H p (ns.map V.int)/\ns≠[]/\∀M,M∈ns->(∀a∈ns,a<=M)->Q (.int M) H):=by
 intro pins s σ H xs us Q I r h
 obtain⟨p,ns,rfl,hp,hne,q⟩:=h
 obtain⟨u,rfl,ru⟩:=r.one
 obtain rfl:u=Value.ref p:=ru
 obtain⟨its,rv,pl,_⟩:=I.list hp
 have hi:IntsAre its ns:=an1 rv
 have hl:=pl.isList
 obtain⟨xs,e⟩:=hi.allInts.items
 have hns:ns=xs.toList.map (·.1):=by
  rw[<-hi.numsOf,<-nums_intItems,<-e]
 have hsz:0<xs.size:=by
  have h3:=List.length_pos_iff.mpr hne
  rw[hns,List.length_map,Array.length_toList]at h3
  exact h3
 rw[e]at hl
 refine max_intList (I.ok.hd hc) hl hsz λv h' tk hv hk=>?_
 obtain⟨t,rfl⟩:=intItems_at hv
 obtain⟨h1,h2⟩:=argBest_gt (numAt xs) (xs.size-1)
 refine⟨.int _,H,I.kept hk,⟨t,rfl⟩,q _ ?_ λa ha=>?_⟩
 . rw[hns,numAt_eq];exact getD_mem (by rw[List.length_map,Array.length_toList];omega)
 . rw[hns]at ha
   obtain⟨j,hj,rfl⟩:=mem_getD ha
   rw[List.length_map,Array.length_toList]at hj
   rw[<-numAt_eq];exact h2 j (by omega)
theorem bp6(hc:X.calm=true):CallR X (.builtin "min") (λxs H Q=>∃(p:Addr)(ns:List Int),xs=[.ref p]/\SqL X.K H p (ns.map V.int)/\ns≠[]/\∀M,M∈ns->(∀a∈ns,M<=a)->Q (.int M) H):=by
 intro pins s σ H xs us Q I r h
 obtain⟨p,ns,rfl,hp,hne,q⟩:=h
 obtain⟨u,rfl,ru⟩:=r.one
 obtain rfl:u=Value.ref p:=ru
 obtain⟨its,rv,pl,_⟩:=I.list hp
 have hi:IntsAre its ns:=an1 rv
 have hl:=pl.isList
 obtain⟨xs,e⟩:=hi.allInts.items
 have hns:ns=xs.toList.map (·.1):=by
  rw[<-hi.numsOf,<-nums_intItems,<-e]
 have hsz:0<xs.size:=by
  have h3:=List.length_pos_iff.mpr hne
  rw[hns,List.length_map,Array.length_toList]at h3
  exact h3
 rw[e]at hl
 refine min_intList (I.ok.hd hc) hl hsz λv h' tk hv hk=>?_
 obtain⟨t,rfl⟩:=intItems_at hv
 obtain⟨h1,h2⟩:=argBest_lt (numAt xs) (xs.size-1)
 refine⟨.int _,H,I.kept hk,⟨t,rfl⟩,q _ ?_ λa ha=>?_⟩
 . rw[hns,numAt_eq];exact getD_mem (by rw[List.length_map,Array.length_toList];omega)
 . rw[hns]at ha
   obtain⟨j,hj,rfl⟩:=mem_getD ha
   rw[List.length_map,Array.length_toList]at hj
   rw[<-numAt_eq];exact h2 j (by omega)
end
section
variable {X : Cx}
end
end L2
namespace L2
open PySem PySem.Spec PyProof.Rows
def Its(z:Str):It:=⟨λi _=>i<z.cps.size,λi H x H'=>H'=H/\∃c,z.cps[i]?=some c/\x=.str ⟨#[c]⟩,λi _=>z.cps.size<=i⟩
theorem bu6(hQ:Q () s):wpAny M A (letOwnedTupleGo tg (.ref it) (.str x t)) Q E s:=by
 unfold letOwnedTupleGo
 cases tg<;>exact wpAny_pure hQ
theorem bj4{P:Program}{w:World}{K:PySem.W.Frag}{tg:Expr}(it:Addr)(z:Str)(t:Tok):at0 P w K tg (Its z) [it] it (λi h=>h.IsStrIter it "str_ascii_iterator" z t i) where
 mem:=by simp
 obj:=λi h st b hb=>by
  have e:b=it:=by simpa using hb
  subst e
  obtain⟨o,e,c,d⟩:=st
  exact⟨o,e,λv q=>by rw[d]at q;cases q⟩
 keep:=λi h h' st k=>let⟨o,e,r⟩:=st;⟨o,k it (by simp) o e,r⟩
 item:=by
  intro X hP hw hK hc i pins s σ H E I hf st hg
  subst hP hw hK
  obtain⟨f0,f1,f2,f3,f4,f5⟩:=hf it (by simp)
  have hg':i<z.cps.size:=hg
  refine wpAny_pyNext_ascii_item st (c:=z.cps[i]) (by simp[hg']) λh' hit' hs'=>?_
  have I1:Inv X pins σ H {s with heap:=h',toks:=s.toks+1}:=I.turned (λb o hb e=>hs'.extBut b o hb e) f0 f1 f3 f4 f5
  exact⟨_,rfl,bu6 ⟨.str ⟨#[z.cps[i]]⟩,H,I1,⟨_,rfl⟩,⟨rfl,_,by simp[hg'],rfl⟩,hit',λb hb=>(hf b hb).1⟩⟩
 done:=by
  intro X hP hw hK hc i pins s σ H E I hf st hg
  subst hP hw hK
  obtain⟨f0,f1,f2,f3,f4,f5⟩:=hf it (by simp)
  have hg':z.cps.size<=i:=hg
  exact wpAny_pyNext_ascii_end (I.ok.hd hc) st (by simp[hg']) λh' he'=>⟨rfl,I.turned (t':=s.toks) (λb o hb e=>he' b o hb e) f0 f1 f3 f4 f5⟩
 self:=λ_ _ _ _ _ st h=>wpAny_pyIter_striter_ascii st h
theorem bt6{P:Program}{w:World}{K:PySem.W.Frag}{tg:Expr}(it:Addr)(z:Str)(t:Tok):at0 P w K tg (Its z) [it] it (λi h=>h.IsStrIter it "str_iterator" z t i) where
 mem:=by simp
 obj:=λi h st b hb=>by
  have e:b=it:=by simpa using hb
  subst e
  obtain⟨o,e,c,d⟩:=st
  exact⟨o,e,λv q=>by rw[d]at q;cases q⟩
 keep:=λi h h' st k=>let⟨o,e,r⟩:=st;⟨o,k it (by simp) o e,r⟩
 item:=by
  intro X hP hw hK hc i pins s σ H E I hf st hg
  subst hP hw hK
  obtain⟨f0,f1,f2,f3,f4,f5⟩:=hf it (by simp)
  have hg':i<z.cps.size:=hg
  refine wpAny_pyNext_wide_item st (c:=z.cps[i]) (by simp[hg']) λh' hit' hs'=>?_
  have I1:Inv X pins σ H {s with heap:=h',toks:=s.toks+1}:=I.turned (λb o hb e=>hs'.extBut b o hb e) f0 f1 f3 f4 f5
  exact⟨_,rfl,bu6 ⟨.str ⟨#[z.cps[i]]⟩,H,I1,⟨_,rfl⟩,⟨rfl,_,by simp[hg'],rfl⟩,hit',λb hb=>(hf b hb).1⟩⟩
 done:=by
  intro X hP hw hK hc i pins s σ H E I hf st hg
  subst hP hw hK
  obtain⟨f0,f1,f2,f3,f4,f5⟩:=hf it (by simp)
  have hg':z.cps.size<=i:=hg
  exact wpAny_pyNext_wide_end (I.ok.hd hc) st (by simp[hg']) λh' he'=>⟨rfl,I.turned (t':=s.toks) (λb o hb e=>he' b o hb e) f0 f1 f3 f4 f5⟩
 self:=λ_ _ _ _ _ st h=>wpAny_pyIter_striter_wide st h
section
variable {X : Cx}
def dl1:V->Option Int->Option Int->Hp->VK->Prop:=λx lo hi H Q=>∃z,x=.str z/\z.length<=sizeLine/\Q (.str (Txt.slice z lo hi)) H
theorem ds0:SlR X dl1:=by
 intro pins s σ H x v vl vu lo hi sl Q I rx hs pl pu h
 obtain⟨z,rfl,hz,q⟩:=h
 obtain⟨t,rfl⟩:=rx
 refine⟨"str",_,F.slot_str_getitem.lookup,typeIs_str s z t,?_⟩
 obtain⟨o,e,c,d⟩:=hs
 have go:∀(l u:Option (Int×Tok)),vl=partValue l->vu=partValue u->lo=l.map (·.1)->hi=u.map (·.1)->wpAny (model X.prog X.w) X.A (getItem (.str z t) (.ref sl)) (EP X pins σ Q) X.xe s:=by
  rintro l u rfl rfl rfl rfl
  refine wpAny_getItem_str_slice (l:=l) (u:=u) (st:=none) ⟨o,e,c,d⟩ rfl ?_
  unfold sliceMade
  unfold Txt.slice at q
  have e1:((((none:Option (Int×Tok)).map (·.1)).getD 1==1&&(slicePicked z l u none).length==z.length)=true)=(((1:Int)==1&&(Builtin.Str.strSliceIndices (l.map (·.1)) (u.map (·.1)) 1 z.length).length==z.length)=true):=rfl
  split
  . rename_i hh
    rw[if_pos (e1▸hh)]at q
    exact⟨.str z,H,I,⟨t,rfl⟩,q⟩
  . rename_i hh
    rw[if_neg (e1▸hh)]at q
    refine⟨Nat.le_trans (Nat.le_trans (List.length_filterMap_le _ _) (sliceIndices_le _ _ _)) hz,.str _,H,I.tok _,⟨_,rfl⟩,q⟩
 cases pl with
 |none=>
  cases pu with
  |none=>exact go none none rfl rfl rfl rfl
  |int j u=>exact go none (some (j,u)) rfl rfl rfl rfl
 |int i t'=>
  cases pu with
  |none=>exact go (some (i,t')) none rfl rfl rfl rfl
  |int j u=>exact go (some (i,t')) (some (j,u)) rfl rfl rfl rfl
theorem af7:∀{ys:List Str}{us:List Value},Vals (ys.map V.str) us->StrsAre us ys
 |[],_,.nil=>.nil
 |y::ys,_,.cons r t=>by
  obtain⟨k,rfl⟩:=r
  exact .cons _ _ (af7 t)
def bx4(K:PySem.W.Frag):V->List V->Hp->VK->Prop:=λx vs H Q=>∃(z:Str)(p:Addr)(ys:List Str),x=.str z/\vs=[.ref p]/\SqL K H p (ys.map V.str)/\(ys.map (·.length)).sum+ys.length*z.length<=16777216/\Q (.str (Txt.join z ys)) H
theorem ch9:MtR X "str.join" (bx4 X.K):=by
 intro pins s σ H x xs v us Q I rx rv h
 obtain⟨z,p,ys,rfl,rfl,hp,hz,q⟩:=h
 obtain⟨t,rfl⟩:=rx
 obtain⟨u,rfl,ru⟩:=rv.one
 obtain rfl:u=Value.ref p:=ru
 obtain⟨its,r,pl,_⟩:=I.list hp
 exact join_list pl.isList (by simpa using af7 r) hz λt' k=>⟨.str _,H,I.tok _,⟨_,rfl⟩,q⟩
end
end L2
namespace L2
open PySem PySem.Spec PyProof.Rows
section
variable {X : Cx}
def dw7:R2:=λx y H Q=>∃i j,x=.str i/\y=.str j/\i.length+j.length<=sizeLine/\Q (.str (i++j)) H
def da2(K:PySem.W.Frag):List V->Hp->VK->Prop:=λxs H Q=>∃x n,xs=[x]/\db2 K x H n/\Q (.int n) H
def do2:List V->Hp->VK->Prop:=λxs H Q=>∃i,xs=[.int i]/\Q (.int (if i<0 then -i else i)) H
def bl3:List V->Hp->VK->Prop:=λxs H Q=>∃i j,xs=[.int i,.int j]/\jU i j/\∀p,H p=none->Q (.ref p) (upd H p (.tup [.int (i/j),.int (i%j)]))
def dl9(K:PySem.W.Frag):List V->Hp->VK->Prop:=λxs H Q=>∃x T tx b,xs=[x,.ty T]/\TyN K H x tx/\gS tx T b/\Q (.bl b) H
def dq3(K:PySem.W.Frag):List V->Hp->VK->Prop:=λxs H Q=>∃(p:Addr)(bs:List Bool),xs=[.ref p]/\SqL K H p (bs.map V.bl)/\Q (.bl (bs.all id)) H
def dg2(K:PySem.W.Frag):List V->Hp->VK->Prop:=λxs H Q=>∃(p:Addr)(bs:List Bool),xs=[.ref p]/\SqL K H p (bs.map V.bl)/\Q (.bl (bs.any id)) H
def dt7:List V->Hp->VK->Prop:=λxs H Q=>∃i j,xs=[.int i,.int j]/\Q (.int (if j>i then j else i)) H
def dz6:List V->Hp->VK->Prop:=λxs H Q=>∃i j,xs=[.int i,.int j]/\Q (.int (if j<i then j else i)) H
def dd8(K:PySem.W.Frag):List V->Hp->VK->Prop:=λxs H Q=>∃(p:Addr)(ns:List Int),xs=[.ref p]/\SqL K H p (ns.map V.int)/\ns≠[]/\∀M,M∈ns->(∀a∈ns,a<=M)->Q (.int M) H
def dk8(K:PySem.W.Frag):List V->Hp->VK->Prop:=λxs H Q=>∃(p:Addr)(ns:List Int),xs=[.ref p]/\SqL K H p (ns.map V.int)/\ns≠[]/\∀M,M∈ns->(∀a∈ns,M<=a)->Q (.int M) H
def ce2(K:PySem.W.Frag):List V->Hp->VK->Prop:=λxs H Q=>dt7 xs H Q\/dd8 K xs H Q
def cz3(K:PySem.W.Frag):List V->Hp->VK->Prop:=λxs H Q=>dz6 xs H Q\/dk8 K xs H Q
theorem bz6(hc:X.calm=true:=by rfl):CallR X (.builtin "max") (ce2 X.K):=(bo8 hc).or (bm8 hc)
theorem bo6(hc:X.calm=true:=by rfl):CallR X (.builtin "min") (cz3 X.K):=(bz8 hc).or (bp6 hc)
theorem wF(hm:X.mg x=none)(hv:bootBuiltins x=some (.type ty))(hg:Gl X x:=by rfl)(hn:x≠"__name__":=by decide)(hd:(x==("__debug__":Str))=false:=by decide):PE X (.Name x pos) (tC (.ty ty)):=
 cr8 (v:=.ty ty) hg hm hv rfl hn hd
def mP(mg:Str->Option Value)(x:Str)(v:V):Prop:=∃u,mg x=some u/\RelV v u
theorem eU(h:mP X.mg x v)(hg:Gl X x:=by rfl)(hd:(x==("__debug__":Str))=false:=by decide):PE X (.Name x pos) (tC v):=by
 obtain⟨u,hm,r⟩:=h
 exact ca9 hg hm r hd
end
theorem dY:bootBuiltins "len"=some (.builtin "len"):=PySem.boot_len
theorem xF:bootBuiltins "abs"=some (.builtin "abs"):=by decide+kernel
theorem xR:bootBuiltins "divmod"=some (.builtin "divmod"):=by decide+kernel
theorem cQ:bootBuiltins "isinstance"=some (.builtin "isinstance"):=by decide+kernel
theorem tH:bootBuiltins "all"=some (.builtin "all"):=by decide+kernel
theorem ba7:bootBuiltins "any"=some (.builtin "any"):=by decide+kernel
theorem bg8:bootBuiltins "max"=some (.builtin "max"):=by decide+kernel
theorem vG:bootBuiltins "min"=some (.builtin "min"):=by decide+kernel
theorem bg9:bootBuiltins "int"=some (.type "int"):=by decide+kernel
theorem at4:bootBuiltins "bool"=some (.type "bool"):=by decide+kernel
theorem bp7:bootBuiltins "str"=some (.type "str"):=by decide+kernel
theorem mG:bootBuiltins "list"=some (.type "list"):=by decide+kernel
theorem cq2:bootBuiltins "tuple"=some (.type "tuple"):=by decide+kernel
section
variable {t u : TS} {D : ao0} {σ : St} {H : Hp} {te ta tb tc : TE} {g : TG} {i : Nat} {v : V} {Q : VK} {c : TT} {K : PySem.W.Frag} {r r' : R2}
end
end L2
namespace L2
open PySem PySem.Spec PyProof.Rows
structure fZ (K:PySem.W.Frag) (mg:Str->Option Value) (x:Str) (st:Stmt):Prop where
 ex:∃f fd,Fun K x x st f fd/\mg x=some (.ref f)
theorem cs9{K:PySem.W.Frag}{h:Heap}{mg:Str->Option Value}(X:K.In h)(G:h.Ns mainGlobals mg){x:Str}{st:Stmt}{f:Addr}{oc:Value}{od an:Option Addr}{osl:Array (Option Value)}{kV doc pm cdv ct:Value}
 (a:PySem.W.nsIn K mainGlobals x=some (some (.ref f)))(l:K.lookup f=some ⟨oc,od,.func (PySem.W.fnOf x x (jZ st) (dS st) (aM st) .none kV doc pm an cdv ct),osl⟩)
 (c:PySem.W.codeIn K cdv x=true)(k:PySem.W.keepIn K (.ref f)=true):fZ K mg x st:=⟨f,_,ad3 l c k,PySem.W.mg_of X G a⟩
theorem dv2{K:PySem.W.Frag}{h:Heap}{mg:Str->Option Value}(X:K.In h)(G:h.Ns mainGlobals mg){x:Str}{v:V}{u:Value}(a:PySem.W.nsIn K mainGlobals x=some (some u))(r:RelV v u):mP mg x v:=⟨u,PySem.W.mg_of X G a,r⟩
section
variable {P : Program} {w : World} {K : PySem.W.Frag} {mg : Str → Option Value} {base : Heap}
end
theorem cm6(h:Builtin.Int.intBits a<=n):a.natAbs<2^n:=by
 unfold Builtin.Int.intBits at h
 by_cases e:a=0
 . subst e
   exact Nat.two_pow_pos n
 . rw[if_neg (by simpa using e)]at h
   have h0:a.natAbs≠0:=by omega
   exact(Nat.log2_lt h0).mp (by omega)
theorem by3(h:a.natAbs<2^n):Builtin.Int.intBits a<=n:=by
 unfold Builtin.Int.intBits
 by_cases e:a=0
 . subst e
   exact Nat.zero_le _
 . rw[if_neg (by simpa using e)]
   have h0:a.natAbs≠0:=by omega
   have:=(Nat.log2_lt h0).mpr h
   omega
theorem bh4(h:Builtin.Int.intBits a+Builtin.Int.intBits b<=134217728):IntMulOk a b:=by
 have e:(2:Nat)^27=134217728:=by decide
 have h:Builtin.Int.intTooBig (Builtin.Int.intBits a+Builtin.Int.intBits b)=false:=by
  unfold Builtin.Int.intTooBig bitsLine
  exact decide_eq_false (by omega)
 unfold IntMulOk
 rw[h]
 simp
theorem cp6(h1:-(2^64)<b)(h2:b<2^64):IntMulOk a b:=IntMulOk.of_right (intBits_le_64 h1 h2)
theorem cf7(h1:-(2^64)<a)(h2:a<2^64):IntMulOk a b:=IntMulOk.of_left (intBits_le_64 h1 h2)
end L2
namespace L2
open PySem PySem.Spec PyProof.Rows
def SI(k:Bool)(h:Heap)(it l:Addr)(i:Nat):Prop:=∃o,h.get? it=some o/\o.cls=.type (cond k "tuple_iterator" "list_iterator")/\o.data=.fields #[.ref l,.int i 0]
def SQ(k:Bool)(h:Heap)(l:Addr)(us:Array Value):Prop:=∃o,h.get? l=some o/\o.cls=.type (cond k "tuple" "list")/\∃n,o.data=.seq us n
theorem SI.at(x:SI k h it l i)(e:∀o,h.get? it=some o->h'.get? it=some o):SI k h' it l i:=by
 obtain⟨o,ho,r⟩:=x
 exact⟨o,e o ho,r⟩
theorem SQ.at(x:SQ k h l us)(e:∀o,h.get? l=some o->h'.get? l=some o):SQ k h' l us:=by
 obtain⟨o,ho,r⟩:=x
 exact⟨o,e o ho,r⟩
section
variable {prog : Program} {w : World} {A : Around} {E : Value → Shared → Prop} {s : Shared}
theorem xD(hit:SI k s.heap it l i)(hl:SQ k s.heap l us)(hx:us[i]?=some x)
 (hQ:∀h',SI k h' it l (i+1)->Heap.SameBut it s.heap h'->Q x {s with heap:=h'}):wpAny (model prog w) A (Builtin.SmallTypes.nextOf (.ref it)) Q E s:=by
 cases k with
 |false=>exact wpAny_nextOf_list_item hit hl hx hQ
 |true=>
  obtain⟨o,ho,hc,hd⟩:=hit
  obtain⟨ol,hol,_,nl,hdl⟩:=hl
  have hT:s.TypeIs (.ref it) "tuple_iterator":=⟨o,ho,hc⟩
  unfold Builtin.SmallTypes.nextOf
  refine wpAny_bind (wpAny_callSpecial?_slot (name:=Str.ofString "__next__") hT F.slot_tuple_iterator_next (wpAny_call_entry F.slot_tuple_iterator_next hT F.entry_tuple_iterator_next ?_ (F.args_tuple_iterator_next_1 _)))
  (show wpAny _ _ (field (.ref it) 0>>=_) _ _ s);refine wpAny_bind (wpAny_field ho hd (x:=.ref l) rfl ?_)
  (show wpAny _ _ (if(Value.ref l==Value.none)=true then _ else _) _ _ s);rw[if_neg (show¬((Value.ref l==Value.none)=true) from Bool.false_ne_true)]
  (show wpAny _ _ (field (.ref it) 1>>=_) _ _ s);refine wpAny_bind (wpAny_field ho hd (x:=.int i 0) rfl ?_)
  (show wpAny _ _ (seqItems? (.ref l)>>=_) _ _ s);refine wpAny_bind (wpAny_seqItems hol hdl ?_)
  simp only[Int.toNat_natCast,hx];refine wpAny_bind (wpAny_setField ho hd (by simp) (wpAny_pure ⟨x,rfl,wpAny_pure (hQ _ ?_ (Heap.SameBut.update ..))⟩))
  refine⟨_,Heap.get?_update_self _ ho (Obj.isFreed_of_fields (Obj.data_mapFields hd _)),(Obj.cls_mapFields ..).trans hc,?_⟩
  rw[Obj.data_mapFields hd];simp[rawInt]
theorem be1(hh:A.handled=none)(hit:SI k s.heap it l i)(hl:SQ k s.heap l us)(hx:us[i]?=none)
 (hE:∀h' e,Heap.ExtBut it s.heap h'->(∃o,h'.get? e=some o/\o.cls=.type "StopIteration")->E (.ref e) {s with heap:=h'}):wpAny (model prog w) A (Builtin.SmallTypes.nextOf (.ref it)) Q E s:=by
 cases k with
 |false=>exact wpAny_nextOf_list_end hh hit hl hx hE
 |true=>
  obtain⟨o,ho,hc,hd⟩:=hit
  obtain⟨ol,hol,_,nl,hdl⟩:=hl
  have hT:s.TypeIs (.ref it) "tuple_iterator":=⟨o,ho,hc⟩
  unfold Builtin.SmallTypes.nextOf
  refine wpAny_bind (wpAny_callSpecial?_slot (name:=Str.ofString "__next__") hT F.slot_tuple_iterator_next (wpAny_call_entry F.slot_tuple_iterator_next hT F.entry_tuple_iterator_next ?_ (F.args_tuple_iterator_next_1 _)))
  (show wpAny _ _ (field (.ref it) 0>>=_) _ _ s);refine wpAny_bind (wpAny_field ho hd (x:=.ref l) rfl ?_)
  (show wpAny _ _ (if(Value.ref l==Value.none)=true then _ else _) _ _ s);rw[if_neg (show¬((Value.ref l==Value.none)=true) from Bool.false_ne_true)]
  (show wpAny _ _ (field (.ref it) 1>>=_) _ _ s);refine wpAny_bind (wpAny_field ho hd (x:=.int i 0) rfl ?_)
  (show wpAny _ _ (seqItems? (.ref l)>>=_) _ _ s);refine wpAny_bind (wpAny_seqItems hol hdl ?_)
  simp only[Int.toNat_natCast,hx];refine wpAny_bind (wpAny_rule (wpAny_bind (wpAny_setField ho hd (by simp) ?_)))
  (show wpAny _ _ (newExc (.type "StopIteration") []>>=_) _ _ _);refine wpAny_bind ?_;simp only[newExc,newTuple]
  refine wpAny_bind (wpAny_newObj_type ?_ (by size_fits));refine wpAny_bind (m:=firstArgMember _ _) (wpAny_of_eq (a:=Value.none) (by first|rfl|(simp only[firstArgMember];rfl)) ?_)
  refine wpAny_newObj_type ?_ (by size_fits);simp only[raiseNew];refine wpAny_bind (wpAny_handled ?_)
  first|rw[show A.in1.handled=none from hh]|rw[hh]
  refine wpAny_bind (wpAny_pure (wpAny_throw ?_));exact hE _ _ (((Heap.SameBut.update ..).extBut.push _).push _) ⟨_,Heap.get?_push_size _ rfl,rfl⟩
theorem ba1(hl:SQ k s.heap l us)
 (hQ:Q (.ref s.heap.objs.size) {s with heap:=s.heap.push {cls:=.type (cond k "tuple_iterator" "list_iterator"),data:=.fields #[.ref l,.int 0 0]}}):wpAny (model prog w) A (pyIter (.ref l)) Q E s:=by
 cases k with
 |false=>exact wpAny_pyIter_list hl hQ
 |true=>exact wpAny_pyIter_tuple hl hQ
theorem cd3{k1 k2:Bool}{z TI TO i1 i2 l1 l2:Addr}{i:Nat}{us vs:Array Value}{x y a b:Value}{Q:Option Value->Shared->Prop}(D:ZipApart z TI TO i1 i2 l1 l2)
 (hz:IsZip s.heap z TI TO .none)(hTI:IsPair s.heap TI (.ref i1) (.ref i2))(hTO:IsPair s.heap TO a b)(n1:SI k1 s.heap i1 l1 i)(n2:SI k2 s.heap i2 l2 i)(q1:SQ k1 s.heap l1 us)(q2:SQ k2 s.heap l2 vs)(hx:us[i]?=some x)(hy:vs[i]?=some y)
 (hQ:∀h',IsZip h' z TI TO (rawInt s.heap.objs.size)->IsPair h' TO x y->SI k1 h' i1 l1 (i+1)->SI k2 h' i2 l2 (i+1)->IsPair h' s.heap.objs.size x y->
  (∀c o,c≠z->c≠TO->c≠i1->c≠i2->s.heap.get? c=some o->h'.get? c=some o)->Q (some (.ref s.heap.objs.size)) {s with heap:=h'}):
 wpAny (model prog w) A (pyNext (.ref z)) Q E s:=by
 have hT:s.TypeIs (.ref z) "zip":=⟨_,hz,rfl⟩
 unfold pyNext
 refine wpAny_bind (wpAny_attempt (wpAny_callSpecial?_slot (name:=Str.ofString "__next__") hT F.slot_zip_next (wpAny_call_entry F.slot_zip_next hT F.entry_zip_next ?_ (F.args_zip_next_1 _))))
 (show wpAny _ _ (field (.ref z) 2>>=_) _ _ _);refine wpAny_bind (wpAny_field hz rfl (x:=.bool false) rfl ?_)
 (show wpAny _ _ (field (.ref z) 3>>=_) _ _ _);refine wpAny_bind (wpAny_field hz rfl (x:=.ref TI) rfl ?_)
 refine wpAny_bind (wpAny_seqItems hTI rfl ?_);(show wpAny _ _ (Builtin.SmallTypes.ownedTupleIsFree (.ref z)>>=_) _ _ _)
 refine wpAny_bind ?_;unfold Builtin.SmallTypes.ownedTupleIsFree
 refine wpAny_bind (wpAny_field hz rfl (x:=.none) rfl (wpAny_pure ?_));simp only[if_true]
 refine wpAny_bind (wpAny_rule ?_);refine wpAny_bind (wpAny_field hz rfl (x:=.ref TO) rfl ?_)
 refine wpAny_bind (wpAny_setField_rec hz (by simp) λh₁ hz₁ g1=>?_)
 replace hz₁:IsZip h₁ z TI TO .ellipsis:=hz₁
 refine wpAny_bind ?_;simp only[List.zipIdx_cons,List.zipIdx_nil,List.forIn_cons,List.forIn_nil]
 refine wpAny_bind (wpAny_bind (wpAny_onRaise ?_));(show wpAny _ _ (Builtin.SmallTypes.nextOf (.ref i1)>>=_) _ _ _)
 refine wpAny_bind (xD (n1.at λo e=>g1.extBut _ _ D.i1z e) (q1.at λo e=>g1.extBut _ _ D.l1z e) hx λh₂ n1' g2=>wpAny_pure ?_)
 have t2:IsPair h₂ TO a b:=g2.extBut _ _ D.TOi1 (g1.extBut _ _ D.TOz hTO)
 refine wpAny_bind (wpAny_seqItems t2 rfl ?_);refine wpAny_bind (wpAny_updateSeq_pair t2 λh₃ t3 g3=>?_)
 replace t3:IsPair h₃ TO x b:=t3
 refine wpAny_bind (wpAny_letGo (wpAny_pure ?_));refine wpAny_bind (wpAny_bind (wpAny_onRaise ?_));(show wpAny _ _ (Builtin.SmallTypes.nextOf (.ref i2)>>=_) _ _ _)
 refine wpAny_bind (xD (n2.at λo e=>g3.extBut _ _ D.TOi2.symm (g2.extBut _ _ D.i12.symm (g1.extBut _ _ D.i2z e))) (q2.at λo e=>g3.extBut _ _ D.l2TO (g2.extBut _ _ D.l2i1 (g1.extBut _ _ D.l2z e))) hy λh₄ n2' g4=>wpAny_pure ?_)
 have t4:IsPair h₄ TO x b:=g4.extBut _ _ D.TOi2 t3
 refine wpAny_bind (wpAny_seqItems t4 rfl ?_);refine wpAny_bind (wpAny_updateSeq_pair t4 λh₅ t5 g5=>?_)
 replace t5:IsPair h₅ TO x y:=t5
 refine wpAny_bind (wpAny_letGo (wpAny_pure (wpAny_pure ?_)));refine wpAny_bind (wpAny_seqItems t5 rfl ?_);refine wpAny_bind (wpAny_newTuple ?_)
 have hsz:h₅.objs.size=s.heap.objs.size:=by rw[g5.1,g4.1,g3.1,g2.1,g1.1]
 have z5:IsZip h₅ z TI TO .ellipsis:=g5.extBut _ _ D.TOz.symm (g4.extBut _ _ D.i2z.symm (g3.extBut _ _ D.TOz.symm (g2.extBut _ _ D.i1z.symm hz₁)))
 have m1:SI k1 h₅ i1 l1 (i+1):=n1'.at λo e=>g5.extBut _ _ D.TOi1.symm (g4.extBut _ _ D.i12 (g3.extBut _ _ D.TOi1.symm e))
 have m2:SI k2 h₅ i2 l2 (i+1):=n2'.at λo e=>g5.extBut _ _ D.TOi2.symm e
 have zlt:z<h₅.objs.size:=Heap.lt_size z5
 (show wpAny _ _ (Builtin.SmallTypes.ownedTupleHandOut (.ref z) (.ref h₅.objs.size)>>=_) _ _ _);refine wpAny_bind ?_;unfold Builtin.SmallTypes.ownedTupleHandOut
 have z6:IsZip (h₅.push {cls:=.type "tuple",data:=.seq #[x,y]}) z TI TO .ellipsis:=Heap.get?_push_of_some _ z5
 refine wpAny_bind (wpAny_setField_rec z6 (by simp) λh₇ z7 g7=>?_)
 replace z7:IsZip h₇ z TI TO (rawInt h₅.objs.size):=z7
 refine wpAny_setField_rec z7 (by simp) λh₈ z8 g8=>?_
 replace z8:IsZip h₈ z TI TO (rawInt h₅.objs.size):=z8
 have up:∀c o,c≠z->h₅.get? c=some o->h₈.get? c=some o:=λc o c1 e=>g8.extBut _ _ c1 (g7.extBut _ _ c1 (Heap.get?_push_of_some _ e))
 have t8:IsPair h₈ h₅.objs.size x y:=g8.extBut _ _ (Nat.ne_of_gt zlt) (g7.extBut _ _ (Nat.ne_of_gt zlt) (Heap.get?_push_size _ rfl))
 rw[hsz]at z8 t8
 refine wpAny_pure ⟨_,rfl,?_⟩
 (show wpAny _ _ _ _ _ _);refine wpAny_pure ?_
 show Q (some (.ref h₅.objs.size)) _
 rw[hsz]
 refine hQ h₈ z8 (up _ _ D.TOz t5) (m1.at λo e=>up _ o D.i1z e) (m2.at λo e=>up _ o D.i2z e) t8 λc o c1 c2 c3 c4 e=>up c o c1 ?_
 exact g5.extBut _ _ c2 (g4.extBut _ _ c4 (g3.extBut _ _ c2 (g2.extBut _ _ c3 (g1.extBut _ _ c1 e))))
theorem ch2{k1 k2:Bool}{z TI TO i1 i2 l1 l2:Addr}{i:Nat}{us vs:Array Value}{a b:Value}{Q:Option Value->Shared->Prop}(hh:A.handled=none)(D:ZipApart z TI TO i1 i2 l1 l2)
 (hz:IsZip s.heap z TI TO .none)(hTI:IsPair s.heap TI (.ref i1) (.ref i2))(hTO:IsPair s.heap TO a b)(n1:SI k1 s.heap i1 l1 i)(n2:SI k2 s.heap i2 l2 i)(q1:SQ k1 s.heap l1 us)(q2:SQ k2 s.heap l2 vs)(hend:us[i]?=none\/vs[i]?=none)
 (hQ:∀h',(∀c o,c≠z->c≠TO->c≠i1->c≠i2->s.heap.get? c=some o->h'.get? c=some o)->Q none {s with heap:=h'}):
 wpAny (model prog w) A (pyNext (.ref z)) Q E s:=by
 have hT:s.TypeIs (.ref z) "zip":=⟨_,hz,rfl⟩
 unfold pyNext
 have bU:∀h' e,(∀c o,c≠z->c≠TO->c≠i1->c≠i2->s.heap.get? c=some o->h'.get? c=some o)->(∃o,h'.get? e=some o/\o.cls=.type "StopIteration")->
  wpAny (model prog w) A (do if(<-isInstance (.ref e) (.type "StopIteration"))=true then pure none else throw (.ref e)) Q E {s with heap:=h'}:=λh' e hk ⟨o,ho,hc⟩=>
  wpAny_bind (wpAny_isInstance (T:="StopIteration") (b:=true) ⟨o,ho,hc⟩ isSubtype_stop (wpAny_pure (hQ _ hk)))
 refine wpAny_bind (wpAny_attempt (wpAny_callSpecial?_slot (name:=Str.ofString "__next__") hT F.slot_zip_next (wpAny_call_entry F.slot_zip_next hT F.entry_zip_next ?_ (F.args_zip_next_1 _))))
 (show wpAny _ _ (field (.ref z) 2>>=_) _ _ _);refine wpAny_bind (wpAny_field hz rfl (x:=.bool false) rfl ?_)
 (show wpAny _ _ (field (.ref z) 3>>=_) _ _ _);refine wpAny_bind (wpAny_field hz rfl (x:=.ref TI) rfl ?_)
 refine wpAny_bind (wpAny_seqItems hTI rfl ?_);(show wpAny _ _ (Builtin.SmallTypes.ownedTupleIsFree (.ref z)>>=_) _ _ _)
 refine wpAny_bind ?_;unfold Builtin.SmallTypes.ownedTupleIsFree
 refine wpAny_bind (wpAny_field hz rfl (x:=.none) rfl (wpAny_pure ?_));simp only[if_true]
 refine wpAny_bind (wpAny_rule ?_);refine wpAny_bind (wpAny_field hz rfl (x:=.ref TO) rfl ?_)
 refine wpAny_bind (wpAny_setField_rec hz (by simp) λh₁ hz₁ g1=>?_)
 replace hz₁:IsZip h₁ z TI TO .ellipsis:=hz₁
 refine wpAny_bind ?_;simp only[List.zipIdx_cons,List.zipIdx_nil,List.forIn_cons,List.forIn_nil]
 refine wpAny_bind (wpAny_bind (wpAny_onRaise ?_));(show wpAny _ _ (Builtin.SmallTypes.nextOf (.ref i1)>>=_) _ _ _)
 have p1:SI k1 h₁ i1 l1 i:=n1.at λo e=>g1.extBut _ _ D.i1z e
 have p2:SQ k1 h₁ l1 us:=q1.at λo e=>g1.extBut _ _ D.l1z e
 cases hx:us[i]? with
 |none=>
  refine wpAny_bind (be1 hh p1 p2 hx λh₂ e g2 he=>?_)
  obtain⟨oe,hoe,hce⟩:=he
  have z2:IsZip h₂ z TI TO .ellipsis:=g2 _ _ D.i1z.symm hz₁
  have hez:e≠z:=λq=>by subst q;rw[z2]at hoe;cases hoe;simp at hce
  refine wpAny_setField_rec z2 (by simp) λh₃ _ g3=>?_
  exact bU h₃ e (λc o c1 _ c3 _ q=>g3.extBut _ _ c1 (g2 _ _ c3 (g1.extBut _ _ c1 q))) ⟨oe,g3.extBut _ _ hez hoe,hce⟩
 |some x=>
  have hy:vs[i]?=none:=by
   rcases hend with h|h
   . rw[hx]at h;cases h
   . exact h
  refine wpAny_bind (xD p1 p2 hx λh₂ n1' g2=>wpAny_pure ?_)
  have t2:IsPair h₂ TO a b:=g2.extBut _ _ D.TOi1 (g1.extBut _ _ D.TOz hTO)
  refine wpAny_bind (wpAny_seqItems t2 rfl ?_);refine wpAny_bind (wpAny_updateSeq_pair t2 λh₃ t3 g3=>?_)
  refine wpAny_bind (wpAny_letGo (wpAny_pure ?_));refine wpAny_bind (wpAny_bind (wpAny_onRaise ?_));(show wpAny _ _ (Builtin.SmallTypes.nextOf (.ref i2)>>=_) _ _ _)
  refine wpAny_bind (be1 hh (n2.at λo e=>g3.extBut _ _ D.TOi2.symm (g2.extBut _ _ D.i12.symm (g1.extBut _ _ D.i2z e))) (q2.at λo e=>g3.extBut _ _ D.l2TO (g2.extBut _ _ D.l2i1 (g1.extBut _ _ D.l2z e))) hy λh₄ e g4 he=>?_)
  obtain⟨oe,hoe,hce⟩:=he
  have z4:IsZip h₄ z TI TO .ellipsis:=g4 _ _ D.i2z.symm (g3.extBut _ _ D.TOz.symm (g2.extBut _ _ D.i1z.symm hz₁))
  have hez:e≠z:=λq=>by subst q;rw[z4]at hoe;cases hoe;simp at hce
  refine wpAny_setField_rec z4 (by simp) λh₅ _ g5=>?_
  exact bU h₅ e (λc o c1 c2 c3 c4 q=>g5.extBut _ _ c1 (g4 _ _ c4 (g3.extBut _ _ c2 (g2.extBut _ _ c3 (g1.extBut _ _ c1 q))))) ⟨oe,g5.extBut _ _ hez hoe,hce⟩
end
abbrev itO(k:Bool)(l:Addr):Obj:={cls:=.type (cond k "tuple_iterator" "list_iterator"),data:=.fields #[.ref l,.int 0 0]}
abbrev zA(k1:Bool)(h:Heap)(l1:Addr):Heap:=h.push (itO k1 l1)
abbrev zB(k1 k2:Bool)(h:Heap)(l1 l2:Addr):Heap:=(zA k1 h l1).push (itO k2 l2)
abbrev zC(k1 k2:Bool)(h:Heap)(l1 l2:Addr):Heap:=(zB k1 k2 h l1 l2).push {cls:=.type "tuple",data:=.seq #[.ref h.objs.size,.ref (zA k1 h l1).objs.size]}
abbrev zD(k1 k2:Bool)(h:Heap)(l1 l2:Addr):Heap:=(zC k1 k2 h l1 l2).push {cls:=.type "tuple",data:=.seq #[.none,.none]}
abbrev zE(k1 k2:Bool)(h:Heap)(l1 l2:Addr):Heap:=(zD k1 k2 h l1 l2).push {cls:=.type "zip",data:=.fields #[.none,.bool false,.bool false,.ref (zB k1 k2 h l1 l2).objs.size,.ref (zC k1 k2 h l1 l2).objs.size]}
theorem cg6(k1 k2:Bool)(l1 l2:Addr)(us vs:Array Value):
 Meets (Builtin.«zip.__new__» ⟨[.type "zip",.ref l1,.ref l2],[]⟩) (λ_ R s=>SQ k1 s.heap l1 us/\SQ k2 s.heap l2 vs/\R (.ok (.ret (.ref (zD k1 k2 s.heap l1 l2).objs.size))) {s with heap:=zE k1 k2 s.heap l1 l2}):=
 .of_wp λprog w A R s h=>by
  obtain⟨hp,g,d,tk,os⟩:=s
  obtain⟨hl1,hl2,h⟩:=h
  have hsub:=sub_zip
  have a1:SQ k1 (Shared.heap ⟨hp,g,d,tk,os⟩) l1 us:=hl1
  have a2:SQ k2 (Shared.heap ⟨hp.push (itO k1 l1),g,d,tk,os⟩) l2 vs:=SQ.at hl2 λo e=>Heap.get?_push_of_some _ e
  wp_walk using ba1 a1,ba1 a2
  exact⟨_,rfl,h⟩
section
variable {prog : Program} {w : World} {A : Around} {E : Value → Shared → Prop} {s : Shared}
theorem cc2(hl1:SQ k1 s.heap l1 us)(hl2:SQ k2 s.heap l2 vs)
 (h:∀h',IsZip h' (s.heap.objs.size+4) (s.heap.objs.size+2) (s.heap.objs.size+3) .none->IsPair h' (s.heap.objs.size+2) (.ref s.heap.objs.size) (.ref (s.heap.objs.size+1))->IsPair h' (s.heap.objs.size+3) .none .none->
  SI k1 h' s.heap.objs.size l1 0->SI k2 h' (s.heap.objs.size+1) l2 0->(∀c o,s.heap.get? c=some o->h'.get? c=some o)->Q (.ref (s.heap.objs.size+4)) {s with heap:=h'}):
 wpAny (model prog w) A (call (.type "zip") [.ref l1,.ref l2]) Q E s:=by
 refine callType_new F.called_zip (by decide) (F.typeCall_zip_2 _ _) (F.newCall_zip_2 _ _) (λobj=>F.args_object_init_3 obj _ _) F.entry_zip_new (cg6 k1 k2 l1 l2 us vs) ⟨hl1,hl2,?_⟩
 have z1:(zA k1 s.heap l1).objs.size=s.heap.objs.size+1:=Heap.size_push ..
 have z2:(zB k1 k2 s.heap l1 l2).objs.size=s.heap.objs.size+2:=(Heap.size_push ..).trans (by rw[z1])
 have z3:(zC k1 k2 s.heap l1 l2).objs.size=s.heap.objs.size+3:=(Heap.size_push ..).trans (by rw[z2])
 have z4:(zD k1 k2 s.heap l1 l2).objs.size=s.heap.objs.size+4:=(Heap.size_push ..).trans (by rw[z3])
 have u1:∀c o,(zA k1 s.heap l1).get? c=some o->(zE k1 k2 s.heap l1 l2).get? c=some o:=λc o e=>Heap.get?_push_of_some _ (Heap.get?_push_of_some _ (Heap.get?_push_of_some _ (Heap.get?_push_of_some _ e)))
 have u2:∀c o,(zB k1 k2 s.heap l1 l2).get? c=some o->(zE k1 k2 s.heap l1 l2).get? c=some o:=λc o e=>Heap.get?_push_of_some _ (Heap.get?_push_of_some _ (Heap.get?_push_of_some _ e))
 have g5:(zE k1 k2 s.heap l1 l2).get? (zD k1 k2 s.heap l1 l2).objs.size=some _:=Heap.get?_push_size _ rfl
 have g4:(zE k1 k2 s.heap l1 l2).get? (zC k1 k2 s.heap l1 l2).objs.size=some _:=Heap.get?_push_of_some _ (Heap.get?_push_size _ rfl)
 have g3:(zE k1 k2 s.heap l1 l2).get? (zB k1 k2 s.heap l1 l2).objs.size=some _:=Heap.get?_push_of_some _ (Heap.get?_push_of_some _ (Heap.get?_push_size _ rfl))
 have g2:(zE k1 k2 s.heap l1 l2).get? (zA k1 s.heap l1).objs.size=some _:=u2 _ _ (Heap.get?_push_size _ rfl)
 have g1:(zE k1 k2 s.heap l1 l2).get? s.heap.objs.size=some _:=u1 _ _ (Heap.get?_push_size _ rfl)
 show _/\_
 rw[z2,z3,z4]at g5
 rw[z1,z2]at g3
 rw[z3]at g4
 rw[z1]at g2
 rw[z4]
 exact⟨⟨_,g5,rfl⟩,h _ g5 g3 g4 ⟨_,g1,rfl,rfl⟩ ⟨_,g2,rfl,rfl⟩ λc o x=>u1 c o (Heap.get?_push_of_some _ x)⟩
end
end L2
namespace L2
open PySem PySem.Spec PyProof.Rows
def xB(k:Bool)(K:PySem.W.Frag)(H:Hp)(l:Addr)(xs:List V):Prop:=cond k (SqT K H l xs) (SqL K H l xs)
section
variable {X : Cx} {pins : List (Addr × Obj)} {σ : St} {H : Hp} {s : Shared} {l : Addr} {xs ys : List V}
theorem Inv.row(I:Inv X pins σ H s)(h:xB k X.K H l xs):∃its:List Value,Vals xs its/\SQ k s.heap l its.toArray/\xs.length<=sizeLine:=by
 cases k with
 |false=>obtain⟨its,r,p,z⟩:=I.list h;exact⟨its,r,p.isList,z⟩
 |true=>obtain⟨its,r,p,z⟩:=I.tuple h;exact⟨its,r,p,z⟩
theorem Inv.row_inj(I:Inv X pins σ H s)(h:xB k X.K H l xs)(h':xB k X.K H l ys):xs=ys:=by
 cases k with
 |false=>exact I.list_inj h h'
 |true=>exact I.tuple_inj h h'
theorem Inv.turnedL{t':Nat}{fp:List Addr}{h':Heap}(I:Inv X pins σ H s)(k:∀b o,b∉fp->s.heap.get? b=some o->h'.get? b=some o)(hf:∀b∈fp,qH X pins H b):Inv X pins σ H {s with heap:=h',toks:=t'}:=by
 have nit:∀b u,H b=some u->b∉fp:=λb u e z=>by rw[(hf b z).1]at e;cases e
 refine I.step (g':=s.gens) (d':=s.drawn) (ch:=fp) (λb hb=>?_) (λb o _ _ hc e _=>k b o hc e) (λb o _ _ hc e _=>⟨o.slots,k b o hc e⟩) (λ_ _ _ _ n=>n)
  (λb o hc e=>⟨o,k b o hc e⟩) (λ_ _ e=>e) (λ_ _ _ e=>e) (λb ps e=>⟨#[],by rw[e];simp⟩) (λm hm=>?_) (λb u e=>?_) I.bare
 . obtain⟨_,f1,_,f3,f4,f5⟩:=hf b hb
   exact⟨f3,f1,f4,f5⟩
 . obtain⟨o,es,ep,ho,r⟩:=hm
   exact⟨o,es,ep,k _ o (λz=>(hf _ z).2.1 rfl) ho,r⟩
 . refine(I.hok b u e).stay (λc v hc q=>k c v ?_ q) (λ_ q=>q) λ_ _ q=>q
   rcases hc with z|z
   . rw[z];exact nit b u e
   . exact nit c _ z
theorem Inv.paired{h':Heap}{t':Nat}{fp:List Addr}{x y:V}{u v:Value}(I:Inv X pins σ H s)(rx:RelV x u)(ry:RelV y v)(hf:∀b∈fp,qH X pins H b)(hl:∀b∈fp,b<s.heap.objs.size)
 (hp:h'.get? s.heap.objs.size=some {cls:=.type "tuple",data:=.seq #[u,v]})(k:∀b o,b∉fp->s.heap.get? b=some o->h'.get? b=some o):
 Inv X pins σ (upd H s.heap.objs.size (.tup [x,y])) {s with heap:=h',toks:=t'}/\∀b∈fp,upd H s.heap.objs.size (.tup [x,y]) b=none:=by
 have I0:Inv X pins σ (upd H s.heap.objs.size (.tup [x,y])) {s with heap:=s.heap.push {cls:=.type "tuple",data:=.seq #[u,v]},toks:=t'}:=
  I.laid (λ_ _ q=>Heap.get?_push_of_some _ q) (Nat.le_refl _) ⟨(show(2:Nat)<=sizeLine by decide),[u,v],.cons rx (.cons ry .nil),⟨_,Heap.get?_push_size _ rfl,rfl,_,rfl⟩⟩
 have hn:∀b∈fp,upd H s.heap.objs.size (.tup [x,y]) b=none:=λb hb=>by rw[cK (Nat.ne_of_lt (hl b hb))];exact(hf b hb).1
 refine⟨I0.turnedL (fp:=fp) (h':=h') (t':=t') (λb o hb e=>?_) λb hb=>⟨hn b hb,(hf b hb).2⟩,hn⟩
 rcases Heap.get?_push_cases e with⟨rfl,rfl⟩|e
 . exact hp
 . exact k b o hb e
end
def Itz(K:PySem.W.Frag)(k1 k2:Bool)(l1 l2:Addr):It:=
 ⟨λi H=>∃xs ys x y,xB k1 K H l1 xs/\xB k2 K H l2 ys/\xs[i]?=some x/\ys[i]?=some y,
  λi H v H'=>∃p,H p=none/\v=.ref p/\∀xs ys,xB k1 K H l1 xs->xB k2 K H l2 ys->∃x y,xs[i]?=some x/\ys[i]?=some y/\H'=upd H p (.tup [x,y]),
  λi H=>∃xs ys,xB k1 K H l1 xs/\xB k2 K H l2 ys/\(xs.length<=i\/ys.length<=i)⟩
def Ite(K:PySem.W.Frag)(l:Addr):It:=
 ⟨λi H=>∃xs x,SqL K H l xs/\xs[i]?=some x,λi H v H'=>∃p,H p=none/\v=.ref p/\∀xs,SqL K H l xs->∃x,xs[i]?=some x/\H'=upd H p (.tup [.int i,x]),λi H=>∃xs,SqL K H l xs/\xs.length<=i⟩
theorem cd4{P:Program}{w:World}{K:PySem.W.Frag}{es:List Expr}{n:Nat}{pos:Pos}{k1 k2:Bool}{z TI TO i1 i2 l1 l2:Addr}(D:ZipApart z TI TO i1 i2 l1 l2):
 at0 P w K (.Tuple es n pos) (Itz K k1 k2 l1 l2) [z,TI,TO,i1,i2] z (λi h=>IsZip h z TI TO .none/\IsPair h TI (.ref i1) (.ref i2)/\(∃a b,IsPair h TO a b)/\SI k1 h i1 l1 i/\SI k2 h i2 l2 i) where
 mem:=by simp
 obj:=λi h st b hb=>by
  obtain⟨hz,hTI,⟨a,c,hTO⟩,n1,n2⟩:=st
  simp only[List.mem_cons,List.not_mem_nil,or_false]at hb
  rcases hb with rfl|rfl|rfl|rfl|rfl
  . exact⟨_,hz,λv e=>nomatch e⟩
  . exact⟨_,hTI,λv e=>nomatch e⟩
  . exact⟨_,hTO,λv e=>nomatch e⟩
  . obtain⟨o,e,_,d⟩:=n1;exact⟨o,e,λv q=>by rw[d]at q;cases q⟩
  . obtain⟨o,e,_,d⟩:=n2;exact⟨o,e,λv q=>by rw[d]at q;cases q⟩
 keep:=λi h h' st k=>by
  obtain⟨hz,hTI,⟨a,c,hTO⟩,n1,n2⟩:=st
  exact⟨k z (by simp) _ hz,k TI (by simp) _ hTI,⟨a,c,k TO (by simp) _ hTO⟩,n1.at λo e=>k i1 (by simp) o e,n2.at λo e=>k i2 (by simp) o e⟩
 item:=by
  intro X hP hw hK hc i pins s σ H E I hf st hg
  subst hP hw hK
  obtain⟨hz,hTI,⟨a,b,hTO⟩,n1,n2⟩:=st
  obtain⟨xs,ys,x,y,hq1,hq2,hx,hy⟩:=hg
  obtain⟨its,r1,p1,_⟩:=I.row hq1
  obtain⟨jts,r2,p2,_⟩:=I.row hq2
  obtain⟨u,hu,ru⟩:=r1.get hx
  obtain⟨v,hv,rv⟩:=r2.get hy
  refine cd3 D hz hTI hTO n1 n2 p1 p2 (x:=u) (y:=v) (by simpa using hu) (by simpa using hv) λh' a1 a2 a3 a4 a5 kk=>⟨_,rfl,wpAny_letOwnedTupleGo_zip a1 λh2 b1 gg=>?_⟩
  have lts:∀b∈[z,TI,TO,i1,i2],b<s.heap.objs.size:=λb hb=>by
   simp only[List.mem_cons,List.not_mem_nil,or_false]at hb
   rcases hb with rfl|rfl|rfl|rfl|rfl
   . exact Heap.lt_size hz
   . exact Heap.lt_size hTI
   . exact Heap.lt_size hTO
   . obtain⟨o,e,_⟩:=n1;exact Heap.lt_size e
   . obtain⟨o,e,_⟩:=n2;exact Heap.lt_size e
  have zne:s.heap.objs.size≠z:=Nat.ne_of_gt (lts z (by simp))
  obtain⟨I1,hn⟩:=I.paired (t':=s.toks) ru rv hf lts (gg.extBut _ _ zne a5) (λc o hc e=>gg.extBut _ _ (λq=>hc (by simp[q])) (kk c o (λq=>hc (by simp[q])) (λq=>hc (by simp[q])) (λq=>hc (by simp[q])) (λq=>hc (by simp[q])) e))
  refine⟨.ref s.heap.objs.size,_,I1,rfl,⟨_,I.fresh,rfl,λxs' ys' q1 q2=>⟨x,y,by rw[I.row_inj q1 hq1];exact hx,by rw[I.row_inj q2 hq2];exact hy,rfl⟩⟩,⟨b1,?_,⟨u,v,?_⟩,?_,?_⟩,hn⟩
  . exact gg.extBut _ _ D.TIz (kk _ _ D.TIz D.TITO D.TIi1 D.TIi2 hTI)
  . exact gg.extBut _ _ D.TOz a2
  . exact a3.at λo e=>gg.extBut _ _ D.i1z e
  . exact a4.at λo e=>gg.extBut _ _ D.i2z e
 done:=by
  intro X hP hw hK hc i pins s σ H E I hf st hg
  subst hP hw hK
  obtain⟨hz,hTI,⟨a,b,hTO⟩,n1,n2⟩:=st
  obtain⟨xs,ys,hq1,hq2,hx⟩:=hg
  obtain⟨its,r1,p1,_⟩:=I.row hq1
  obtain⟨jts,r2,p2,_⟩:=I.row hq2
  have e1:=r1.length
  have e2:=r2.length
  exact ch2 (I.ok.hd hc) D hz hTI hTO n1 n2 p1 p2 (hx.imp (λq=>by simp;omega) (λq=>by simp;omega)) λh' kk=>⟨rfl,I.turnedL (t':=s.toks) (λc o hc e=>kk c o (λq=>hc (by simp[q])) (λq=>hc (by simp[q])) (λq=>hc (by simp[q])) (λq=>hc (by simp[q])) e) hf⟩
 self:=λ_ _ _ _ _ st h=>wpAny_pyIter_zip st.1 h
theorem cw0:bootBuiltins "zip"=some (.type "zip"):=by decide+kernel
section
variable {X : Cx}
def cc4(K:PySem.W.Frag)(ta:TA):TI:=λσ H R=>ta σ H λvs H1=>∃k1 k2 l1 l2,vs=[.ref l1,.ref l2]/\(∃xs,xB k1 K H1 l1 xs)/\(∃ys,xB k2 K H1 l2 ys)/\R (Itz K k1 k2 l1 l2) H1
theorem dn1{es:List Expr}{n:Nat}{tpos:Pos}{a b:Expr}{ta:TA}{p pos:Pos}(hg:Gl X "zip")(hm:X.mg "zip"=none)(ha:PA X [a,b] ta)(hs:starEach [a,b] X.env=[(false,eval a X.env),(false,eval b X.env)]:=by rfl)(hs2:starEach [b] X.env=[(false,eval b X.env)]:=by rfl):
 PI X (.Tuple es n tpos) (.Call (.Name "zip" p) [a,b] [] pos) (cc4 X.K ta):=by
 intro pins s σ H R I h
 refine Call_ (rH I hg hm cw0 (PyProof.Rows.callWith_type1 (cD (ha pins s σ H _ I h) λus s1 ⟨vs,H1,I1,r1,q1⟩=>?_) (by rw[hs,hs2]) (by rw[hs2];rfl)))
 obtain⟨k1,k2,l1,l2,e,⟨xs,hq1⟩,⟨ys,hq2⟩,q⟩:=q1
 subst e
 cases r1 with
 |cons r rr=>
  cases rr with
  |cons r' rr=>
   cases rr
   cases r
   cases r'
   obtain⟨its,r1,p1,_⟩:=I1.row hq1
   obtain⟨jts,r2,p2,_⟩:=I1.row hq2
   refine cc2 p1 p2 λh' a1 a2 a3 a4 a5 kk=>wpAny_pyIter_zip a1 ?_
   have c1:l1<s1.heap.objs.size:=by obtain⟨_,z,_⟩:=p1;exact Heap.lt_size z
   have c2:l2<s1.heap.objs.size:=by obtain⟨_,z,_⟩:=p2;exact Heap.lt_size z
   refine⟨_,_,_,_,H1,rfl,I1.kept (t':=s1.toks) kk,cd4 (zipApart_new c1 c2),⟨a1,a2,⟨_,_,a3⟩,a4,a5⟩,λc hc=>?_,q⟩
   have le:s1.heap.objs.size<=c:=by
    simp only[List.mem_cons,List.not_mem_nil,or_false]at hc
    rcases hc with rfl|rfl|rfl|rfl|rfl<;>omega
   exact I1.fpOk le (I1.hok.fresh le)
end
end L2
namespace L2
open PySem PySem.Spec PyProof.Rows
def qS(σ:List Str)(x:Str):List Str:=if σ.any (· ==x)=true then σ else σ++[x]
def lS(val:Nat->Str)(i:Nat):List Str:=((List.range i).map val).foldl qS []
theorem yJ(val:Nat->Str)(i:Nat):lS val (i+1)=qS (lS val i) (val i):=by
 unfold lS
 rw[List.range_succ,List.map_append,List.foldl_append]
 rfl
theorem bg0(val:Nat->Str):∀i,(lS val i).length<=i
 |0=>Nat.le_refl _
 |i+1=>by
  rw[yJ]
  unfold qS
  have ih:=bg0 val i
  split
  . omega
  . simp;omega
theorem bj8(σ:List Str)(v k:Str):(qS σ v).any (· ==k)=(σ.any (· ==k)||decide (k=v)):=by
 unfold qS
 by_cases h:σ.any (· ==v)=true
 . rw[if_pos h]
   by_cases e:k=v
   . subst e
     rw[h]
     simp
   . simp[e]
 . rw[if_neg h,List.any_append]
   by_cases e:k=v
   . subst e
     simp
   . have hb:(v==k)=false:=by simpa using(λh':v=k=>e h'.symm)
     simp[hb,e]
theorem ba8(σ:List Str)(v:Str):(qS σ v).length=if σ.any (· ==v)then σ.length else σ.length+1:=by
 unfold qS
 split<;>simp
section
variable {prog : Program} {w : World} {A : Around} {R : Result → Shared → Prop} {I : Addr} {fp wr : List Addr} {G : Array GenState → Array GenState → Prop} {n : Nat} {P : Nat → Value → Prop} {St : Nat → Shared → Prop}
theorem cc0(W:WalksS prog w A.in1 I fp wr G n P St)(S:Addr)(hS:S∉fp)(val:Nat->Str)(hval:∀i v,P i v->∃t,v=.str (val i) t)(hb:n+1<scanBound):
 ∀(k i:Nat)(s:Shared),n-i=k->i<=n->St i s->s.heap.SetOf (strKind prog w) S (λx=>(lS val i).any (· ==x)) (lS val i).length->
  (∀s',Moved (S::wr) G s s'->s'.heap.SetOf (strKind prog w) S (λx=>(lS val n).any (· ==x)) (lS val n).length->R (.ok (.ret .none)) s')->
  codeAny (model prog w) A (.builtin "set.update.loop" ⟨[.ref S,.ref I],[]⟩) R s:=by
 have hw:S∉wr:=λh=>hS (W.sub _ h)
 have sub:∀b∈wr,b∈S::wr:=λb hb=>List.mem_cons_of_mem _ hb
 intro k
 induction k with
 |zero=>
  intro i s hk hi st hs hR
  obtain rfl:i=n:=by omega
  refine codeAny_builtin PyProof.Rows.F.entry_set_update_loop ?_;rw[Around.under_plainId PyProof.Rows.F.plain_set_update_loop _]
  (show wpAny _ A.in1 (pyNext (.ref I)>>=_) _ _ s);refine wpAny_bind (W.done s _ _ st λs' hm=>?_)
  (show wpAny _ A.in1 (ret Value.none) _ _ s');refine wpAny_pure (hR s' (hm.mono sub) ?_)
  obtain⟨o,es,ep,t,ho,r⟩:=hs
  exact⟨o,es,ep,t,hm.heap S _ hw ho,r⟩
 |succ k ih=>
  intro i s hk hi st hs hR
  have lt:i<n:=by omega
  refine codeAny_builtin PyProof.Rows.F.entry_set_update_loop ?_;rw[Around.under_plainId PyProof.Rows.F.plain_set_update_loop _]
  (show wpAny _ A.in1 (pyNext (.ref I)>>=_) _ _ s);refine wpAny_bind (W.item i s _ _ lt st λv s' hP st' hm=>?_)
  obtain⟨t,rfl⟩:=hval i v hP
  have hs':s'.heap.SetOf (strKind prog w) S (λx=>(lS val i).any (· ==x)) (lS val i).length:=by
   obtain⟨o,es,ep,tb,ho,r⟩:=hs
   exact⟨o,es,ep,tb,hm.heap S _ hw ho,r⟩
  (show wpAny _ A.in1 (holding [Value.str (val i) t] (setAdd S (.str (val i) t))>>=_) _ _ s');refine wpAny_bind (wpAny_holding ?_);unfold setAdd
  refine wpAny_holding ?_;refine wpAny_bind ((strKind prog w).pyHash (k:=val i) (strKind_is _ _ _ _) ?_)
  have room:(lS val i).length+1<scanBound:=by have:=bg0 val i;omega
  refine wpAny_setAddHashed_of (knd:=strKind prog w) (s:={s' with toks:=s'.toks+1}) (strKind_is _ _ _ _) rfl hs' room λh' hsb hS2=>?_
  have hi':h'.SetOf (strKind prog w) S (λx=>(lS val (i+1)).any (· ==x)) (lS val (i+1)).length:=SetOf_congr hS2 (λx=>by rw[yJ,bj8]) (by rw[yJ,ba8])
  refine wpAny_pure ⟨plainId_quiet PyProof.Rows.F.plain_set_update_loop _,ih (i+1) _ (by omega) lt (W.frame _ s' _ _ st' (Nat.le_succ _) λb hb o e=>?_) hi' λs'' hm'' hS''=>?_⟩
  . exact(hsb.2 b (λh:b=S=>hS (by rw[<-h];exact hb))).trans e
  . refine hR s'' (Moved.trans W.gtrans ((hm.mono sub).then_heap (Nat.le_succ _) λb o hb e=>?_) hm'') hS''
    exact(hsb.2 b (λh:b=S=>hb (by rw[h];exact List.mem_cons_self))).trans e
end
section
variable {prog : Program} {w : World} {A : Around} {E : Value → Shared → Prop} {s : Shared}
abbrev lT(led:Bool):Obj:={cls:=.type "set",dict:=none,data:=.set #[] 0 (.fresh 0 0 led)}
set_option maxHeartbeats 3200000 in
theorem aj7(hh:A.handled=none)(hl:s.heap.IsList l us)(hv:∀(i:Nat) v,us[i]?=some v->∃t,v=.str (val i) t)(hb:us.size+1<scanBound)
 (h:∀(h':Heap)(tk:Nat),h'.SetOf (strKind prog w) s.heap.objs.size (λx=>(lS val us.size).any (· ==x)) (lS val us.size).length->(∀b o,b<s.heap.objs.size->s.heap.get? b=some o->h'.get? b=some o)->Q (.ref s.heap.objs.size) {s with heap:=h',toks:=tk}):
 wpAny (model prog w) A (call (.type "set") [.ref l]) Q E s:=by
 obtain⟨c,tl,hmro⟩:=PySem.F.called_set.mro
 have hmade:=PySem.F.called_set.made
 have hsub:=PySem.F.called_set.sub
 refine wpAny_call (codeAny_of_tree ?_);(show wpAny _ _ (callAny (.type "set") _) _ _ _)
 refine wpAny_pure ⟨Code.quiet_builtin _ (by decide+kernel),codeAny_builtin PySem.F.entry_type_call ?_⟩;rw[Around.under_plain (weight_type_call_type "set" [.ref l] []) rfl]
 have h1:=PySem.F.called_set.notType
 have h2:=PySem.F.called_set.canCreate
 have hct:=PySem.F.typeCall_set_1 (.ref l)
 (repeat(any_goals(first|assumption|wp_step)))
 refine codeAny_mono (code_set_new_1 (.ref l) (E:=E) (Q₁:=λobj s₁=>∃led:Bool,obj=.ref s.heap.objs.size/\s₁={s with heap:=s.heap.push (lT led)}) λled=>⟨led,rfl,rfl⟩) λr s₁ hr=>?_
 cases r with
 |error e=>exact hr
 |ok fl=>
  cases fl with
  |ret obj=>
   obtain⟨led,rfl,rfl⟩:=hr
   have hS:(s.heap.push (lT led)).get? s.heap.objs.size=some (lT led):=Heap.get?_push_size _ rfl
   have hT:Shared.TypeIs {s with heap:=s.heap.push (lT led)} (.ref s.heap.objs.size) "set":=⟨_,hS,rfl⟩
   have hli:=PySem.F.called_set.init.lookup
   have hbi:=PySem.F.called_set.init.bind (.ref s.heap.objs.size)
   (repeat(any_goals(first|assumption|wp_step)))
   refine codeAny_mono (codeAny_call_builtin (R:=wants (λr s₂=>r=.none/\∃h' tk,s₂={s with heap:=h',toks:=tk}/\h'.SetOf (strKind prog w) s.heap.objs.size (λx=>(lS val us.size).any (· ==x)) (lS val us.size).length/\
    (∀b o,b<s.heap.objs.size->s.heap.get? b=some o->h'.get? b=some o)) E) PySem.F.called_set.init.plain PySem.F.entry_set_init (check_set_init_1 hT ?_)) λr₂ s₂ hr₂=>?_
   . obtain⟨ol,hol,hcl,nl,hdl⟩:=hl
     obtain⟨ocls,odict,odata,oslots⟩:=ol
     simp only at hcl hdl;subst hcl;subst hdl
     have hol':(s.heap.push (lT led)).get? l=some {cls:=.type "list",dict:=odict,data:=.seq us nl,slots:=oslots}:=Heap.get?_push_of_some _ hol
     have hsls:=PySem.F.sub_list_set
     have hslf:=PySem.F.sub_list_frozenset
     have hne:(Value.type "list"==Value.type "dict")=false:=by decide
     have hl1:(s.heap.push (lT led)).IsList l us:=⟨_,hol',rfl,nl,rfl⟩
     unfold Builtin.«set.__init__» noKeywords Builtin.Frozenset.updateFrom;generalize hPI:pyIter=PI;wp_walk;subst hPI
     refine wpAny_pyIter_list hl1 ?_;refine wpAny_bind (wpAny_runValue ?_)
     have hlS:l<s.heap.objs.size:=Heap.lt_size hol
     have hh3:A.in1.in1.in1.handled=none:=by simp[hh]
     have hneI:l≠(s.heap.push (lT led)).objs.size:=by rw[Heap.size_push];exact Nat.ne_of_lt (Nat.lt_succ_of_lt hlS)
     have hSf:s.heap.objs.size∉[(s.heap.push (lT led)).objs.size,l]:=by
      rw[Heap.size_push];simp only[List.mem_cons,List.not_mem_nil,or_false,not_or];exact⟨Nat.ne_of_lt (Nat.lt_succ_self _),Nat.ne_of_gt hlS⟩
     refine cc0 ((Walks.list hh3 _ l hneI us).toS) s.heap.objs.size hSf val hv hb (us.size-0) 0 _ (by omega) (Nat.zero_le _) ⟨⟨_,Heap.get?_push_size _ rfl,rfl,rfl⟩,(hl1.push _)⟩ ?hS0 ?hR
     case hS0=>exact SetOf_congr ((setObjOf_fresh (knd:=strKind prog w) led).setOf (Heap.get?_push_of_some _ hS) (by unfold scanBound;omega)) (λ_=>rfl) rfl
     case hR=>
      intro s' hm hS'
      obtain⟨h',g',d',tk',os'⟩:=s'
      obtain rfl:g'=s.gens:=hm.gens
      obtain rfl:d'=s.drawn:=hm.drawn
      obtain rfl:os'=s.os:=hm.os
      (show wpAny _ _ _ _ _ _);refine wpAny_pure ?_;(show wpAny _ _ (ret Value.none) _ _ _)
      refine wpAny_pure ⟨rfl,h',tk',rfl,hS',λb o hb e=>?_⟩
      have hb2:b≠(s.heap.push (lT led)).objs.size:=by rw[Heap.size_push];exact Nat.ne_of_lt (Nat.lt_succ_of_lt hb)
      exact hm.heap b o (by simp only[List.mem_cons,List.not_mem_nil,or_false,not_or];exact⟨Nat.ne_of_lt hb,hb2⟩) (Heap.get?_push_of_some _ (Heap.get?_push_of_some _ e))
   . cases r₂ with
     |error e=>exact hr₂
     |ok fl₂=>
      cases fl₂ with
      |ret r=>
       obtain⟨rfl,h',tk,rfl,hS',hk'⟩:=hr₂
       (repeat(any_goals(first|assumption|wp_step)))
       exact h _ _ hS' hk'
      |_=>exact hr₂
  |_=>exact hr
end
end L2
namespace TL
open PySem PySem.Spec PyProof.Rows L2
inductive T where
 |non|bl (b:Bool)|int (i:Int)|str (x:Str)|ty (n:String)
 |lst (o:Bool) (xs:List T)
 |tup (xs:List T)
 |ins (o:Bool) (c:Str) (ns:List Str) (xs:List T)
mutual
def frz:T->T
 |.lst _ xs=>.lst false (frzs xs)
 |.tup xs=>.tup (frzs xs)
 |.ins _ c ns xs=>.ins false c ns (frzs xs)
 |.non=>.non
 |.bl b=>.bl b
 |.int i=>.int i
 |.str x=>.str x
 |.ty n=>.ty n
def frzs:List T->List T
 |[]=>[]
 |t::ts=>frz t::frzs ts
end
mutual
def cO:T->Bool
 |.lst o xs=>!o&&aP xs
 |.tup xs=>aP xs
 |.ins o _ _ xs=>!o&&aP xs
 |.non=>true
 |.bl _=>true
 |.int _=>true
 |.str _=>true
 |.ty _=>true
def aP:List T->Bool
 |[]=>true
 |t::ts=>cO t&&aP ts
end
mutual
def fN:T->Bool
 |.lst o xs=>o&&fB xs
 |.tup xs=>fB xs
 |.ins o _ _ xs=>o&&fB xs
 |.non=>true
 |.bl _=>true
 |.int _=>true
 |.str _=>true
 |.ty _=>true
def fB:List T->Bool
 |[]=>true
 |t::ts=>fN t&&fB ts
end
theorem au6:∀ts,aP ts=ts.all cO
 |[]=>rfl
 |t::ts=>by simp[aP,au6 ts]
mutual
theorem rE:∀t,cO t=true->frz t=t
 |.lst o xs,h=>by
  simp only[cO,Bool.and_eq_true,Bool.not_eq_true']at h
  rw[frz,fK xs h.2,h.1]
 |.tup xs,h=>by
  simp only[cO]at h
  rw[frz,fK xs h]
 |.ins o _ _ xs,h=>by
  simp only[cO,Bool.and_eq_true,Bool.not_eq_true']at h
  rw[frz,fK xs h.2,h.1]
 |.non,_=>rfl
 |.bl _,_=>rfl
 |.int _,_=>rfl
 |.str _,_=>rfl
 |.ty _,_=>rfl
theorem fK:∀ts,aP ts=true->frzs ts=ts
 |[],_=>rfl
 |t::ts,h=>by
  simp only[aP,Bool.and_eq_true]at h
  rw[frzs,rE t h.1,fK ts h.2]
end
structure Exc where
 c:Str
 ns:List Str
 xs:List T
inductive Res (α:Type) where
 |ok (a:α)|ex (x:Exc)|no
def Res.bind{α β:Type}:Res α->(α->Res β)->Res β
 |.ok a,f=>f a
 |.ex x,_=>.ex x
 |.no,_=>.no
abbrev Fr:=List (Option T)
inductive bX where
 |nx (ρ:Fr)|rt (t:T)|rm (ρ:Fr) (t:T)|bk (ρ:Fr)|ct (ρ:Fr)|ex (x:Exc)|no
def tD:HO->Bool
 |.tup _=>true
 |.frz _ _=>true
 |_=>false
def FzL(K:PySem.W.Frag)(H:Hp)(Z:Addr->Prop)(a:Addr)(xs:List V):Prop:=
 (H a=some (.lst xs)/\Z a)\/(∃o,H a=some (.frz o (.lst xs)))\/
  ∃(o:Obj)(its:Array Value)(n:Nat),K.lookup a=some o/\o.cls=.type "list"/\o.dict=none/\o.slots=#[]/\o.data=.seq its n/\its.size<=sizeLine/\Vals xs its.toList
theorem FzL.sqS{K:PySem.W.Frag}{H:Hp}{Z:Addr->Prop}{a:Addr}{xs:List V}(h:FzL K H Z a xs):SqS K H a xs:=by
 rcases h with⟨h,_⟩|⟨o,h⟩|h
 . exact .inl (.inl h)
 . exact .inl (.inr ⟨o,h⟩)
 . exact .inr h
theorem FzL.sq{K:PySem.W.Frag}{H:Hp}{Z:Addr->Prop}{a:Addr}{xs:List V}(h:FzL K H Z a xs):SqL K H a xs:=h.sqS.sq
section
variable (K : PySem.W.Frag) (cn : Str → Option Addr)
mutual
def Rep(H:Hp)(Z:Addr->Prop):T->V->List Addr->Prop
 |.non,v,A=>v=.non/\A=[]
 |.bl b,v,A=>v=.bl b/\A=[]
 |.int i,v,A=>v=.int i/\A=[]
 |.str x,v,A=>v=.str x/\A=[]
 |.ty n,v,A=>v=.ty n/\A=[]
 |.lst true ts,v,A=>∃a vs B,v=.ref a/\A=a::B/\H a=some (.lst vs)/\Reps H Z ts vs B
 |.lst false ts,v,A=>∃a vs,v=.ref a/\A=[]/\FzL K H Z a vs/\Reps H Z ts vs []
 |.tup ts,v,A=>∃a vs,v=.ref a/\SqT K H a vs/\Reps H Z ts vs A
 |.ins true c ns ts,v,A=>∃a C dx vs B,v=.ref a/\A=a::B/\cn c=some C/\H a=some (.ins C dx (ns.zip vs))/\ns.length=vs.length/\Reps H Z ts vs B
 |.ins false c ns ts,v,A=>∃a C dx vs,v=.ref a/\A=[]/\cn c=some C/\H a=some (.ins C dx (ns.zip vs))/\Z a/\ns.length=vs.length/\Reps H Z ts vs []
def Reps(H:Hp)(Z:Addr->Prop):List T->List V->List Addr->Prop
 |[],vs,A=>vs=[]/\A=[]
 |t::ts,vs,A=>∃v r B C,vs=v::r/\A=B++C/\Rep H Z t v B/\Reps H Z ts r C
end
end
section
variable {K : PySem.W.Frag} {cn : Str → Option Addr} {H H' : Hp} {Z Z' : Addr → Prop}
theorem FzL.keep(h:FzL K H Z a xs)(hk:∀a o,H a=some o->(Z a\/tD o=true)->H' a=some o)(hz:∀a,Z a->Z' a):FzL K H' Z' a xs:=by
 rcases h with⟨h,z⟩|⟨o,h⟩|h
 . exact .inl ⟨hk _ _ h (.inl z),hz _ z⟩
 . exact .inr (.inl ⟨o,hk _ _ h (.inr rfl)⟩)
 . exact .inr (.inr h)
theorem SqT.keep(h:SqT K H a xs)(hk:∀a o,H a=some o->tD o=true->H' a=some o):SqT K H' a xs:=by
 rcases h with(h|⟨o,h⟩)|h
 . exact .inl (.inl (hk _ _ h rfl))
 . exact .inl (.inr ⟨o,hk _ _ h rfl⟩)
 . exact .inr h
mutual
theorem Rep.keep:∀(t:T){v:V}{A:List Addr},Rep K cn H Z t v A->(∀a o,H a=some o->(a∈A\/Z a\/tD o=true)->H' a=some o)->(∀a,Z a->Z' a)->Rep K cn H' Z' t v A
 |.non,_,_,h,_,_=>by simpa only[Rep]using h
 |.bl _,_,_,h,_,_=>by simpa only[Rep]using h
 |.int _,_,_,h,_,_=>by simpa only[Rep]using h
 |.str _,_,_,h,_,_=>by simpa only[Rep]using h
 |.ty _,_,_,h,_,_=>by simpa only[Rep]using h
 |.lst true ts,v,A,h,hk,hz=>by
  simp only[Rep]at h⊢
  obtain⟨a,vs,B,rfl,rfl,e,r⟩:=h
  exact⟨a,vs,B,rfl,rfl,hk a _ e (.inl List.mem_cons_self),Reps.keep ts r (λb o q c=>hk b o q (c.imp_left (List.mem_cons_of_mem _))) hz⟩
 |.lst false ts,v,A,h,hk,hz=>by
  simp only[Rep]at h⊢
  obtain⟨a,vs,rfl,rfl,e,r⟩:=h
  exact⟨a,vs,rfl,rfl,e.keep (λb o q c=>hk b o q (.inr c)) hz,Reps.keep ts r hk hz⟩
 |.tup ts,v,A,h,hk,hz=>by
  simp only[Rep]at h⊢
  obtain⟨a,vs,rfl,e,r⟩:=h
  exact⟨a,vs,rfl,SqT.keep e (λb o q c=>hk b o q (.inr (.inr c))),Reps.keep ts r hk hz⟩
 |.ins true c ns ts,v,A,h,hk,hz=>by
  simp only[Rep]at h⊢
  obtain⟨a,C,dx,vs,B,rfl,rfl,hc,e,l,r⟩:=h
  exact⟨a,C,dx,vs,B,rfl,rfl,hc,hk a _ e (.inl List.mem_cons_self),l,Reps.keep ts r (λb o q c=>hk b o q (c.imp_left (List.mem_cons_of_mem _))) hz⟩
 |.ins false c ns ts,v,A,h,hk,hz=>by
  simp only[Rep]at h⊢
  obtain⟨a,C,dx,vs,rfl,rfl,hc,e,z,l,r⟩:=h
  exact⟨a,C,dx,vs,rfl,rfl,hc,hk a _ e (.inr (.inl z)),hz a z,l,Reps.keep ts r hk hz⟩
theorem Reps.keep:∀(ts:List T){vs:List V}{A:List Addr},Reps K cn H Z ts vs A->(∀a o,H a=some o->(a∈A\/Z a\/tD o=true)->H' a=some o)->(∀a,Z a->Z' a)->Reps K cn H' Z' ts vs A
 |[],_,_,h,_,_=>by simpa only[Reps]using h
 |t::ts,vs,A,h,hk,hz=>by
  simp only[Reps]at h⊢
  obtain⟨v,r,B,C,rfl,rfl,h1,h2⟩:=h
  exact⟨v,r,B,C,rfl,rfl,Rep.keep t h1 (λb o q c=>hk b o q (c.imp_left (List.mem_append_left _))) hz,Reps.keep ts h2 (λb o q c=>hk b o q (c.imp_left (List.mem_append_right _))) hz⟩
end
theorem Rep.same(h:Rep K cn H Z t v A)(s:Same H H')(hz:∀a,Z a->Z' a):Rep K cn H' Z' t v A:=Rep.keep t h (λa o q _=>s a o q) hz
theorem Reps.same(h:Reps K cn H Z t v A)(s:Same H H')(hz:∀a,Z a->Z' a):Reps K cn H' Z' t v A:=Reps.keep t h (λa o q _=>s a o q) hz
theorem be9(h:H a=some o)(h':H b=some o')(i:tD o=true)(i':tD o'=false):a≠b:=by
 rintro rfl
 rw[h]at h'
 cases h'
 rw[i]at i'
 cases i'
theorem Rep.upd(h:Rep K cn H Z t v A)(ha:H a=some o)(hi:tD o=false)(hA:a∉A)(hZ:¬Z a):Rep K cn (L2.upd H a o') Z t v A:=
 Rep.keep t h (λb u q c=>by
  rw[cK]
  . exact q
  . rcases c with c|c|c
    . rintro rfl;exact hA c
    . rintro rfl;exact hZ c
    . exact be9 q ha c hi) (λ_ z=>z)
theorem Reps.upd(h:Reps K cn H Z t v A)(ha:H a=some o)(hi:tD o=false)(hA:a∉A)(hZ:¬Z a):Reps K cn (L2.upd H a o') Z t v A:=
 Reps.keep t h (λb u q c=>by
  rw[cK]
  . exact q
  . rcases c with c|c|c
    . rintro rfl;exact hA c
    . rintro rfl;exact hZ c
    . exact be9 q ha c hi) (λ_ z=>z)
mutual
theorem Rep.frz:∀(t:T){v:V}{A:List Addr},Rep K cn H Z t v A->(∀a,Z a->Z' a)->(∀a∈A,Z' a)->Rep K cn H Z' (frz t) v []
 |.non,_,_,h,_,_=>by simp only[Rep,TL.frz]at h⊢;exact⟨h.1,trivial⟩
 |.bl _,_,_,h,_,_=>by simp only[Rep,TL.frz]at h⊢;exact⟨h.1,trivial⟩
 |.int _,_,_,h,_,_=>by simp only[Rep,TL.frz]at h⊢;exact⟨h.1,trivial⟩
 |.str _,_,_,h,_,_=>by simp only[Rep,TL.frz]at h⊢;exact⟨h.1,trivial⟩
 |.ty _,_,_,h,_,_=>by simp only[Rep,TL.frz]at h⊢;exact⟨h.1,trivial⟩
 |.lst true ts,v,A,h,hz,hA=>by
  simp only[Rep,TL.frz]at h⊢
  obtain⟨a,vs,B,rfl,rfl,e,r⟩:=h
  exact⟨a,vs,rfl,trivial,.inl ⟨e,hA a List.mem_cons_self⟩,Reps.frz ts r hz λb hb=>hA b (List.mem_cons_of_mem _ hb)⟩
 |.lst false ts,v,A,h,hz,hA=>by
  simp only[Rep,TL.frz]at h⊢
  obtain⟨a,vs,rfl,rfl,e,r⟩:=h
  exact⟨a,vs,rfl,trivial,e.keep (λ_ _ q _=>q) hz,Reps.frz ts r hz hA⟩
 |.tup ts,v,A,h,hz,hA=>by
  simp only[Rep,TL.frz]at h⊢
  obtain⟨a,vs,rfl,e,r⟩:=h
  exact⟨a,vs,rfl,e,Reps.frz ts r hz hA⟩
 |.ins true c ns ts,v,A,h,hz,hA=>by
  simp only[Rep,TL.frz]at h⊢
  obtain⟨a,C,dx,vs,B,rfl,rfl,hc,e,l,r⟩:=h
  exact⟨a,C,dx,vs,rfl,trivial,hc,e,hA a List.mem_cons_self,l,Reps.frz ts r hz λb hb=>hA b (List.mem_cons_of_mem _ hb)⟩
 |.ins false c ns ts,v,A,h,hz,hA=>by
  simp only[Rep,TL.frz]at h⊢
  obtain⟨a,C,dx,vs,rfl,rfl,hc,e,z,l,r⟩:=h
  exact⟨a,C,dx,vs,rfl,trivial,hc,e,hz a z,l,Reps.frz ts r hz hA⟩
theorem Reps.frz:∀(ts:List T){vs:List V}{A:List Addr},Reps K cn H Z ts vs A->(∀a,Z a->Z' a)->(∀a∈A,Z' a)->Reps K cn H Z' (frzs ts) vs []
 |[],_,_,h,_,_=>by simp only[Reps,TL.frzs]at h⊢;exact⟨h.1,trivial⟩
 |t::ts,vs,A,h,hz,hA=>by
  simp only[Reps,TL.frzs]at h⊢
  obtain⟨v,r,B,C,rfl,rfl,h1,h2⟩:=h
  exact⟨v,r,[],[],rfl,rfl,Rep.frz t h1 hz λb hb=>hA b (List.mem_append_left _ hb),Reps.frz ts h2 hz λb hb=>hA b (List.mem_append_right _ hb)⟩
end
mutual
theorem Rep.any:∀(t:T){v:V}{A:List Addr},fN t=true->Rep K cn H Z t v A->Rep K cn H Z' t v A
 |.non,_,_,_,h=>by simpa only[Rep]using h
 |.bl _,_,_,_,h=>by simpa only[Rep]using h
 |.int _,_,_,_,h=>by simpa only[Rep]using h
 |.str _,_,_,_,h=>by simpa only[Rep]using h
 |.ty _,_,_,_,h=>by simpa only[Rep]using h
 |.lst true ts,v,A,c,h=>by
  simp only[Rep,fN,Bool.true_and]at h c⊢
  obtain⟨a,vs,B,rfl,rfl,e,r⟩:=h
  exact⟨a,vs,B,rfl,rfl,e,Reps.any ts c r⟩
 |.lst false ts,v,A,c,h=>by simp[fN]at c
 |.tup ts,v,A,c,h=>by
  simp only[Rep,fN]at h c⊢
  obtain⟨a,vs,rfl,e,r⟩:=h
  exact⟨a,vs,rfl,e,Reps.any ts c r⟩
 |.ins true cc ns ts,v,A,c,h=>by
  simp only[Rep,fN,Bool.true_and]at h c⊢
  obtain⟨a,C,dx,vs,B,rfl,rfl,hc,e,l,r⟩:=h
  exact⟨a,C,dx,vs,B,rfl,rfl,hc,e,l,Reps.any ts c r⟩
 |.ins false cc ns ts,v,A,c,h=>by simp[fN]at c
theorem Reps.any:∀(ts:List T){vs:List V}{A:List Addr},fB ts=true->Reps K cn H Z ts vs A->Reps K cn H Z' ts vs A
 |[],_,_,_,h=>by simpa only[Reps]using h
 |t::ts,vs,A,c,h=>by
  simp only[Reps,fB,Bool.and_eq_true]at h c⊢
  obtain⟨v,r,B,C,rfl,rfl,h1,h2⟩:=h
  exact⟨v,r,B,C,rfl,rfl,Rep.any t c.1 h1,Reps.any ts c.2 h2⟩
end
mutual
theorem Rep.bare:∀(t:T){v:V}{A:List Addr},cO t=true->Rep K cn H Z t v A->A=[]
 |.non,_,_,_,h=>by simp only[Rep]at h;exact h.2
 |.bl _,_,_,_,h=>by simp only[Rep]at h;exact h.2
 |.int _,_,_,_,h=>by simp only[Rep]at h;exact h.2
 |.str _,_,_,_,h=>by simp only[Rep]at h;exact h.2
 |.ty _,_,_,_,h=>by simp only[Rep]at h;exact h.2
 |.lst true ts,v,A,c,h=>by simp[cO]at c
 |.lst false ts,v,A,c,h=>by
  simp only[Rep]at h
  obtain⟨a,vs,rfl,rfl,e,r⟩:=h
  rfl
 |.tup ts,v,A,c,h=>by
  simp only[Rep,cO]at h c
  obtain⟨a,vs,rfl,e,r⟩:=h
  exact Reps.bare ts c r
 |.ins true cc ns ts,v,A,c,h=>by simp[cO]at c
 |.ins false cc ns ts,v,A,c,h=>by
  simp only[Rep]at h
  obtain⟨a,C,dx,vs,rfl,rfl,_⟩:=h
  rfl
theorem Reps.bare:∀(ts:List T){vs:List V}{A:List Addr},aP ts=true->Reps K cn H Z ts vs A->A=[]
 |[],_,_,_,h=>by simp only[Reps]at h;exact h.2
 |t::ts,vs,A,c,h=>by
  simp only[Reps,aP,Bool.and_eq_true]at h c
  obtain⟨v,r,B,C,rfl,rfl,h1,h2⟩:=h
  rw[Rep.bare t c.1 h1,Reps.bare ts c.2 h2]
  rfl
end
mutual
theorem Rep.dom:∀(t:T){v:V}{A:List Addr},Rep K cn H Z t v A->∀a∈A,∃o,H a=some o/\tD o=false
 |.non,_,_,h=>by simp only[Rep]at h;rw[h.2];intro a ha;cases ha
 |.bl _,_,_,h=>by simp only[Rep]at h;rw[h.2];intro a ha;cases ha
 |.int _,_,_,h=>by simp only[Rep]at h;rw[h.2];intro a ha;cases ha
 |.str _,_,_,h=>by simp only[Rep]at h;rw[h.2];intro a ha;cases ha
 |.ty _,_,_,h=>by simp only[Rep]at h;rw[h.2];intro a ha;cases ha
 |.lst true ts,v,A,h=>by
  simp only[Rep]at h
  obtain⟨a,vs,B,rfl,rfl,e,r⟩:=h
  intro b hb
  rcases List.mem_cons.mp hb with rfl|hb
  . exact⟨_,e,rfl⟩
  . exact Reps.dom ts r b hb
 |.lst false ts,v,A,h=>by
  simp only[Rep]at h
  obtain⟨a,vs,rfl,rfl,e,r⟩:=h
  intro a ha;cases ha
 |.tup ts,v,A,h=>by
  simp only[Rep]at h
  obtain⟨a,vs,rfl,e,r⟩:=h
  exact Reps.dom ts r
 |.ins true cc ns ts,v,A,h=>by
  simp only[Rep]at h
  obtain⟨a,C,dx,vs,B,rfl,rfl,hc,e,l,r⟩:=h
  intro b hb
  rcases List.mem_cons.mp hb with rfl|hb
  . exact⟨_,e,rfl⟩
  . exact Reps.dom ts r b hb
 |.ins false cc ns ts,v,A,h=>by
  simp only[Rep]at h
  obtain⟨a,C,dx,vs,rfl,rfl,_⟩:=h
  intro a ha;cases ha
theorem Reps.dom:∀(ts:List T){vs:List V}{A:List Addr},Reps K cn H Z ts vs A->∀a∈A,∃o,H a=some o/\tD o=false
 |[],_,_,h=>by simp only[Reps]at h;rw[h.2];intro a ha;cases ha
 |t::ts,vs,A,h=>by
  simp only[Reps]at h
  obtain⟨v,r,B,C,rfl,rfl,h1,h2⟩:=h
  intro a ha
  rcases List.mem_append.mp ha with ha|ha
  . exact Rep.dom t h1 a ha
  . exact Reps.dom ts h2 a ha
end
theorem Reps.length:∀(ts:List T){vs:List V}{A:List Addr},Reps K cn H Z ts vs A->vs.length=ts.length
 |[],_,_,h=>by simp only[Reps]at h;rw[h.1];rfl
 |t::ts,vs,A,h=>by
  simp only[Reps]at h
  obtain⟨v,r,B,C,rfl,rfl,h1,h2⟩:=h
  simp[Reps.length ts h2]
theorem Reps.get:∀(ts:List T){vs:List V}{A:List Addr}{i:Nat}{t:T},Reps K cn H Z ts vs A->ts[i]?=some t->∃v B,vs[i]?=some v/\Rep K cn H Z t v B/\(∀b∈B,b∈A)/\B.Sublist A
 |[],_,_,_,_,h,e=>by simp at e
 |t::ts,vs,A,0,t',h,e=>by
  simp only[Reps]at h
  obtain⟨v,r,B,C,rfl,rfl,h1,h2⟩:=h
  simp at e
  subst e
  exact⟨v,B,rfl,h1,λb hb=>List.mem_append_left _ hb,List.sublist_append_left _ _⟩
 |t::ts,vs,A,i+1,t',h,e=>by
  simp only[Reps]at h
  obtain⟨v,r,B,C,rfl,rfl,h1,h2⟩:=h
  obtain⟨v',B',e1,e2,e3,e4⟩:=Reps.get ts (i:=i) h2 (by simpa using e)
  exact⟨v',B',by simpa using e1,e2,λb hb=>List.mem_append_right _ (e3 b hb),e4.trans (List.sublist_append_right _ _)⟩
theorem Reps.append:∀(ts:List T){us:List T}{vs ws:List V}{A B:List Addr},Reps K cn H Z ts vs A->Reps K cn H Z us ws B->Reps K cn H Z (ts++us) (vs++ws) (A++B)
 |[],us,vs,ws,A,B,h,h'=>by
  simp only[Reps]at h
  obtain⟨rfl,rfl⟩:=h
  exact h'
 |t::ts,us,vs,ws,A,B,h,h'=>by
  simp only[Reps,List.cons_append]at h⊢
  obtain⟨v,r,C,D,rfl,rfl,h1,h2⟩:=h
  exact⟨v,r++ws,C,D++B,rfl,by simp,h1,Reps.append ts h2 h'⟩
theorem Reps.one(h:Rep K cn H Z t v B):Reps K cn H Z [t] [v] B:=by
 simp only[Reps]
 exact⟨v,[],B,[],rfl,by simp,h,rfl,rfl⟩
theorem Reps.nil:Reps K cn H Z [] [] []:=by simp[Reps]
theorem Reps.take:∀(n:Nat)(ts:List T){vs:List V},Reps K cn H Z ts vs []->Reps K cn H Z (ts.take n) (vs.take n) []
 |0,ts,vs,h=>by simp[Reps]
 |n+1,[],vs,h=>by
  simp only[Reps]at h
  obtain⟨rfl,_⟩:=h
  simp[Reps]
 |n+1,t::ts,vs,h=>by
  simp only[Reps]at h
  obtain⟨v,r,B,C,rfl,e,h1,h2⟩:=h
  have eb:B=[]/\C=[]:=by simpa using e.symm
  obtain⟨rfl,rfl⟩:=eb
  simp only[List.take_succ_cons,Reps]
  exact⟨v,r.take n,[],[],rfl,rfl,h1,Reps.take n ts h2⟩
theorem Reps.drop:∀(n:Nat)(ts:List T){vs:List V},Reps K cn H Z ts vs []->Reps K cn H Z (ts.drop n) (vs.drop n) []
 |0,ts,vs,h=>h
 |n+1,[],vs,h=>by
  simp only[Reps]at h
  obtain⟨rfl,_⟩:=h
  simp[Reps]
 |n+1,t::ts,vs,h=>by
  simp only[Reps]at h
  obtain⟨v,r,B,C,rfl,e,h1,h2⟩:=h
  have eb:B=[]/\C=[]:=by simpa using e.symm
  obtain⟨rfl,rfl⟩:=eb
  simpa using Reps.drop n ts h2
end
end TL
namespace TL
open PySem PySem.Spec PyProof.Rows L2
abbrev St:=L2.St
theorem bl0(h:H p=none)(o:HO):Same H (L2.upd H p o):=λb u q=>by rw[cK (iM q h)];exact q
theorem eH{α:Type}{P:α->Prop}:∀b∈([]:List α),P b:=λ_ h=>nomatch h
def Slot(K:PySem.W.Frag)(cn:Str->Option Addr)(H:Hp)(Z:Addr->Prop)(o:Option T)(w:Option V)(A:List Addr):Prop:=
 match o with
 |none=>A=[]
 |some t=>∃v,w=some v/\Rep K cn H Z t v A
def Slots(K:PySem.W.Frag)(cn:Str->Option Addr)(H:Hp)(Z:Addr->Prop):Fr->St->List (List Addr)->Prop
 |[],σ,As=>σ=[]/\As=[]
 |o::ρ,σ,As=>∃w σ' A As',σ=w::σ'/\As=A::As'/\Slot K cn H Z o w A/\Slots K cn H Z ρ σ' As'
abbrev iE:=List (Nat×V)
structure Frm (Jn:iE) (K:PySem.W.Frag) (cn:Str->Option Addr) (H:Hp) (Z:Addr->Prop) (ρ:Fr) (σ:St) (As:List (List Addr)):Prop where
 sl:Slots K cn H Z ρ σ As
 nd:As.flatten.Nodup
 nz:∀a∈As.flatten,¬Z a
 zi:∀a,Z a->H a≠none
 pn:∀p∈Jn,σ[p.1]?=some (some p.2)
structure Ev (As:List (List Addr)) (H:Hp) (Z:Addr->Prop) (As':List (List Addr)) (H':Hp) (Z':Addr->Prop):Prop where
 keep:∀a o,H a=some o->a∉As.flatten->H' a=some o
 own:∀a∈As'.flatten,a∈As.flatten\/H a=none
 zz:∀a,Z a->Z' a
 zn:∀a,Z' a->Z a\/a∈As.flatten\/H a=none
 dom:∀a,H' a=none->H a=none
theorem Ev.refl:Ev As H Z As H Z:=
 ⟨λ_ _ h _=>h,λ_ h=>.inl h,λ_ h=>h,λ_ h=>.inl h,λ_ h=>h⟩
theorem Ev.trans(a:Ev As H Z As1 H1 Z1)(b:Ev As1 H1 Z1 As2 H2 Z2):Ev As H Z As2 H2 Z2 where
 keep:=λx o h n=>b.keep x o (a.keep x o h n) λq=>by
  rcases a.own x q with q|q
  . exact n q
  . rw[h]at q;cases q
 own:=λx h=>by
  rcases b.own x h with q|q
  . exact a.own x q
  . exact .inr (a.dom x q)
 zz:=λx h=>b.zz x (a.zz x h)
 zn:=λx h=>by
  rcases b.zn x h with q|q|q
  . exact a.zn x q
  . exact .inr (a.own x q)
  . exact .inr (.inr (a.dom x q))
 dom:=λx h=>a.dom x (b.dom x h)
structure Post (K:PySem.W.Frag) (cn:Str->Option Addr) (As:List (List Addr)) (H:Hp) (Z:Addr->Prop) (mv:List Nat) (H':Hp) (Z':Addr->Prop) (t:T) (v:V) (B:List Addr):Prop where
 same:Same H H'
 zz:∀a,Z a->Z' a
 zn:∀a,Z' a->Z a\/H a=none
 zi:∀a,Z' a->H' a≠none
 rep:Rep K cn H' Z' t v B
 nd:B.Nodup
 bz:∀b∈B,¬Z' b
 bn:∀b∈B,H b=none\/∃i∈mv,b∈As.getD i []
structure PostB (K:PySem.W.Frag) (cn:Str->Option Addr) (H:Hp) (Z:Addr->Prop) (H':Hp) (Z':Addr->Prop) (t:T) (v:V) (B:List Addr):Prop where
 same:Same H H'
 zz:∀a,Z a->Z' a
 zn:∀a,Z' a->Z a\/H a=none
 zi:∀a,Z' a->H' a≠none
 rep:Rep K cn H' Z' t v B
structure do5 (K:PySem.W.Frag) (cn:Str->Option Addr) (As:List (List Addr)) (H:Hp) (Z:Addr->Prop) (x:Exc) (C:Addr) (a:Option Addr) (H':Hp) (Z':Addr->Prop):Prop where
 ev:Ev As H Z [] H' Z'
 cls:cn x.c=some C
 zi:∀a,Z' a->H' a≠none
 flds:∃dx vs,a=some dx/\H' dx=some (.xd (x.ns.zip vs))/\x.ns.length=vs.length/\Reps K cn H' Z' x.xs vs []
section
variable (Jn : iE) (K : PySem.W.Frag) (cn : Str → Option Addr) (E : XK)
def WpX(As:List (List Addr))(H:Hp)(Z:Addr->Prop)(x:Exc):Prop:=∀C a H' Z',do5 K cn As H Z x C a H' Z'->E (.ref C) a H'
def WpE(As:List (List Addr))(H:Hp)(Z:Addr->Prop)(mv:List Nat)(Q:VK):Res T->Prop
 |.ok t=>∀v H' Z' B,Post K cn As H Z mv H' Z' t v B->Q v H'
 |.ex x=>WpX K cn E As H Z x
 |.no=>False
def WpB(As:List (List Addr))(H:Hp)(Z:Addr->Prop)(Q:VK):Res T->Prop
 |.ok t=>∀v H' Z' B,PostB K cn H Z H' Z' t v B->Q v H'
 |.ex x=>WpX K cn E As H Z x
 |.no=>False
structure PostT (H:Hp) (Z:Addr->Prop) (H':Hp) (Z':Addr->Prop):Prop where
 same:Same H H'
 zz:∀a,Z a->Z' a
 zn:∀a,Z' a->Z a\/H a=none
 zi:∀a,Z' a->H' a≠none
def WpT(As:List (List Addr))(H:Hp)(Z:Addr->Prop)(Q:Bool->Hp->Prop):Res Bool->Prop
 |.ok b=>∀H' Z',PostT H Z H' Z'->Q b H'
 |.ex x=>WpX K cn E As H Z x
 |.no=>False
structure ds7 (As:List (List Addr)) (H:Hp) (Z:Addr->Prop) (t:T) (v:V) (H':Hp) (Z':Addr->Prop) (B:List Addr):Prop where
 ev:Ev As H Z [B] H' Z'
 rep:Rep K cn H' Z' t v B
 nd:B.Nodup
 bz:∀b∈B,¬Z' b
 zi:∀a,Z' a->H' a≠none
def Wp(As:List (List Addr))(H:Hp)(Z:Addr->Prop)(D:ao0):bX->Prop
 |.nx ρ=>∀σ' As' H' Z',Frm Jn K cn H' Z' ρ σ' As'->Ev As H Z As' H' Z'->D.nx σ' H'
 |.bk ρ=>∀σ' As' H' Z',Frm Jn K cn H' Z' ρ σ' As'->Ev As H Z As' H' Z'->D.bk σ' H'
 |.ct ρ=>∀σ' As' H' Z',Frm Jn K cn H' Z' ρ σ' As'->Ev As H Z As' H' Z'->D.ct σ' H'
 |.rt t=>∀v H' Z' B,ds7 K cn As H Z t v H' Z' B->D.rt v H'
 |.rm ρ t=>∀v σ' As' H' Z',Frm Jn K cn H' Z' ρ σ' As'->Ev As H Z As' H' Z'->Rep K cn H' Z' t v []->D.rt v H'
 |.ex x=>WpX K cn E As H Z x
 |.no=>False
def RE(mv:List Nat)(te:TE)(d:Fr->Res T):Prop:=∀As H Z ρ σ,Frm Jn K cn H Z ρ σ As->∀Q,WpE K cn E As H Z mv Q (d ρ)->te σ H Q
def RB(te:TE)(d:Fr->Res T):Prop:=∀As H Z ρ σ,Frm Jn K cn H Z ρ σ As->∀Q,WpB K cn E As H Z Q (d ρ)->te σ H Q
def RT(tt:TT)(d:Fr->Res Bool):Prop:=∀As H Z ρ σ,Frm Jn K cn H Z ρ σ As->∀Q,WpT K cn E As H Z Q (d ρ)->tt σ H Q
def RS(ts:TS)(d:Fr->bX):Prop:=∀As H Z ρ σ,Frm Jn K cn H Z ρ σ As->∀D,Wp Jn K cn E As H Z D (d ρ)->ts D σ H
end
section
variable {Jn : iE} {K : PySem.W.Frag} {cn : Str → Option Addr} {E : XK} {As As1 : List (List Addr)} {H H1 : Hp} {Z Z1 : Addr → Prop} {ρ : Fr} {σ : St}
theorem WpX.ev(h:WpX K cn E As H Z x)(e:Ev As H Z As1 H1 Z1):WpX K cn E As1 H1 Z1 x:=λC a H' Z' p=>h C a H' Z' ⟨e.trans p.ev,p.cls,p.zi,p.flds⟩
theorem Wp.ev(h:Wp Jn K cn E As H Z D o)(e:Ev As H Z As1 H1 Z1):Wp Jn K cn E As1 H1 Z1 D o:=by
 cases o with
 |nx ρ=>exact λσ' As' H' Z' f q=>h σ' As' H' Z' f (e.trans q)
 |bk ρ=>exact λσ' As' H' Z' f q=>h σ' As' H' Z' f (e.trans q)
 |ct ρ=>exact λσ' As' H' Z' f q=>h σ' As' H' Z' f (e.trans q)
 |rt t=>exact λv H' Z' B p=>h v H' Z' B ⟨e.trans p.ev,p.rep,p.nd,p.bz,p.zi⟩
 |rm ρ t=>exact λv σ' As' H' Z' f q r=>h v σ' As' H' Z' f (e.trans q) r
 |ex x=>exact WpX.ev h e
 |no=>exact h
structure Mo (H:Hp) (Z:Addr->Prop) (H':Hp) (Z':Addr->Prop):Prop where
 same:Same H H'
 zz:∀a,Z a->Z' a
 zn:∀a,Z' a->Z a\/H a=none
 zi:∀a,Z' a->H' a≠none
theorem Mo.ev(m:Mo H Z H' Z'):Ev As H Z As H' Z':=
 ⟨λa o h _=>m.same a o h,λ_ h=>.inl h,m.zz,λa h=>(m.zn a h).imp_right .inr,λa h=>m.same.free h⟩
theorem Mo.trans(a:Mo H Z H1 Z1)(b:Mo H1 Z1 H2 Z2):Mo H Z H2 Z2:=
 ⟨a.same.trans b.same,λx h=>b.zz x (a.zz x h),λx h=>by
  rcases b.zn x h with q|q
  . exact a.zn x q
  . exact .inr (a.same.free q),b.zi⟩
theorem Frm.mo0(F:Frm Jn K cn H Z ρ σ As):Mo H Z H Z:=⟨Same.refl _,λ_ h=>h,λ_ h=>.inl h,F.zi⟩
theorem Post.mo(p:Post K cn As H Z mv H' Z' t v B):Mo H Z H' Z':=⟨p.same,p.zz,p.zn,p.zi⟩
theorem PostB.mo(p:PostB K cn H Z H' Z' t v B):Mo H Z H' Z':=⟨p.same,p.zz,p.zn,p.zi⟩
theorem PostT.mo(p:PostT H Z H' Z'):Mo H Z H' Z':=⟨p.same,p.zz,p.zn,p.zi⟩
theorem Mo.postT(p:Mo H Z H' Z'):PostT H Z H' Z':=⟨p.same,p.zz,p.zn,p.zi⟩
theorem Slot.mo(h:Slot K cn H Z o w A)(s:Same H H')(hz:∀a,Z a->Z' a):Slot K cn H' Z' o w A:=by
 cases o with
 |none=>exact h
 |some t=>obtain⟨v,e,r⟩:=h;exact⟨v,e,r.same s hz⟩
theorem Slots.mo(s:Same H H')(hz:∀a,Z a->Z' a):∀{ρ:Fr}{σ:St}{As:List (List Addr)},Slots K cn H Z ρ σ As->Slots K cn H' Z' ρ σ As
 |[],_,_,h=>h
 |o::ρ,_,_,h=>by
  obtain⟨w,σ',A,As',rfl,rfl,h1,h2⟩:=h
  exact⟨w,σ',A,As',rfl,rfl,h1.mo s hz,Slots.mo s hz h2⟩
theorem Slots.dom:∀{ρ:Fr}{σ:St}{As:List (List Addr)},Slots K cn H Z ρ σ As->∀a∈As.flatten,∃o,H a=some o/\tD o=false
 |[],_,_,h,a,ha=>by obtain⟨rfl,rfl⟩:=h;simp at ha
 |o::ρ,_,_,h,a,ha=>by
  obtain⟨w,σ',A,As',rfl,rfl,h1,h2⟩:=h
  rw[List.flatten_cons,List.mem_append]at ha
  rcases ha with ha|ha
  . cases o with
    |none=>have:A=[]:=h1;subst this;cases ha
    |some t=>obtain⟨v,e,r⟩:=h1;exact r.dom t a ha
  . exact Slots.dom h2 a ha
theorem Frm.mo(F:Frm Jn K cn H Z ρ σ As)(m:Mo H Z H' Z'):Frm Jn K cn H' Z' ρ σ As:=by
 refine⟨F.sl.mo m.same m.zz,F.nd,λa ha z=>?_,m.zi,F.pn⟩
 rcases m.zn a z with q|q
 . exact F.nz a ha q
 . obtain⟨o,e,_⟩:=F.sl.dom a ha
   rw[e]at q
   cases q
theorem WpE.mo(F:Frm Jn K cn H Z ρ σ As)(h:WpE K cn E As H Z mv Q r)(m:Mo H Z H' Z'):WpE K cn E As H' Z' mv Q r:=by
 cases r with
 |ok t=>exact λv H2 Z2 B p=>h v H2 Z2 B ⟨m.same.trans p.same,λa q=>p.zz a (m.zz a q),(m.trans p.mo).zn,p.zi,p.rep,p.nd,p.bz,λb hb=>(p.bn b hb).imp_left m.same.free⟩
 |ex x=>exact WpX.ev h m.ev
 |no=>exact h
theorem WpT.mo(h:WpT K cn E As H Z Q r)(m:Mo H Z H' Z'):WpT K cn E As H' Z' Q r:=by
 cases r with
 |ok b=>exact λH2 Z2 p=>h H2 Z2 (m.trans p.mo).postT
 |ex x=>exact WpX.ev h m.ev
 |no=>exact h
theorem Slots.get:∀{ρ:Fr}{σ:St}{As:List (List Addr)}{i:Nat}{t:T},Slots K cn H Z ρ σ As->ρ[i]?=some (some t)->∃v,σ[i]?=some (some v)/\Rep K cn H Z t v (As.getD i [])
 |[],_,_,_,_,h,e=>by simp at e
 |o::ρ,_,_,0,t,h,e=>by
  obtain⟨w,σ',A,As',rfl,rfl,h1,h2⟩:=h
  simp at e
  subst e
  obtain⟨v,rfl,r⟩:=h1
  exact⟨v,rfl,r⟩
 |o::ρ,_,_,i+1,t,h,e=>by
  obtain⟨w,σ',A,As',rfl,rfl,h1,h2⟩:=h
  obtain⟨v,e1,e2⟩:=Slots.get (i:=i) h2 (by simpa using e)
  exact⟨v,by simpa using e1,by simpa using e2⟩
theorem Slots.set(r:Rep K cn H Z t v B):∀{ρ:Fr}{σ:St}{As:List (List Addr)}(i:Nat),Slots K cn H Z ρ σ As->Slots K cn H Z (ρ.set i (some t)) (σ.set i (some v)) (As.set i B)
 |[],_,_,_,h=>by obtain⟨rfl,rfl⟩:=h;exact⟨rfl,rfl⟩
 |o::ρ,_,_,0,h=>by
  obtain⟨w,σ',A,As',rfl,rfl,h1,h2⟩:=h
  exact⟨some v,σ',B,As',rfl,rfl,⟨v,rfl,r⟩,h2⟩
 |o::ρ,_,_,i+1,h=>by
  obtain⟨w,σ',A,As',rfl,rfl,h1,h2⟩:=h
  exact⟨w,σ'.set i (some v),A,As'.set i B,rfl,rfl,h1,Slots.set r i h2⟩
theorem Slots.kill:∀{ρ:Fr}{σ:St}{As:List (List Addr)}(i:Nat),Slots K cn H Z ρ σ As->Slots K cn H Z (ρ.set i none) σ (As.set i [])
 |[],_,_,_,h=>by obtain⟨rfl,rfl⟩:=h;exact⟨rfl,rfl⟩
 |o::ρ,_,_,0,h=>by
  obtain⟨w,σ',A,As',rfl,rfl,h1,h2⟩:=h
  exact⟨w,σ',[],As',rfl,rfl,rfl,h2⟩
 |o::ρ,_,_,i+1,h=>by
  obtain⟨w,σ',A,As',rfl,rfl,h1,h2⟩:=h
  exact⟨w,σ',A,As'.set i [],rfl,rfl,h1,Slots.kill i h2⟩
theorem Slots.kill2(o:Option V):∀{ρ:Fr}{σ:St}{As:List (List Addr)}(i:Nat),Slots K cn H Z ρ σ As->Slots K cn H Z (ρ.set i none) (σ.set i o) (As.set i [])
 |[],_,_,_,h=>by obtain⟨rfl,rfl⟩:=h;exact⟨rfl,rfl⟩
 |o::ρ,_,_,0,h=>by
  obtain⟨w,σ',A,As',rfl,rfl,h1,h2⟩:=h
  exact⟨_,σ',[],As',rfl,rfl,rfl,h2⟩
 |o::ρ,_,_,i+1,h=>by
  obtain⟨w,σ',A,As',rfl,rfl,h1,h2⟩:=h
  exact⟨w,_,A,As'.set i [],rfl,rfl,h1,Slots.kill2 _ i h2⟩
theorem iS:∀{As:List (List Addr)}{i:Nat},a∈(As.set i B).flatten->a∈B\/a∈As.flatten
 |[],_,h=>by simp at h
 |A::As,0,h=>by
  rw[List.set_cons_zero,List.flatten_cons,List.mem_append]at h
  rw[List.flatten_cons,List.mem_append]
  exact h.imp_right .inr
 |A::As,i+1,h=>by
  rw[List.set_cons_succ,List.flatten_cons,List.mem_append]at h
  rw[List.flatten_cons,List.mem_append]
  rcases h with h|h
  . exact .inr (.inl h)
  . exact(iS h).imp_right .inr
theorem nR(hB:B.Nodup):∀{As:List (List Addr)}{i:Nat},As.flatten.Nodup->(∀b∈B,b∈As.flatten->b∈As.getD i [])->(As.set i B).flatten.Nodup
 |[],_,h,_=>h
 |A::As,0,h,d=>by
  rw[List.flatten_cons,List.nodup_append]at h
  rw[List.set_cons_zero,List.flatten_cons,List.nodup_append]
  refine⟨hB,h.2.1,λb hb c hc e=>?_⟩
  subst e
  have q:=d b hb (by rw[List.flatten_cons,List.mem_append];exact .inr hc)
  exact h.2.2 b (by simpa using q) b hc rfl
 |A::As,i+1,h,d=>by
  rw[List.flatten_cons,List.nodup_append]at h
  rw[List.set_cons_succ,List.flatten_cons,List.nodup_append]
  have d':∀b∈B,b∈As.flatten->b∈As.getD i []:=λb hb hc=>by
   have q:=d b hb (by rw[List.flatten_cons,List.mem_append];exact .inr hc)
   simpa using q
  refine⟨h.1,nR hB h.2.1 d',λa ha c hc e=>?_⟩
  subst e
  rcases iS hc with q|q
  . have z:=d a q (by rw[List.flatten_cons,List.mem_append];exact .inl ha)
    have z':a∈As.getD i []:=by simpa using z
    have z2:a∈As.flatten:=by
     rw[List.getD_eq_getElem?_getD]at z'
     cases e:As[i]? with
     |none=>rw[e]at z';cases z'
     |some C=>rw[e]at z';exact List.mem_flatten.mpr ⟨C,List.mem_of_getElem? e,z'⟩
    exact h.2.2 a ha a z2 rfl
  . exact h.2.2 a ha a q rfl
theorem bD(h:a∈As.getD i []):a∈As.flatten:=by
 rw[List.getD_eq_getElem?_getD]at h
 cases e:As[i]? with
 |none=>rw[e]at h;cases h
 |some C=>rw[e]at h;exact List.mem_flatten.mpr ⟨C,List.mem_of_getElem? e,h⟩
def zK(Jn:iE)(i:Nat):Bool:=Jn.all λp=>!(p.1==i)
theorem al6(h:zK Jn i=true)(o:Option V)(q:∀p∈Jn,σ[p.1]?=some (some p.2)):∀p∈Jn,(σ.set i o)[p.1]?=some (some p.2):=λp hp=>by
 unfold zK at h
 rw[List.all_eq_true]at h
 have:=h p hp
 rw[List.getElem?_set_ne (by intro z;simp[z]at this)]
 exact q p hp
theorem Frm.set(F:Frm Jn K cn H Z ρ σ As)(r:Rep K cn H Z t v B)(nd:B.Nodup)(bz:∀b∈B,¬Z b)(i:Nat)(fr:∀b∈B,b∈As.flatten->b∈As.getD i [])(hJ:zK Jn i=true):Frm Jn K cn H Z (ρ.set i (some t)) (σ.set i (some v)) (As.set i B):=
 ⟨F.sl.set r i,nR nd F.nd fr,λa ha=>(iS ha).elim (bz a) (F.nz a),F.zi,al6 hJ _ F.pn⟩
theorem Frm.kill(F:Frm Jn K cn H Z ρ σ As)(i:Nat):Frm Jn K cn H Z (ρ.set i none) σ (As.set i []):=
 ⟨F.sl.kill i,nR List.nodup_nil F.nd (λb hb=>by cases hb),λa ha=>(iS ha).elim (λq=>by cases q) (F.nz a),F.zi,F.pn⟩
def kills:List Nat->Fr->Fr
 |[],ρ=>ρ
 |i::is,ρ=>kills is (ρ.set i none)
def iB:List Nat->List (List Addr)->List (List Addr)
 |[],As=>As
 |i::is,As=>iB is (As.set i [])
theorem Frm.kills(mv:List Nat):∀{ρ:Fr}{As:List (List Addr)},Frm Jn K cn H Z ρ σ As->Frm Jn K cn H Z (TL.kills mv ρ) σ (iB mv As):=by
 induction mv with
 |nil=>exact λF=>F
 |cons i is ih=>exact λF=>ih (F.kill i)
theorem gO:∀{As:List (List Addr)},a∈(iB mv As).flatten->a∈As.flatten:=by
 induction mv with
 |nil=>exact λh=>h
 |cons i is ih=>exact λh=>(iS (ih h)).elim (λq=>by cases q) id
theorem ar6:∀{As:List (List Addr)},As.flatten.Nodup->i∈mv->a∈As.getD i []->a∉(iB mv As).flatten:=by
 induction mv with
 |nil=>exact λ_ h=>by cases h
 |cons j js ih=>
  intro As nd hi ha hm
  by_cases e:i=j
  . subst e
    have h1:=gO (mv:=js) (As:=As.set i []) hm
    have:∀{As:List (List Addr)}{i:Nat},As.flatten.Nodup->a∈As.getD i []->a∉(As.set i []).flatten:=by
     intro As
     induction As with
     |nil=>intro i _ h;simp at h
     |cons A As ih2=>
      intro i nd h hm
      rw[List.flatten_cons,List.nodup_append]at nd
      cases i with
      |zero=>
       rw[List.set_cons_zero,List.flatten_cons,List.nil_append]at hm
       exact nd.2.2 a (by simpa using h) a hm rfl
      |succ i=>
       rw[List.set_cons_succ,List.flatten_cons,List.mem_append]at hm
       have h':a∈As.getD i []:=by simpa using h
       rcases hm with hm|hm
       . exact nd.2.2 a hm a (bD h') rfl
       . exact ih2 nd.2.1 h' hm
    exact this nd ha h1
  . have hi':i∈js:=(List.mem_cons.mp hi).resolve_left e
    refine ih (As:=As.set j []) (nR List.nodup_nil nd (λb hb=>by cases hb)) hi' ?_ hm
    rw[List.getD_eq_getElem?_getD,List.getElem?_set_ne (Ne.symm e),<-List.getD_eq_getElem?_getD]
    exact ha
def dz7(i:Nat)(ρ:Fr):Fr:=match ρ[i]? with
 |some (some t)=>ρ.set i (some (frz t))
 |_=>ρ
end
end TL
namespace TL
open PySem PySem.Spec PyProof.Rows L2
section
variable {Jn : iE} {K : PySem.W.Frag} {cn : Str → Option Addr} {E : XK}
theorem WpB.wpE(w:WpB K cn E As H Z Q r):WpE K cn E As H Z mv Q r:=by
 cases r with
 |ok t=>exact λv H' Z' B p=>w v H' Z' B ⟨p.same,p.zz,p.zn,p.zi,p.rep⟩
 |ex x=>exact w
 |no=>exact w
theorem RE.rb(h:RE Jn K cn E mv te d):RB Jn K cn E te d:=λAs H Z ρ σ F Q w=>h As H Z ρ σ F Q w.wpE
def aB(i:Nat):Fr->Res T:=λρ=>match ρ[i]? with
 |some (some t)=>.ok t
 |_=>.no
theorem dk3(i:Nat):RB Jn K cn E (bk0 i) (aB i):=λAs H Z ρ σ F Q w=>by
 unfold aB at w
 cases e:ρ[i]? with
 |none=>rw[e]at w;exact False.elim w
 |some o=>
  rw[e]at w
  cases o with
  |none=>exact False.elim w
  |some t=>
   obtain⟨v,es,r⟩:=F.sl.get e
   exact⟨v,es,w v H Z _ ⟨Same.refl _,λ_ h=>h,λ_ h=>.inl h,F.zi,r⟩⟩
theorem dp7(i:Nat):RE Jn K cn E [i] (bk0 i) (aB i):=λAs H Z ρ σ F Q w=>by
 unfold aB at w
 cases e:ρ[i]? with
 |none=>rw[e]at w;exact False.elim w
 |some o=>
  rw[e]at w
  cases o with
  |none=>exact False.elim w
  |some t=>
   obtain⟨v,es,r⟩:=F.sl.get e
   refine⟨v,es,w v H Z _ ⟨Same.refl _,λ_ h=>h,λ_ h=>.inl h,F.zi,r,?_,λb hb=>F.nz b (bD hb),λb hb=>.inr ⟨i,List.mem_cons_self,hb⟩⟩⟩
   have nd:=F.nd
   rw[List.getD_eq_getElem?_getD]
   cases q:As[i]? with
   |none=>exact List.nodup_nil
   |some C=>exact List.Nodup.sublist (List.sublist_flatten_of_mem (List.mem_of_getElem? q)) nd
def bE(d:Fr->Res T):Fr->Res T:=λρ=>(d ρ).bind λt=>if cO t=true then .ok t else .no
theorem RB.chk(h:RB Jn K cn E te d):RE Jn K cn E [] te (bE d):=λAs H Z ρ σ F Q w=>h As H Z ρ σ F Q (by
 unfold bE at w
 cases e:d ρ with
 |ok t=>
  rw[e]at w
  intro v H' Z' B p
  by_cases c:cO t=true
  . simp only[Res.bind,if_pos c]at w
    have:=p.rep.bare t c
    subst this
    exact w v H' Z' [] ⟨p.same,p.zz,p.zn,p.zi,p.rep,List.nodup_nil,eH,eH⟩
  . simp only[Res.bind,if_neg c]at w
    exact False.elim w
 |ex x=>rw[e]at w;exact w
 |no=>rw[e]at w;exact w)
def ay0(d:Fr->Res T):Fr->Res T:=λρ=>(d ρ).bind λt=>.ok (frz t)
theorem RE.frz{te:TE}{d:Fr->Res T}(h:RE Jn K cn E [] te d):RE Jn K cn E [] te (ay0 d):=λAs H Z ρ σ F Q w=>h As H Z ρ σ F Q (by
 unfold ay0 at w
 cases e:d ρ with
 |ok t=>
  rw[e]at w
  intro v H' Z' B p
  refine w v H' (λa=>Z' a\/a∈B) [] ⟨p.same,λa h=>.inl (p.zz a h),λa h=>?_,λa h=>?_,Rep.frz t p.rep (λa h=>.inl h) (λa h=>.inr h),List.nodup_nil,eH,eH⟩
  . rcases h with h|h
    . exact p.zn a h
    . rcases p.bn a h with q|⟨i,q,_⟩
      . exact .inr q
      . cases q
  . rcases h with h|h
    . exact p.zi a h
    . obtain⟨o,q,_⟩:=p.rep.dom t a h
      rw[q]
      exact(λz=>nomatch z)
 |ex x=>rw[e]at w;exact w
 |no=>rw[e]at w;exact w)
def dC(t:T):Fr->Res T:=λ_=>.ok t
theorem bz0(h:∀H Z,Rep K cn H Z t v []):RE Jn K cn E [] (tC v) (dC t):=λAs H Z ρ σ F Q w=>
 w v H Z [] ⟨Same.refl _,λ_ h=>h,λ_ h=>.inl h,F.zi,h H Z,List.nodup_nil,eH,eH⟩
theorem du2:RE Jn K cn E [] (tC (.int i)) (dC (.int i)):=bz0 λH Z=>by simp[Rep]
theorem db4:RE Jn K cn E [] (tC (.str i)) (dC (.str i)):=bz0 λH Z=>by simp[Rep]
theorem dq6:RE Jn K cn E [] (tC (.bl i)) (dC (.bl i)):=bz0 λH Z=>by simp[Rep]
theorem cq9:RE Jn K cn E [] (tC .non) (dC .non):=bz0 λH Z=>by simp[Rep]
theorem dx7:RE Jn K cn E [] (tC (.ty n)) (dC (.ty n)):=bz0 λH Z=>by simp[Rep]
def nS(K:PySem.W.Frag)(cn:Str->Option Addr)(r:R2)(f:T->T->Res T):Prop:=
 ∀(E:XK)(As:List (List Addr))(H:Hp)(Z:Addr->Prop)(t u:T)(x y:V)(A B:List Addr)(Q:VK),(∀a,Z a->H a≠none)->Rep K cn H Z t x A->Rep K cn H Z u y B->WpE K cn E As H Z [] Q (f t u)->r x y H Q
def aE(f:T->T->Res T)(a b:Fr->Res T):Fr->Res T:=λρ=>(a ρ).bind λx=>(b ρ).bind λy=>f x y
theorem dn7(hr:nS K cn r f)(ha:RB Jn K cn E ta a)(hb:RB Jn K cn E tb b):RE Jn K cn E [] (tOp r ta tb) (aE f a b):=λAs H Z ρ σ F Q w=>by
 unfold aE at w
 refine ha As H Z ρ σ F _ ?_
 cases e:a ρ with
 |ok t=>
  rw[e]at w
  intro v H1 Z1 B p
  refine hb As H1 Z1 ρ σ (F.mo p.mo) _ ?_
  simp only[Res.bind]at w
  cases e2:b ρ with
  |ok u=>
   rw[e2]at w
   intro v2 H2 Z2 B2 p2
   exact hr E As H2 Z2 t u v v2 B B2 Q p2.zi (p.rep.same p2.same p2.zz) p2.rep (w.mo F (p.mo.trans p2.mo))
  |ex x=>rw[e2]at w;exact WpX.ev w p.mo.ev
  |no=>rw[e2]at w;exact w
 |ex x=>rw[e]at w;exact w
 |no=>rw[e]at w;exact w
def eR(f:T->Res T)(a:Fr->Res T):Fr->Res T:=λρ=>(a ρ).bind f
def R1R(K:PySem.W.Frag)(cn:Str->Option Addr)(r:V->Hp->VK->Prop)(f:T->Res T):Prop:=
 ∀(E:XK)(As:List (List Addr))(H:Hp)(Z:Addr->Prop)(t:T)(x:V)(A:List Addr)(Q:VK),(∀a,Z a->H a≠none)->Rep K cn H Z t x A->WpE K cn E As H Z [] Q (f t)->r x H Q
theorem dp8(hr:R1R K cn r f)(ha:RB Jn K cn E ta a):RE Jn K cn E [] (tUn r ta) (eR f a):=λAs H Z ρ σ F Q w=>by
 unfold eR at w
 refine ha As H Z ρ σ F _ ?_
 cases e:a ρ with
 |ok t=>
  rw[e]at w
  exact λv H1 Z1 B p=>hr E As H1 Z1 t v B Q p.zi p.rep (WpE.mo F w p.mo)
 |ex x=>rw[e]at w;exact w
 |no=>rw[e]at w;exact w
def rN(f g:T->T->Res T)(a b c:Fr->Res T):Fr->Res T:=λρ=>(a ρ).bind λx=>(b ρ).bind λy=>(f x y).bind λk=>match k with
 |.bl true=>(c ρ).bind λz=>g y z
 |.bl false=>.ok (.bl false)
 |_=>.no
theorem WpE.bl(w:WpE K cn E As H Z [] Q (.ok (.bl b)))(zi:∀a,Z a->H a≠none):Q (.bl b) H:=
 w (.bl b) H Z [] ⟨Same.refl _,λ_ h=>h,λ_ h=>.inl h,zi,by simp[Rep],List.nodup_nil,eH,eH⟩
theorem cf2(hr:nS K cn r f)(hr':nS K cn r' g)(ha:RB Jn K cn E ta a)(hb:RB Jn K cn E tb b)(hc:RB Jn K cn E tc c):RE Jn K cn E [] (au8 r r' ta tb tc) (rN f g a b c):=λAs H Z ρ σ F Q w=>by
 unfold rN at w
 refine ha As H Z ρ σ F _ ?_
 cases e:a ρ with
 |ok t=>
  rw[e]at w
  intro v H1 Z1 B p
  refine hb As H1 Z1 ρ σ (F.mo p.mo) _ ?_
  simp only[Res.bind]at w
  cases e2:b ρ with
  |ok u=>
   rw[e2]at w
   intro v2 H2 Z2 B2 p2
   refine hr E As H2 Z2 t u v v2 B B2 _ p2.zi (p.rep.same p2.same p2.zz) p2.rep ?_
   simp only at w
   cases e3:f t u with
   |ok k=>
    rw[e3]at w
    intro v3 H3 Z3 B3 p3
    have m3:=(p.mo.trans p2.mo).trans p3.mo
    cases k with
    |bl k=>
     have q:=p3.rep
     simp only[Rep]at q
     obtain⟨rfl,rfl⟩:=q
     refine⟨k,rfl,?_⟩
     cases k with
     |true=>
      rw[if_pos rfl]
      refine hc As H3 Z3 ρ σ (F.mo m3) _ ?_
      simp only at w
      cases e4:c ρ with
      |ok z=>
       rw[e4]at w
       intro v4 H4 Z4 B4 p4
       exact hr' E As H4 Z4 u z v2 v4 B2 B4 Q p4.zi (p2.rep.same (p3.same.trans p4.same) (λa h=>p4.zz a (p3.zz a h))) p4.rep (WpE.mo F w (m3.trans p4.mo))
      |ex x=>rw[e4]at w;exact WpX.ev w m3.ev
      |no=>rw[e4]at w;exact w
     |false=>
      rw[if_neg (by decide)]
      exact WpE.bl (WpE.mo F w m3) p3.zi
    |_=>exact False.elim w
   |ex x=>rw[e3]at w;exact WpX.ev w (p.mo.trans p2.mo).ev
   |no=>rw[e3]at w;exact w
  |ex x=>rw[e2]at w;exact WpX.ev w p.mo.ev
  |no=>rw[e2]at w;exact w
 |ex x=>rw[e]at w;exact w
 |no=>rw[e]at w;exact w
def kZ(a b:Fr->Res T):Fr->Res T:=λρ=>(a ρ).bind λx=>match x with
 |.bl true=>b ρ
 |.bl false=>.ok (.bl false)
 |_=>.no
def xI(a b:Fr->Res T):Fr->Res T:=λρ=>(a ρ).bind λx=>match x with
 |.bl true=>.ok (.bl true)
 |.bl false=>b ρ
 |_=>.no
def tS(a:Fr->Res T):Fr->Res T:=λρ=>(a ρ).bind λx=>match x with
 |.bl b=>.ok (.bl (!b))
 |_=>.no
theorem cf6(ha:RB Jn K cn E ta a)(hb:RE Jn K cn E [] tb b):RE Jn K cn E [] (cn5 ta tb) (kZ a b):=λAs H Z ρ σ F Q w=>by
 unfold kZ at w
 refine ha As H Z ρ σ F _ ?_
 cases e:a ρ with
 |ok t=>
  rw[e]at w
  intro v H1 Z1 B p
  cases t with
  |bl k=>
   have q:=p.rep
   simp only[Rep]at q
   obtain⟨rfl,rfl⟩:=q
   refine⟨k,rfl,?_⟩
   cases k with
   |true=>rw[if_pos rfl];exact hb As H1 Z1 ρ σ (F.mo p.mo) Q (WpE.mo F w p.mo)
   |false=>rw[if_neg (by decide)];exact WpE.bl (WpE.mo F w p.mo) p.zi
  |_=>exact False.elim w
 |ex x=>rw[e]at w;exact w
 |no=>rw[e]at w;exact w
theorem do1(ha:RB Jn K cn E ta a)(hb:RE Jn K cn E [] tb b):RE Jn K cn E [] (de3 ta tb) (xI a b):=λAs H Z ρ σ F Q w=>by
 unfold xI at w
 refine ha As H Z ρ σ F _ ?_
 cases e:a ρ with
 |ok t=>
  rw[e]at w
  intro v H1 Z1 B p
  cases t with
  |bl k=>
   have q:=p.rep
   simp only[Rep]at q
   obtain⟨rfl,rfl⟩:=q
   refine⟨k,rfl,?_⟩
   cases k with
   |false=>rw[if_neg (by decide)];exact hb As H1 Z1 ρ σ (F.mo p.mo) Q (WpE.mo F w p.mo)
   |true=>rw[if_pos rfl];exact WpE.bl (WpE.mo F w p.mo) p.zi
  |_=>exact False.elim w
 |ex x=>rw[e]at w;exact w
 |no=>rw[e]at w;exact w
theorem cm8(ha:RB Jn K cn E ta a):RE Jn K cn E [] (cx4 ta) (tS a):=λAs H Z ρ σ F Q w=>by
 unfold tS at w
 refine ha As H Z ρ σ F _ ?_
 cases e:a ρ with
 |ok t=>
  rw[e]at w
  intro v H1 Z1 B p
  cases t with
  |bl k=>
   have q:=p.rep
   simp only[Rep]at q
   obtain⟨rfl,rfl⟩:=q
   exact⟨k,rfl,WpE.bl (WpE.mo F w p.mo) p.zi⟩
  |_=>exact False.elim w
 |ex x=>rw[e]at w;exact w
 |no=>rw[e]at w;exact w
def dIf(c:Fr->Res Bool)(a b:Fr->Res T):Fr->Res T:=λρ=>(c ρ).bind λk=>if k=true then a ρ else b ρ
theorem dd6(hc:RT Jn K cn E tt c)(ha:RE Jn K cn E [] ta a)(hb:RE Jn K cn E [] tb b):RE Jn K cn E [] (tIf tt ta tb) (dIf c a b):=λAs H Z ρ σ F Q w=>by
 unfold dIf at w
 refine hc As H Z ρ σ F _ ?_
 cases e:c ρ with
 |ok k=>
  rw[e]at w
  intro H1 Z1 p
  simp only[Res.bind]at w
  split
  . next h=>rw[if_pos h]at w;exact ha As H1 Z1 ρ σ (F.mo p.mo) Q (WpE.mo F w p.mo)
  . next h=>rw[if_neg h]at w;exact hb As H1 Z1 ρ σ (F.mo p.mo) Q (WpE.mo F w p.mo)
 |ex x=>rw[e]at w;exact w
 |no=>rw[e]at w;exact w
def toB:T->Res Bool
 |.bl b=>.ok b
 |_=>.no
def bG(a:Fr->Res T):Fr->Res Bool:=λρ=>(a ρ).bind toB
theorem bq3(ha:RB Jn K cn E ta a):RT Jn K cn E (ap8 ta) (bG a):=λAs H Z ρ σ F Q w=>by
 unfold bG at w
 refine ha As H Z ρ σ F _ ?_
 cases e:a ρ with
 |ok t=>
  rw[e]at w
  intro v H1 Z1 B p
  cases t with
  |bl k=>
   have q:=p.rep
   simp only[Rep]at q
   obtain⟨rfl,rfl⟩:=q
   exact⟨k,rfl,w H1 Z1 p.mo.postT⟩
  |_=>exact False.elim w
 |ex x=>rw[e]at w;exact w
 |no=>rw[e]at w;exact w
def uL:T->Res Bool
 |.non=>.ok false
 |.bl b=>.ok b
 |.int i=>.ok (i !=0)
 |.str x=>if x.length<=sizeLine then .ok ((x.length:Int) !=0)else .no
 |.lst _ xs=>.ok (!xs.isEmpty)
 |.tup xs=>.ok (!xs.isEmpty)
 |_=>.no
def jF(a:Fr->Res T):Fr->Res Bool:=λρ=>(a ρ).bind uL
theorem Reps.isEmpty(r:Reps K cn H Z ts vs A):vs.isEmpty=ts.isEmpty:=by
 have h:=Reps.length ts r
 cases ts<;>cases vs<;>simp_all
theorem cn7(r:Rep K cn H Z t v B)(h:uL t=.ok k):bh0 K v H k:=by
 cases t with
 |non=>simp only[Rep]at r;obtain⟨rfl,_⟩:=r;cases h;rfl
 |bl b=>simp only[Rep]at r;obtain⟨rfl,_⟩:=r;cases h;rfl
 |int b=>simp only[Rep]at r;obtain⟨rfl,_⟩:=r;cases h;rfl
 |str b=>
  simp only[Rep]at r
  obtain⟨rfl,_⟩:=r
  simp only[uL]at h
  split at h
  . cases h;exact⟨by assumption,rfl⟩
  . cases h
 |lst o xs=>
  cases h
  cases o with
  |true=>
   simp only[Rep]at r
   obtain⟨a,vs,B,rfl,rfl,e,r⟩:=r
   exact .inl ⟨vs,SqL.of e,by rw[r.isEmpty]⟩
  |false=>
   simp only[Rep]at r
   obtain⟨a,vs,rfl,rfl,e,r⟩:=r
   exact .inl ⟨vs,e.sq,by rw[r.isEmpty]⟩
 |tup xs=>
  cases h
  simp only[Rep]at r
  obtain⟨a,vs,rfl,e,r⟩:=r
  exact .inr (.inl ⟨vs,e,by rw[r.isEmpty]⟩)
 |ty _=>cases h
 |ins _ _ _ _=>cases h
theorem bk9(h:uL t=.ex x):False:=by
 cases t<;>simp only[uL]at h<;>first|cases h|(split at h<;>cases h)
theorem dj2(ha:RB Jn K cn E ta a):RT Jn K cn E (λσ H Q=>ta σ H λx H'=>∃k,bh0 K x H' k/\Q k H') (jF a):=λAs H Z ρ σ F Q w=>by
 unfold jF at w
 refine ha As H Z ρ σ F _ ?_
 cases e:a ρ with
 |ok t=>
  rw[e]at w
  intro v H1 Z1 B p
  simp only[Res.bind]at w
  cases e2:uL t with
  |ok k=>rw[e2]at w;exact⟨k,cn7 p.rep e2,w H1 Z1 p.mo.postT⟩
  |ex x=>exact(bk9 e2).elim
  |no=>rw[e2]at w;exact w.elim
 |ex x=>rw[e]at w;exact w
 |no=>rw[e]at w;exact w
def jL(c:Fr->Res Bool):Fr->Res Bool:=λρ=>(c ρ).bind λk=>.ok (!k)
def bo5(c d:Fr->Res Bool):Fr->Res Bool:=λρ=>(c ρ).bind λk=>if k=true then d ρ else .ok false
def rS(c d:Fr->Res Bool):Fr->Res Bool:=λρ=>(c ρ).bind λk=>if k=true then .ok true else d ρ
theorem dg0(hc:RT Jn K cn E tt c):RT Jn K cn E (dr0 tt) (jL c):=λAs H Z ρ σ F Q w=>by
 unfold jL at w
 refine hc As H Z ρ σ F _ ?_
 cases e:c ρ with
 |ok k=>rw[e]at w;exact λH1 Z1 p=>w H1 Z1 p
 |ex x=>rw[e]at w;exact w
 |no=>rw[e]at w;exact w
theorem dj3(hc:RT Jn K cn E tt c)(hd:RT Jn K cn E uu d):RT Jn K cn E (cz9 tt uu) (bo5 c d):=λAs H Z ρ σ F Q w=>by
 unfold bo5 at w
 refine hc As H Z ρ σ F _ ?_
 cases e:c ρ with
 |ok k=>
  rw[e]at w
  intro H1 Z1 p
  cases k with
  |true=>rw[if_pos rfl];exact hd As H1 Z1 ρ σ (F.mo p.mo) Q (WpT.mo w p.mo)
  |false=>rw[if_neg (by decide)];exact w H1 Z1 p
 |ex x=>rw[e]at w;exact w
 |no=>rw[e]at w;exact w
theorem da6(hc:RT Jn K cn E tt c)(hd:RT Jn K cn E uu d):RT Jn K cn E (tOr tt uu) (rS c d):=λAs H Z ρ σ F Q w=>by
 unfold rS at w
 refine hc As H Z ρ σ F _ ?_
 cases e:c ρ with
 |ok k=>
  rw[e]at w
  intro H1 Z1 p
  cases k with
  |false=>rw[if_neg (by decide)];exact hd As H1 Z1 ρ σ (F.mo p.mo) Q (WpT.mo w p.mo)
  |true=>rw[if_pos rfl];exact w H1 Z1 p
 |ex x=>rw[e]at w;exact w
 |no=>rw[e]at w;exact w
end
end TL
namespace TL
open PySem PySem.Spec PyProof.Rows L2
section
variable {Jn : iE} {K : PySem.W.Frag} {cn : Str → Option Addr} {E : XK}
structure dm7 (K:PySem.W.Frag) (cn:Str->Option Addr) (As:List (List Addr)) (H:Hp) (Z:Addr->Prop) (mv:List Nat) (H':Hp) (Z':Addr->Prop) (ts:List T) (vs:List V) (B:List Addr):Prop where
 mo:Mo H Z H' Z'
 rep:Reps K cn H' Z' ts vs B
 nd:B.Nodup
 bz:∀b∈B,¬Z' b
 bn:∀b∈B,H b=none\/∃i∈mv,b∈As.getD i []
def WpA(K:PySem.W.Frag)(cn:Str->Option Addr)(E:XK)(As:List (List Addr))(H:Hp)(Z:Addr->Prop)(mv:List Nat)(Q:List V->Hp->Prop):Res (List T)->Prop
 |.ok ts=>∀vs H' Z' B,dm7 K cn As H Z mv H' Z' ts vs B->Q vs H'
 |.ex x=>WpX K cn E As H Z x
 |.no=>False
def dw8(K:PySem.W.Frag)(cn:Str->Option Addr)(E:XK)(As:List (List Addr))(H:Hp)(Z:Addr->Prop)(Q:List V->Hp->Prop):Res (List T)->Prop
 |.ok ts=>∀vs H' Z' B,Mo H Z H' Z'->Reps K cn H' Z' ts vs B->Q vs H'
 |.ex x=>WpX K cn E As H Z x
 |.no=>False
def RA(Jn:iE)(K:PySem.W.Frag)(cn:Str->Option Addr)(E:XK)(mv:List Nat)(ta:TA)(d:Fr->Res (List T)):Prop:=∀As H Z ρ σ,Frm Jn K cn H Z ρ σ As->∀Q,WpA K cn E As H Z mv Q (d ρ)->ta σ H Q
def wW(Jn:iE)(K:PySem.W.Frag)(cn:Str->Option Addr)(E:XK)(ta:TA)(d:Fr->Res (List T)):Prop:=∀As H Z ρ σ,Frm Jn K cn H Z ρ σ As->∀Q,dw8 K cn E As H Z Q (d ρ)->ta σ H Q
def aJ:Fr->Res (List T):=λ_=>.ok []
def aD(a:Fr->Res T)(r:Fr->Res (List T)):Fr->Res (List T):=λρ=>(a ρ).bind λt=>(r ρ).bind λts=>.ok (t::ts)
theorem df4:RA Jn K cn E [] ap0 aJ:=λAs H Z ρ σ F Q w=>w [] H Z [] ⟨F.mo0,Reps.nil,List.nodup_nil,eH,eH⟩
theorem ce8:wW Jn K cn E ap0 aJ:=λAs H Z ρ σ F Q w=>w [] H Z [] F.mo0 Reps.nil
theorem cm2{As:List (List Addr)}{a:Addr}:∀{i j:Nat},As.flatten.Nodup->a∈As.getD i []->a∈As.getD j []->i=j:=by
 induction As with
 |nil=>intro i j _ h;simp at h
 |cons A As ih=>
  intro i j nd h1 h2
  rw[List.flatten_cons,List.nodup_append]at nd
  cases i with
  |zero=>
   cases j with
   |zero=>rfl
   |succ j=>exact absurd rfl (nd.2.2 a (by simpa using h1) a (bD (by simpa using h2)))
  |succ i=>
   cases j with
   |zero=>exact absurd rfl (nd.2.2 a (by simpa using h2) a (bD (by simpa using h1)))
   |succ j=>exact congrArg (· +1) (ih (i:=i) (j:=j) nd.2.1 (by simpa using h1) (by simpa using h2))
theorem cd9{mv mw:List Nat}{te:TE}{tr:TA}{a:Fr->Res T}{r:Fr->Res (List T)}(ha:RE Jn K cn E mv te a)(hr:RA Jn K cn E mw tr r)(hd:(mv.all λi=>!mw.contains i)=true:=by rfl):RA Jn K cn E (mv++mw) (tV te tr) (aD a r):=λAs H Z ρ σ F Q w=>by
 unfold aD at w
 refine ha As H Z ρ σ F _ ?_
 cases e:a ρ with
 |ok t=>
  rw[e]at w
  intro v H1 Z1 B p
  refine hr As H1 Z1 ρ σ (F.mo p.mo) _ ?_
  simp only[Res.bind]at w
  cases e2:r ρ with
  |ok ts=>
   rw[e2]at w
   intro vs H2 Z2 B2 p2
   refine w (v::vs) H2 Z2 (B++B2) ⟨p.mo.trans p2.mo,?_,?_,?_,?_⟩
   . simp only[Reps]
     exact⟨v,vs,B,B2,rfl,rfl,p.rep.same p2.mo.same p2.mo.zz,p2.rep⟩
   . rw[List.nodup_append]
     refine⟨p.nd,p2.nd,λb hb c hc z=>?_⟩
     subst z
     obtain⟨o,ho,_⟩:=p.rep.dom t b hb
     rcases p2.bn b hc with q|⟨j,hj,q⟩
     . rw[ho]at q;cases q
     . rcases p.bn b hb with z|⟨i,hi,z⟩
       . obtain⟨o',ho',_⟩:=F.sl.dom b (bD q)
         rw[ho']at z;cases z
       . have eij:=cm2 F.nd z q
         subst eij
         have hh:=List.all_eq_true.mp hd i hi
         simp at hh
         exact hh hj
   . intro b hb
     rcases List.mem_append.mp hb with hb|hb
     . intro z
       rcases p2.mo.zn b z with z|z
       . exact p.bz b hb z
       . obtain⟨o,ho,_⟩:=p.rep.dom t b hb
         rw[ho]at z;cases z
     . exact p2.bz b hb
   . intro b hb
     rcases List.mem_append.mp hb with hb|hb
     . exact(p.bn b hb).imp_right λ⟨i,hi,z⟩=>⟨i,List.mem_append_left _ hi,z⟩
     . rcases p2.bn b hb with z|⟨i,hi,z⟩
       . exact .inl (p.same.free z)
       . exact .inr ⟨i,List.mem_append_right _ hi,z⟩
  |ex x=>rw[e2]at w;exact WpX.ev w p.mo.ev
  |no=>rw[e2]at w;exact w
 |ex x=>rw[e]at w;exact w
 |no=>rw[e]at w;exact w
theorem ch3(ha:RB Jn K cn E te a)(hr:wW Jn K cn E tr r):wW Jn K cn E (tV te tr) (aD a r):=λAs H Z ρ σ F Q w=>by
 unfold aD at w
 refine ha As H Z ρ σ F _ ?_
 cases e:a ρ with
 |ok t=>
  rw[e]at w
  intro v H1 Z1 B p
  refine hr As H1 Z1 ρ σ (F.mo p.mo) _ ?_
  simp only[Res.bind]at w
  cases e2:r ρ with
  |ok ts=>
   rw[e2]at w
   intro vs H2 Z2 B2 m2 r2
   refine w (v::vs) H2 Z2 (B++B2) (p.mo.trans m2) ?_
   simp only[Reps]
   exact⟨v,vs,B,B2,rfl,rfl,p.rep.same m2.same m2.zz,r2⟩
  |ex x=>rw[e2]at w;exact WpX.ev w p.mo.ev
  |no=>rw[e2]at w;exact w
 |ex x=>rw[e]at w;exact w
 |no=>rw[e]at w;exact w
def dF(r:Fr->Res (List T)):Fr->Res T:=λρ=>(r ρ).bind λts=>if ts.length<=sizeLine then .ok (.lst true ts)else .no
def kS(r:Fr->Res (List T)):Fr->Res T:=λρ=>(r ρ).bind λts=>if ts.length<=sizeLine then .ok (.tup ts)else .no
theorem Mo.new(o:HO)(hp:H p=none)(zi:∀a,Z a->H a≠none):Mo H Z (L2.upd H p o) Z:=
 ⟨bl0 hp o,λ_ h=>h,λ_ h=>.inl h,λa h=>by
  by_cases e:a=p
  . subst e;rw[eT];exact(λz=>nomatch z)
  . rw[cK e];exact zi a h⟩
theorem cn9(h:RA Jn K cn E mv ta r):RE Jn K cn E mv (di2 ta) (dF r):=λAs H Z ρ σ F Q w=>by
 unfold dF at w
 refine h As H Z ρ σ F _ ?_
 cases e:r ρ with
 |ok ts=>
  rw[e]at w
  intro vs H1 Z1 B p
  simp only[Res.bind]at w
  split at w
  . next hl=>
    refine⟨by rw[Reps.length ts p.rep];exact hl,λq hq=>?_⟩
    have hZ:¬Z1 q:=λz=>p.mo.zi q z hq
    have m:=Mo.new (.lst vs) hq p.mo.zi
    refine w (.ref q) _ Z1 (q::B) ⟨(p.mo.trans m).same,(p.mo.trans m).zz,(p.mo.trans m).zn,m.zi,?_,?_,?_,?_⟩
    . simp only[Rep]
      exact⟨q,vs,B,rfl,rfl,eT,p.rep.same m.same m.zz⟩
    . refine List.nodup_cons.mpr ⟨λhb=>?_,p.nd⟩
      obtain⟨o,ho,_⟩:=Reps.dom ts p.rep q hb
      rw[ho]at hq;cases hq
    . intro b hb
      rcases List.mem_cons.mp hb with rfl|hb
      . exact hZ
      . exact p.bz b hb
    . intro b hb
      rcases List.mem_cons.mp hb with rfl|hb
      . exact .inl (p.mo.same.free hq)
      . exact p.bn b hb
  . exact w.elim
 |ex x=>rw[e]at w;exact w
 |no=>rw[e]at w;exact w
theorem dy1(h:RA Jn K cn E mv ta r):RE Jn K cn E mv (dk0 ta) (kS r):=λAs H Z ρ σ F Q w=>by
 unfold kS at w
 refine h As H Z ρ σ F _ ?_
 cases e:r ρ with
 |ok ts=>
  rw[e]at w
  intro vs H1 Z1 B p
  simp only[Res.bind]at w
  split at w
  . next hl=>
    refine⟨by rw[Reps.length ts p.rep];exact hl,λq hq=>?_⟩
    have m:=Mo.new (.tup vs) hq p.mo.zi
    refine w (.ref q) _ Z1 B ⟨(p.mo.trans m).same,(p.mo.trans m).zz,(p.mo.trans m).zn,m.zi,?_,p.nd,p.bz,p.bn⟩
    simp only[Rep]
    exact⟨q,vs,rfl,SqT.of eT,p.rep.same m.same m.zz⟩
  . exact w.elim
 |ex x=>rw[e]at w;exact w
 |no=>rw[e]at w;exact w
def uO(K:PySem.W.Frag)(cn:Str->Option Addr)(r:List V->Hp->VK->Prop)(f:List T->Res T):Prop:=
 ∀(E:XK)(As:List (List Addr))(H:Hp)(Z:Addr->Prop)(ts:List T)(xs:List V)(A:List Addr)(Q:VK),(∀a,Z a->H a≠none)->Reps K cn H Z ts xs A->WpE K cn E As H Z [] Q (f ts)->r xs H Q
def bT(f:List T->Res T)(r:Fr->Res (List T)):Fr->Res T:=λρ=>(r ρ).bind f
theorem dh8(hr:uO K cn r f)(ha:wW Jn K cn E ta a):RE Jn K cn E [] (tCB r ta) (bT f a):=λAs H Z ρ σ F Q w=>by
 unfold bT at w
 refine ha As H Z ρ σ F _ ?_
 cases e:a ρ with
 |ok ts=>rw[e]at w;exact λvs H1 Z1 B m p=>hr E As H1 Z1 ts vs B Q m.zi p (WpE.mo F w m)
 |ex x=>rw[e]at w;exact w
 |no=>rw[e]at w;exact w
def RMR(K:PySem.W.Frag)(cn:Str->Option Addr)(ty:String)(r:V->List V->Hp->VK->Prop)(f:T->List T->Res T):Prop:=
 ∀(E:XK)(As:List (List Addr))(H:Hp)(Z:Addr->Prop)(t:T)(ts:List T)(x:V)(xs:List V)(A B:List Addr)(Q:VK),(∀a,Z a->H a≠none)->Rep K cn H Z t x A->Reps K cn H Z ts xs B->WpE K cn E As H Z [] Q (f t ts)->r x xs H Q
def pZ(ok:T->Bool)(f:T->List T->Res T)(o:Fr->Res T)(r:Fr->Res (List T)):Fr->Res T:=λρ=>(o ρ).bind λt=>if ok t=true then(r ρ).bind λts=>f t ts else .no
def xQ:T->Bool
 |.str _=>true
 |_=>false
def jV:T->Bool
 |.lst _ _=>true
 |_=>false
theorem bc9(h:xQ t=true)(r:Rep K cn H Z t v B):tyV K "str" v H:=by
 cases t with
 |str x=>simp only[Rep]at r;obtain⟨rfl,_⟩:=r;rfl
 |_=>cases h
theorem Rep.lstSq(r:Rep K cn H Z (.lst o ts) v B):∃a vs C,v=.ref a/\SqS K H a vs/\Reps K cn H Z ts vs C/\C.Sublist B:=by
 cases o with
 |true=>
  simp only[Rep]at r
  obtain⟨a,vs,C,rfl,rfl,e,r⟩:=r
  exact⟨a,vs,C,rfl,.inl (.inl e),r,List.sublist_cons_self _ _⟩
 |false=>
  simp only[Rep]at r
  obtain⟨a,vs,rfl,rfl,e,r⟩:=r
  exact⟨a,vs,[],rfl,e.sqS,r,List.Sublist.slnil⟩
theorem aq6(h:jV t=true)(r:Rep K cn H Z t v B):tyV K "list" v H:=by
 cases t with
 |lst o xs=>obtain⟨a,vs,C,rfl,s,_⟩:=r.lstSq;exact .inl ⟨rfl,vs,s.sq⟩
 |_=>cases h
theorem be4(hty:∀{H:Hp}{Z:Addr->Prop}{t:T}{v:V}{B:List Addr},ok t=true->Rep K cn H Z t v B->tyV K ty v H)(hr:RMR K cn ty r f)
 (ho:RB Jn K cn E to o)(ha:wW Jn K cn E ta a):RE Jn K cn E [] (tBM K ty r to ta) (pZ ok f o a):=λAs H Z ρ σ F Q w=>by
 unfold pZ at w
 refine ho As H Z ρ σ F _ ?_
 cases e:o ρ with
 |ok t=>
  rw[e]at w
  intro v H1 Z1 B p
  simp only[Res.bind]at w
  split at w
  . next hok=>
    refine⟨hty hok p.rep,ha As H1 Z1 ρ σ (F.mo p.mo) _ ?_⟩
    cases e2:a ρ with
    |ok ts=>rw[e2]at w;exact λvs H2 Z2 B2 m r2=>hr E As H2 Z2 t ts v vs B B2 Q m.zi (p.rep.same m.same m.zz) r2 (WpE.mo F w (p.mo.trans m))
    |ex x=>rw[e2]at w;exact WpX.ev w p.mo.ev
    |no=>rw[e2]at w;exact w
  . exact w.elim
 |ex x=>rw[e]at w;exact w
 |no=>rw[e]at w;exact w
def bK(K:PySem.W.Frag)(cn:Str->Option Addr)(n:Nat)(F:List T->Res T):Sp:=λvs H Q E=>vs.length=n/\∃ts Z,(∀a,Z a->H a≠none)/\Reps K cn H Z ts vs []/\WpE K cn E [] H Z [] Q (F ts)
def bS(n:Nat)(F:List T->Res T)(r:Fr->Res (List T)):Fr->Res T:=λρ=>(r ρ).bind λts=>if ts.length=n then match F (frzs ts)with
 |.ok t=>if(fN t||aP ts)=true then .ok t else .no
 |_=>.no else .no
theorem dd0(ha:wW Jn K cn E ta a):RE Jn K cn E [] (cm3 (bK K cn n G) ta) (bS n G a):=λAs H Z ρ σ F Q w=>by
 unfold bS at w
 refine ha As H Z ρ σ F _ ?_
 cases e:a ρ with
 |ok ts=>
  rw[e]at w
  intro vs H1 Z1 B m r1
  simp only[Res.bind]at w
  split at w
  . next hn=>
    refine⟨by rw[Reps.length ts r1,hn],frzs ts,(λa=>Z1 a\/a∈B),λa h=>?_,Reps.frz ts r1 (λa h=>.inl h) (λa h=>.inr h),?_⟩
    . rcases h with h|h
      . exact m.zi a h
      . obtain⟨o,q,_⟩:=Reps.dom ts r1 a h
        rw[q]
        exact(λz=>nomatch z)
    cases e2:G (frzs ts)with
    |ok t=>
     rw[e2]at w
     intro v H2 Z2 C p
     simp only at w
     split at w
     . next hc=>
       rw[Bool.or_eq_true]at hc
       have bn:∀b∈C,H1 b=none:=λb hb=>(p.bn b hb).resolve_right (λ⟨i,hi,_⟩=>by cases hi)
       by_cases hcl:fN t=true
       . refine w v H2 Z1 C ⟨m.same.trans p.same,m.zz,λa h=>m.zn a h,λa h=>?_,Rep.any t hcl p.rep,p.nd,λb hb z=>?_,λb hb=>.inl (m.same.free (bn b hb))⟩
         . intro q
           exact m.zi a h (p.same.free q)
         . exact m.zi b z (bn b hb)
       . have hno:=hc.resolve_left hcl
         have hB:=Reps.bare ts hno r1
         subst hB
         refine w v H2 Z2 C ⟨m.same.trans p.same,λa h=>p.zz a (.inl (m.zz a h)),λa h=>?_,p.zi,p.rep,p.nd,p.bz,λb hb=>.inl (m.same.free (bn b hb))⟩
         rcases p.zn a h with(h|h)|h
         . exact m.zn a h
         . cases h
         . exact .inr (m.same.free h)
     . exact w.elim
    |ex x=>rw[e2]at w;exact w.elim
    |no=>rw[e2]at w;exact w.elim
  . exact w.elim
 |ex x=>rw[e]at w;exact w
 |no=>rw[e]at w;exact w
def WpO(K:PySem.W.Frag)(cn:Str->Option Addr)(E:XK)(As:List (List Addr))(H:Hp)(Z:Addr->Prop)(Q:Option Int->Hp->Prop):Res (Option Int)->Prop
 |.ok o=>∀H' Z',Mo H Z H' Z'->Q o H'
 |.ex x=>WpX K cn E As H Z x
 |.no=>False
def RO(Jn:iE)(K:PySem.W.Frag)(cn:Str->Option Addr)(E:XK)(t:TO)(d:Fr->Res (Option Int)):Prop:=∀As H Z ρ σ,Frm Jn K cn H Z ρ σ As->∀Q,WpO K cn E As H Z Q (d ρ)->t σ H Q
def iG:Fr->Res (Option Int):=λ_=>.ok none
def toI:T->Res (Option Int)
 |.int i=>.ok (some i)
 |_=>.no
def fX(a:Fr->Res T):Fr->Res (Option Int):=λρ=>(a ρ).bind toI
theorem cv6:RO Jn K cn E bw3 iG:=λAs H Z ρ σ F Q w=>w H Z F.mo0
theorem cu6(ha:RB Jn K cn E te a):RO Jn K cn E (ce5 te) (fX a):=λAs H Z ρ σ F Q w=>by
 unfold fX at w
 refine ha As H Z ρ σ F _ ?_
 cases e:a ρ with
 |ok t=>
  rw[e]at w
  intro v H1 Z1 B p
  cases t with
  |int i=>
   have q:=p.rep
   simp only[Rep]at q
   obtain⟨rfl,rfl⟩:=q
   exact⟨i,rfl,w H1 Z1 p.mo⟩
  |_=>exact False.elim w
 |ex x=>rw[e]at w;exact w
 |no=>rw[e]at w;exact w
def RSR(K:PySem.W.Frag)(cn:Str->Option Addr)(r:V->Option Int->Option Int->Hp->VK->Prop)(f:T->Option Int->Option Int->Res T):Prop:=
 ∀(E:XK)(As:List (List Addr))(H:Hp)(Z:Addr->Prop)(t:T)(x:V)(A:List Addr)(lo hi:Option Int)(Q:VK),(∀a,Z a->H a≠none)->Rep K cn H Z t x A->WpE K cn E As H Z [] Q (f t lo hi)->r x lo hi H Q
def nY(f:T->Option Int->Option Int->Res T)(a:Fr->Res T)(l h:Fr->Res (Option Int)):Fr->Res T:=λρ=>(a ρ).bind λt=>(l ρ).bind λlo=>(h ρ).bind λhi=>f t lo hi
theorem dh5(hr:RSR K cn r f)(ha:RB Jn K cn E te a)(hl:RO Jn K cn E tl l)(hh:RO Jn K cn E th h):RE Jn K cn E [] (tSl r te tl th) (nY f a l h):=λAs H Z ρ σ F Q w=>by
 unfold nY at w
 refine ha As H Z ρ σ F _ ?_
 cases e:a ρ with
 |ok t=>
  rw[e]at w
  intro v H1 Z1 B p
  refine hl As H1 Z1 ρ σ (F.mo p.mo) _ ?_
  simp only[Res.bind]at w
  cases e2:l ρ with
  |ok lo=>
   rw[e2]at w
   intro H2 Z2 m2
   have m12:=p.mo.trans m2
   refine hh As H2 Z2 ρ σ (F.mo m12) _ ?_
   simp only at w
   cases e3:h ρ with
   |ok hi=>
    rw[e3]at w
    intro H3 Z3 m3
    exact hr E As H3 Z3 t v B lo hi Q m3.zi (p.rep.same (m2.same.trans m3.same) λa h=>m3.zz a (m2.zz a h)) (WpE.mo F w (m12.trans m3))
   |ex x=>rw[e3]at w;exact WpX.ev w m12.ev
   |no=>rw[e3]at w;exact w
  |ex x=>rw[e2]at w;exact WpX.ev w p.mo.ev
  |no=>rw[e2]at w;exact w
 |ex x=>rw[e]at w;exact w
 |no=>rw[e]at w;exact w
end
end TL
namespace TL
open PySem PySem.Spec PyProof.Rows L2
section
variable {Jn : iE} {K : PySem.W.Frag} {cn : Str → Option Addr} {E : XK}
def SqF(fz k:Bool)(K:PySem.W.Frag)(H:Hp)(Z:Addr->Prop)(l:Addr)(xs:List V):Prop:=cond k (SqT K H l xs) (if fz=true then FzL K H Z l xs else SqL K H l xs)
def kL(ts us:List T):List T:=List.zipWith (λt u=>T.tup [t,u]) ts us
def zM(ts:List T):List T:=List.zipWith (λi t=>T.tup [.int (i:Nat),t]) (List.range ts.length) ts
def Src(K:PySem.W.Frag)(cn:Str->Option Addr)(fz:Bool)(H:Hp)(Z:Addr->Prop)(J:It)(ts:List T):Prop:=
 (∃a vs,J=Itl K a/\(if fz=true then FzL K H Z a vs else SqL K H a vs)/\Reps K cn H Z ts vs [])\/
 (∃a vs,J=Itt K a/\SqT K H a vs/\Reps K cn H Z ts vs [])\/
 (∃(lo:Int)(n:Nat),J=Itr lo n/\ts=(List.range n).map λi=>T.int (lo+(i:Nat)))\/
 (∃z:Str,J=Its z/\ts=z.cps.toList.map λc=>T.str ⟨#[c]⟩)\/
 (∃k1 k2 l1 l2 vs ws us us',J=Itz K k1 k2 l1 l2/\SqF fz k1 K H Z l1 vs/\SqF fz k2 K H Z l2 ws/\Reps K cn H Z us vs []/\Reps K cn H Z us' ws []/\ts=kL us us')\/
 (∃l vs us,J=Ite K l/\SqF fz false K H Z l vs/\Reps K cn H Z us vs []/\ts=zM us)
theorem af4(h:if fz=true then FzL K H Z a vs else SqL K H a vs):SqL K H a vs:=by
 cases fz with
 |true=>rw[if_pos rfl]at h;exact h.sq
 |false=>rw[if_neg (by decide)]at h;exact h
theorem SqF.sq(h:SqF fz k K H Z l xs):xB k K H l xs:=by
 cases k with
 |true=>exact h
 |false=>exact af4 h
theorem ac7:∀{us us':List T}{i:Nat},(kL us us')[i]?=some t->∃t1 t2,us[i]?=some t1/\us'[i]?=some t2/\t=.tup [t1,t2]:=by
 intro us us' i h
 unfold kL at h
 rw[List.getElem?_zipWith]at h
 cases h1:us[i]? with
 |none=>rw[h1]at h;cases h
 |some t1=>
  cases h2:us'[i]? with
  |none=>rw[h1,h2]at h;cases h
  |some t2=>
   rw[h1,h2]at h
   exact⟨t1,t2,rfl,rfl,(Option.some.inj h).symm⟩
theorem yK(us us':List T):(kL us us').length=min us.length us'.length:=by simp[kL]
theorem bt8(us:List T):(zM us).length=us.length:=by simp[zM]
theorem bm9{t:T}{us:List T}{i:Nat}(h:(zM us)[i]?=some t):∃t2,us[i]?=some t2/\t=.tup [.int i,t2]:=by
 unfold zM at h
 rw[List.getElem?_zipWith]at h
 cases h2:us[i]? with
 |none=>rw[h2]at h;cases q:(List.range us.length)[i]?<;>rw[q]at h<;>cases h
 |some t2=>
  have hi:=(List.getElem?_eq_some_iff.mp h2).1
  rw[h2,List.getElem?_range hi]at h
  exact⟨t2,rfl,(Option.some.inj h).symm⟩
theorem ay9(ex:x=.ref p)(hp:H p=some (.tup [v1,v2]))(h1:Rep K cn H Z t1 v1 [])(h2:Rep K cn H Z t2 v2 []):Rep K cn H Z (.tup [t1,t2]) x []:=by
 simp only[Rep]
 refine⟨p,[v1,v2],ex,SqT.of hp,?_⟩
 simp only[Reps]
 exact⟨v1,[v2],[],[],rfl,rfl,h1,v2,[],[],[],rfl,rfl,h2,rfl,rfl⟩
theorem Src.turn{fz:Bool}{H:Hp}{Z:Addr->Prop}{J:It}{ts:List T}{i:Nat}{t:T}(h:Src K cn fz H Z J ts)(zi:∀a,Z a->H a≠none)(e:ts[i]?=some t):J.go i H/\∀x H',J.yld i H x H'->Mo H Z H' Z/\Rep K cn H' Z t x []:=by
 have m0:Mo H Z H Z:=⟨Same.refl _,λ_ h=>h,λ_ h=>.inl h,zi⟩
 rcases h with⟨a,vs,rfl,hs,r⟩|⟨a,vs,rfl,hs,r⟩|⟨lo,n,rfl,rfl⟩|⟨z,rfl,rfl⟩|⟨k1,k2,l1,l2,vs,ws,us,us',rfl,q1,q2,r1,r2,rfl⟩|⟨l,vs,us,rfl,q1,r1,rfl⟩
 . obtain⟨v,B,ev,rv,hB,_⟩:=Reps.get ts r e
   have hs:=af4 hs
   have eB:B=[]:=List.eq_nil_iff_forall_not_mem.mpr λb hb=>by cases hB b hb
   subst eB
   refine⟨⟨vs,v,hs,ev⟩,λx H' ⟨e1,e2⟩=>⟨e1▸m0,?_⟩⟩
   subst e1
   have:=e2 vs hs
   rw[ev]at this
   cases this
   exact rv
 . obtain⟨v,B,ev,rv,hB,_⟩:=Reps.get ts r e
   have eB:B=[]:=List.eq_nil_iff_forall_not_mem.mpr λb hb=>by cases hB b hb
   subst eB
   refine⟨⟨vs,v,hs,ev⟩,λx H' ⟨e1,e2⟩=>⟨e1▸m0,?_⟩⟩
   subst e1
   have:=e2 vs hs
   rw[ev]at this
   cases this
   exact rv
 . rw[List.getElem?_map]at e
   cases q:(List.range n)[i]? with
   |none=>rw[q]at e;cases e
   |some j=>
    rw[q]at e
    obtain⟨h1,h2⟩:=List.getElem?_eq_some_iff.mp q
    simp at h1 h2
    subst h2
    cases e
    refine⟨h1,λx H' ⟨e1,e2⟩=>⟨e1▸m0,?_⟩⟩
    subst e1
    subst e2
    simp[Rep]
 . rw[List.getElem?_map]at e
   cases q:z.cps.toList[i]? with
   |none=>rw[q]at e;cases e
   |some c=>
    rw[q]at e
    cases e
    have h1:=(List.getElem?_eq_some_iff.mp q).1
    refine⟨show i<z.cps.size by simpa using h1,λx H' ⟨e1,c',e2,e3⟩=>⟨e1▸m0,?_⟩⟩
    subst e1
    rw[<-Array.getElem?_toList]at e2
    rw[q]at e2
    cases e2
    subst e3
    simp[Rep]
 . obtain⟨t1,t2,e1,e2,rfl⟩:=ac7 e
   obtain⟨v1,B1,ev1,rv1,hB1,_⟩:=Reps.get us r1 e1
   obtain⟨v2,B2,ev2,rv2,hB2,_⟩:=Reps.get us' r2 e2
   have n1:B1=[]:=List.eq_nil_iff_forall_not_mem.mpr λb hb=>by cases hB1 b hb
   have n2:B2=[]:=List.eq_nil_iff_forall_not_mem.mpr λb hb=>by cases hB2 b hb
   subst n1 n2
   refine⟨⟨vs,ws,v1,v2,q1.sq,q2.sq,ev1,ev2⟩,λx H' ⟨p,hp,ex,h⟩=>?_⟩
   obtain⟨y1,y2,f1,f2,rfl⟩:=h vs ws q1.sq q2.sq
   rw[ev1]at f1
   rw[ev2]at f2
   cases f1
   cases f2
   have m:=Mo.new (.tup [v1,v2]) hp zi
   exact⟨m,ay9 ex eT (rv1.same m.same m.zz) (rv2.same m.same m.zz)⟩
 . obtain⟨t2,e2,rfl⟩:=bm9 e
   obtain⟨v2,B2,ev2,rv2,hB2,_⟩:=Reps.get us r1 e2
   have n2:B2=[]:=List.eq_nil_iff_forall_not_mem.mpr λb hb=>by cases hB2 b hb
   subst n2
   refine⟨⟨vs,v2,q1.sq,ev2⟩,λx H' ⟨p,hp,ex,h⟩=>?_⟩
   obtain⟨y2,f2,rfl⟩:=h vs q1.sq
   rw[ev2]at f2
   cases f2
   have m:=Mo.new (.tup [.int i,v2]) hp zi
   exact⟨m,ay9 ex eT (by simp[Rep]) (rv2.same m.same m.zz)⟩
theorem Src.stop(h:Src K cn fz H Z J ts)(e:ts.length<=i):J.stop i H:=by
 rcases h with⟨a,vs,rfl,hs,r⟩|⟨a,vs,rfl,hs,r⟩|⟨lo,n,rfl,rfl⟩|⟨z,rfl,rfl⟩|⟨k1,k2,l1,l2,vs,ws,us,us',rfl,q1,q2,r1,r2,rfl⟩|⟨l,vs,us,rfl,q1,r1,rfl⟩
 . exact⟨vs,af4 hs,by rw[Reps.length ts r];exact e⟩
 . exact⟨vs,hs,by rw[Reps.length ts r];exact e⟩
 . show n<=i
   simpa using e
 . have:z.cps.size<=i:=by simpa using e
   exact this
 . refine⟨vs,ws,q1.sq,q2.sq,?_⟩
   rw[Reps.length us r1,Reps.length us' r2]
   rw[yK]at e
   omega
 . refine⟨vs,q1.sq,?_⟩
   rw[Reps.length us r1]
   rw[bt8]at e
   exact e
theorem Same.sqT(e:Same H H')(h:SqT K H a xs):SqT K H' a xs:=SqT.keep h λb o q _=>e b o q
theorem SqF.mo(h:SqF fz k K H Z l xs)(m:Mo H Z H' Z'):SqF fz k K H' Z' l xs:=by
 cases k with
 |true=>exact Same.sqT m.same h
 |false=>
  cases fz with
  |true=>exact FzL.keep (show FzL K H Z l xs from h) (λb o q _=>m.same b o q) m.zz
  |false=>exact m.same.seq (show SqL K H l xs from h)
theorem SqF.kept(h:SqF true k K H Z l xs)(kz:∀b o,H b=some o->(Z b\/tD o=true)->H' b=some o)(hz:∀a,Z a->Z' a):SqF true k K H' Z' l xs:=by
 cases k with
 |true=>exact SqT.keep (show SqT K H l xs from h) λb o q c=>kz b o q (.inr c)
 |false=>exact FzL.keep (show FzL K H Z l xs from h) kz hz
theorem Src.mo(h:Src K cn fz H Z J ts)(m:Mo H Z H' Z'):Src K cn fz H' Z' J ts:=by
 rcases h with⟨a,vs,rfl,hs,r⟩|⟨a,vs,rfl,hs,r⟩|h|h|⟨k1,k2,l1,l2,vs,ws,us,us',rfl,q1,q2,r1,r2,rfl⟩|⟨l,vs,us,rfl,q1,r1,rfl⟩
 . refine .inl ⟨a,vs,rfl,?_,r.same m.same m.zz⟩
   cases fz with
   |true=>rw[if_pos rfl]at hs⊢;exact hs.keep (λb o q _=>m.same b o q) m.zz
   |false=>rw[if_neg (by decide)]at hs⊢;exact m.same.seq hs
 . exact .inr (.inl ⟨a,vs,rfl,Same.sqT m.same hs,r.same m.same m.zz⟩)
 . exact .inr (.inr (.inl h))
 . exact .inr (.inr (.inr (.inl h)))
 . exact .inr (.inr (.inr (.inr (.inl ⟨k1,k2,l1,l2,vs,ws,us,us',rfl,q1.mo m,q2.mo m,r1.same m.same m.zz,r2.same m.same m.zz,rfl⟩))))
 . exact .inr (.inr (.inr (.inr (.inr ⟨l,vs,us,rfl,q1.mo m,r1.same m.same m.zz,rfl⟩))))
theorem Src.ev(h:Src K cn true H Z J ts)(F:Frm Jn K cn H Z ρ σ As)(e:Ev As H Z As' H' Z'):Src K cn true H' Z' J ts:=by
 have kz:∀b o,H b=some o->(Z b\/tD o=true)->H' b=some o:=λb o q c=>e.keep b o q λhb=>by
  rcases c with c|c
  . exact F.nz b hb c
  . obtain⟨o',q',i'⟩:=F.sl.dom b hb
    rw[q]at q'
    cases q'
    rw[c]at i'
    cases i'
 rcases h with⟨a,vs,rfl,hs,r⟩|⟨a,vs,rfl,hs,r⟩|h|h|⟨k1,k2,l1,l2,vs,ws,us,us',rfl,q1,q2,r1,r2,rfl⟩|⟨l,vs,us,rfl,q1,r1,rfl⟩
 . rw[if_pos rfl]at hs
   refine .inl ⟨a,vs,rfl,?_,Reps.keep ts r (λb o q c=>kz b o q (c.resolve_left ((λz=>nomatch z)))) e.zz⟩
   rw[if_pos rfl]
   exact hs.keep kz e.zz
 . exact .inr (.inl ⟨a,vs,rfl,SqT.keep hs (λb o q c=>kz b o q (.inr c)),Reps.keep ts r (λb o q c=>kz b o q (c.resolve_left ((λz=>nomatch z)))) e.zz⟩)
 . exact .inr (.inr (.inl h))
 . exact .inr (.inr (.inr (.inl h)))
 . exact .inr (.inr (.inr (.inr (.inl ⟨k1,k2,l1,l2,vs,ws,us,us',rfl,q1.kept kz e.zz,q2.kept kz e.zz,Reps.keep us r1 (λb o q c=>kz b o q (c.resolve_left ((λz=>nomatch z)))) e.zz,Reps.keep us' r2 (λb o q c=>kz b o q (c.resolve_left ((λz=>nomatch z)))) e.zz,rfl⟩))))
 . exact .inr (.inr (.inr (.inr (.inr ⟨l,vs,us,rfl,q1.kept kz e.zz,Reps.keep us r1 (λb o q c=>kz b o q (c.resolve_left ((λz=>nomatch z)))) e.zz,rfl⟩))))
def WpI(K:PySem.W.Frag)(cn:Str->Option Addr)(E:XK)(fz:Bool)(As:List (List Addr))(H:Hp)(Z:Addr->Prop)(R:It->Hp->Prop):Res (List T)->Prop
 |.ok ts=>∀J H' Z',Mo H Z H' Z'->Src K cn fz H' Z' J ts->R J H'
 |.ex x=>WpX K cn E As H Z x
 |.no=>False
def RI(Jn:iE)(K:PySem.W.Frag)(cn:Str->Option Addr)(E:XK)(fz:Bool)(wi:TI)(d:Fr->Res (List T)):Prop:=∀As H Z ρ σ,Frm Jn K cn H Z ρ σ As->∀R,WpI K cn E fz As H Z R (d ρ)->wi σ H R
noncomputable def gate{α:Type}(p:Prop)(a:Res α):Res α:=@ite _ p (Classical.propDecidable p) a .no
theorem bf7(a:Res α):gate True a=a:=by unfold gate;rw[if_pos trivial]
theorem am0(h:p):gate p a=a:=by unfold gate;rw[if_pos h]
theorem WpI.gate(w:WpI K cn E fz As H Z R (TL.gate p r)):p/\WpI K cn E fz As H Z R r:=by
 unfold TL.gate at w
 split at w
 . exact⟨by assumption,w⟩
 . exact w.elim
theorem WpE.gate(w:WpE K cn E As H Z mv Q (TL.gate p r)):p/\WpE K cn E As H Z mv Q r:=by
 unfold TL.gate at w
 split at w
 . exact⟨by assumption,w⟩
 . exact w.elim
def hV(lo:Int)(n:Nat):List T:=(List.range n).map λi=>T.int (lo+(i:Nat))
noncomputable def oS:List T->Res (List T)
 |[.int j]=>gate (-(2^62)<=j/\j<2^62) (.ok (hV 0 j.toNat))
 |_=>.no
noncomputable def az4:List T->Res (List T)
 |[.int i,.int j]=>gate (-(2^62)<=i/\i<2^62/\-(2^62)<=j/\j<2^62) (.ok (hV i (j-i).toNat))
 |_=>.no
def jR(f:List T->Res (List T))(a:Fr->Res (List T)):Fr->Res (List T):=λρ=>(a ρ).bind f
theorem Reps.ints1(r:Reps K cn H Z [.int i] vs A):vs=[.int i]:=by
 simp only[Reps,Rep]at r
 obtain⟨v,w,B,C,rfl,rfl,⟨rfl,rfl⟩,rfl,rfl⟩:=r
 rfl
theorem Reps.ints2(r:Reps K cn H Z [.int i,.int j] vs A):vs=[.int i,.int j]:=by
 simp only[Reps,Rep]at r
 obtain⟨v,w,B,C,rfl,rfl,⟨rfl,rfl⟩,v2,w2,B2,C2,rfl,rfl,⟨rfl,rfl⟩,rfl,rfl⟩:=r
 rfl
theorem cz7(ha:wW Jn K cn E ta a):RI Jn K cn E fz (cr4 ta) (jR oS a):=λAs H Z ρ σ F R w=>by
 unfold jR at w
 refine ha As H Z ρ σ F _ ?_
 cases e:a ρ with
 |ok ts=>
  rw[e]at w
  intro vs H1 Z1 B m r
  simp only[Res.bind]at w
  unfold oS at w
  split at w
  . next j=>
    obtain⟨hb,w⟩:=w.gate
    exact⟨j,r.ints1,hb.1,hb.2,w (Itr 0 j.toNat) H1 Z1 m (.inr (.inr (.inl ⟨0,j.toNat,rfl,rfl⟩)))⟩
  . exact w.elim
 |ex x=>rw[e]at w;exact w
 |no=>rw[e]at w;exact w
theorem cv7(ha:wW Jn K cn E ta a):RI Jn K cn E fz (cq4 ta) (jR az4 a):=λAs H Z ρ σ F R w=>by
 unfold jR at w
 refine ha As H Z ρ σ F _ ?_
 cases e:a ρ with
 |ok ts=>
  rw[e]at w
  intro vs H1 Z1 B m r
  simp only[Res.bind]at w
  unfold az4 at w
  split at w
  . next i j=>
    obtain⟨hb,w⟩:=w.gate
    exact⟨i,j,r.ints2,hb,w (Itr i (j-i).toNat) H1 Z1 m (.inr (.inr (.inl ⟨i,_,rfl,rfl⟩)))⟩
  . exact w.elim
 |ex x=>rw[e]at w;exact w
 |no=>rw[e]at w;exact w
def iV(K:PySem.W.Frag)(tl:TE):TI:=λσ H R=>tl σ H λx H1=>(∃a,x=.ref a/\(((∃xs,SqL K H1 a xs)/\R (Itl K a) H1)\/((∃xs,SqT K H1 a xs)/\R (Itt K a) H1)))\/∃z,x=.str z/\R (Its z) H1
def jT:T->Res (List T)
 |.lst _ ts=>if aP ts=true then .ok ts else .no
 |.tup ts=>if aP ts=true then .ok ts else .no
 |.str z=>.ok (z.cps.toList.map λc=>T.str ⟨#[c]⟩)
 |_=>.no
def wU:T->Res (List T)
 |.lst o ts=>if(!o&&aP ts)=true then .ok ts else .no
 |.tup ts=>if aP ts=true then .ok ts else .no
 |.str z=>.ok (z.cps.toList.map λc=>T.str ⟨#[c]⟩)
 |_=>.no
def iQ(f:T->Res (List T))(a:Fr->Res T):Fr->Res (List T):=λρ=>(a ρ).bind f
theorem Reps.bareE(r:Reps K cn H Z ts vs A)(h:aP ts=true):Reps K cn H Z ts vs []:=by
 have:=Reps.bare ts h r
 subst this
 exact r
theorem dv9(ha:RB Jn K cn E tl a):RI Jn K cn E false (iV K tl) (iQ jT a):=λAs H Z ρ σ F R w=>by
 unfold iQ at w
 refine ha As H Z ρ σ F _ ?_
 cases e:a ρ with
 |ok t=>
  rw[e]at w
  intro v H1 Z1 B p
  simp only[Res.bind]at w
  cases t with
  |lst o ts=>
   simp only[jT]at w
   split at w
   . next hn=>
     obtain⟨b,vs,C,rfl,hs,r,_⟩:=p.rep.lstSq
     have hs:=hs.sq
     exact .inl ⟨b,rfl,.inl ⟨⟨vs,hs⟩,w _ H1 Z1 p.mo (.inl ⟨b,vs,rfl,by rw[if_neg (by decide)];exact hs,r.bareE hn⟩)⟩⟩
   . exact w.elim
  |tup ts=>
   simp only[jT]at w
   split at w
   . next hn=>
     have q:=p.rep
     simp only[Rep]at q
     obtain⟨b,vs,rfl,hs,r⟩:=q
     exact .inl ⟨b,rfl,.inr ⟨⟨vs,hs⟩,w _ H1 Z1 p.mo (.inr (.inl ⟨b,vs,rfl,hs,r.bareE hn⟩))⟩⟩
   . exact w.elim
  |str z=>
   have q:=p.rep
   simp only[Rep]at q
   obtain⟨rfl,_⟩:=q
   exact .inr ⟨z,rfl,w _ H1 Z1 p.mo (.inr (.inr (.inr (.inl ⟨z,rfl,rfl⟩))))⟩
  |_=>exact w.elim
 |ex x=>rw[e]at w;exact w
 |no=>rw[e]at w;exact w
theorem dz9(ha:RB Jn K cn E tl a):RI Jn K cn E true (iV K tl) (iQ wU a):=λAs H Z ρ σ F R w=>by
 unfold iQ at w
 refine ha As H Z ρ σ F _ ?_
 cases e:a ρ with
 |ok t=>
  rw[e]at w
  intro v H1 Z1 B p
  simp only[Res.bind]at w
  cases t with
  |lst o ts=>
   simp only[wU]at w
   split at w
   . next hn=>
     rw[Bool.and_eq_true]at hn
     cases o with
     |true=>exact absurd hn.1 (by decide)
     |false=>
      have q:=p.rep
      simp only[Rep]at q
      obtain⟨b,vs,rfl,rfl,hs,r⟩:=q
      exact .inl ⟨b,rfl,.inl ⟨⟨vs,hs.sq⟩,w _ H1 Z1 p.mo (.inl ⟨b,vs,rfl,by rw[if_pos rfl];exact hs,r⟩)⟩⟩
   . exact w.elim
  |tup ts=>
   simp only[wU]at w
   split at w
   . next hn=>
     have q:=p.rep
     simp only[Rep]at q
     obtain⟨b,vs,rfl,hs,r⟩:=q
     exact .inl ⟨b,rfl,.inr ⟨⟨vs,hs⟩,w _ H1 Z1 p.mo (.inr (.inl ⟨b,vs,rfl,hs,r.bareE hn⟩))⟩⟩
   . exact w.elim
  |str z=>
   have q:=p.rep
   simp only[Rep]at q
   obtain⟨rfl,_⟩:=q
   exact .inr ⟨z,rfl,w _ H1 Z1 p.mo (.inr (.inr (.inr (.inl ⟨z,rfl,rfl⟩))))⟩
  |_=>exact w.elim
 |ex x=>rw[e]at w;exact w
 |no=>rw[e]at w;exact w
def aa1(fz:Bool):T->Option (List T)
 |.lst o ts=>if((!fz||!o)&&aP ts)=true then some ts else none
 |.tup ts=>if aP ts=true then some ts else none
 |_=>none
def az8(fz:Bool):List T->Res (List T)
 |[t,u]=>match aa1 fz t,aa1 fz u with
  |some ts,some us=>.ok (kL ts us)
  |_,_=>.no
 |_=>.no
def ea0(fz:Bool):List T->Res (List T)
 |[.lst o ts]=>if((!fz||!o)&&aP ts)=true then .ok (zM ts)else .no
 |_=>.no
theorem ck6(r:Rep K cn H Z (.lst o ts) v A)(hc:((!fz||!o)&&aP ts)=true):∃l vs,v=.ref l/\SqF fz false K H Z l vs/\Reps K cn H Z ts vs []:=by
 rw[Bool.and_eq_true]at hc
 cases o with
 |true=>
  simp only[Rep]at r
  obtain⟨a,vs,B,rfl,rfl,e,r⟩:=r
  cases fz with
  |true=>simp at hc
  |false=>exact⟨a,vs,rfl,SqL.of e,r.bareE hc.2⟩
 |false=>
  simp only[Rep]at r
  obtain⟨a,vs,rfl,rfl,e,r⟩:=r
  cases fz with
  |true=>exact⟨a,vs,rfl,e,r⟩
  |false=>exact⟨a,vs,rfl,e.sq,r⟩
theorem bg3(r:Rep K cn H Z t v A)(h:aa1 fz t=some ts):∃k l vs,v=.ref l/\SqF fz k K H Z l vs/\Reps K cn H Z ts vs []:=by
 cases t with
 |lst o us=>
  simp only[aa1]at h
  split at h
  . next hc=>
    cases h
    exact⟨false,ck6 r hc⟩
  . cases h
 |tup us=>
  simp only[aa1]at h
  split at h
  . next hc=>
    cases h
    simp only[Rep]at r
    obtain⟨a,vs,rfl,e,r⟩:=r
    exact⟨true,a,vs,rfl,e,r.bareE hc⟩
  . cases h
 |_=>simp[aa1]at h
theorem cp9(ha:wW Jn K cn E ta a):RI Jn K cn E fz (cc4 K ta) (jR (az8 fz) a):=λAs H Z ρ σ F R w=>by
 unfold jR at w
 refine ha As H Z ρ σ F _ ?_
 cases e:a ρ with
 |ok ts=>
  rw[e]at w
  intro vs H1 Z1 B m r1
  simp only[Res.bind]at w
  unfold az8 at w
  split at w
  . next t u=>
    split at w
    . next p q h1 h2=>
      simp only[Reps]at r1
      obtain⟨v,r',B1,C1,rfl,rfl,ra,v2,r2,B2,C2,rfl,rfl,rb,rfl,rfl⟩:=r1
      obtain⟨k1,l1,us,rfl,s1,p1⟩:=bg3 ra h1
      obtain⟨k2,l2,us',rfl,s2,p2⟩:=bg3 rb h2
      exact⟨k1,k2,l1,l2,rfl,⟨_,s1.sq⟩,⟨_,s2.sq⟩,w _ H1 Z1 m (.inr (.inr (.inr (.inr (.inl ⟨k1,k2,l1,l2,us,us',_,_,rfl,s1,s2,p1,p2,rfl⟩)))))⟩
    . exact w.elim
  . exact w.elim
 |ex x=>rw[e]at w;exact w
 |no=>rw[e]at w;exact w
def RG(Jn:iE)(K:PySem.W.Frag)(cn:Str->Option Addr)(ks:List Nat)(g:TG)(b:T->Fr->Option Fr):Prop:=
 ∀As H Z ρ σ t v B,Frm Jn K cn H Z ρ σ As->Rep K cn H Z t v B->B.Nodup->(∀x∈B,¬Z x)->(∀x∈B,x∉As.flatten)->∀(Q:St->Hp->Prop) ρ',b t ρ=some ρ'->
  (∀σ' As',Frm Jn K cn H Z ρ' σ' As'->(∀a∈As'.flatten,a∈As.flatten\/a∈B)->σ'.length=σ.length->(∀i,i∉ks->σ'[i]?=σ[i]?)->Q σ' H)->g v σ H Q
structure RGs (Jn:iE) (K:PySem.W.Frag) (cn:Str->Option Addr) (ks:List Nat) (n:Nat) (g:TGs) (b:List T->Fr->Option Fr):Prop where
 len:∀ts ρ ρ',b ts ρ=some ρ'->ts.length=n
 run:∀As H Z ρ σ ts vs B,Frm Jn K cn H Z ρ σ As->Reps K cn H Z ts vs B->B.Nodup->(∀x∈B,¬Z x)->(∀x∈B,x∉As.flatten)->∀(Q:St->Hp->Prop) ρ',b ts ρ=some ρ'->
  (∀σ' As',Frm Jn K cn H Z ρ' σ' As'->(∀a∈As'.flatten,a∈As.flatten\/a∈B)->σ'.length=σ.length->(∀i,i∉ks->σ'[i]?=σ[i]?)->Q σ' H)->g vs σ H Q
def aI(i:Nat):T->Fr->Option Fr:=λt ρ=>some (ρ.set i (some t))
def eI:List T->Fr->Option Fr
 |[],ρ=>some ρ
 |_::_,_=>none
def bA(b:T->Fr->Option Fr)(bs:List T->Fr->Option Fr):List T->Fr->Option Fr
 |[],_=>none
 |t::ts,ρ=>match b t ρ with
  |some ρ1=>bs ts ρ1
  |none=>none
def eF(bs:List T->Fr->Option Fr):T->Fr->Option Fr
 |.tup ts,ρ=>bs ts ρ
 |_,_=>none
theorem bb4(i:Nat)(hJ:zK Jn i=true:=by rfl):RG Jn K cn [i] (ao1 i) (aI i):=λAs H Z ρ σ t v B F r nd bz bo Q ρ' e h=>by
 cases e
 refine h _ (As.set i B) (F.set r nd bz i (λb hb hA=>absurd hA (bo b hb)) hJ) (λa ha=>(iS ha).symm) (by rw[List.length_set]) λj hj=>?_
 rw[List.getElem?_set_ne (λz=>hj (by rw[z];exact List.mem_cons_self))]
theorem ct6:RGs Jn K cn [] 0 dj4 eI where
 len:=λts ρ ρ' e=>by
  cases ts with
  |nil=>rfl
  |cons _ _=>cases e
 run:=λAs H Z ρ σ ts vs B F r nd bz bo Q ρ' e h=>by
  cases ts with
  |nil=>
   cases e
   simp only[Reps]at r
   exact⟨r.1,h σ As F (λa ha=>.inl ha) rfl λ_ _=>rfl⟩
  |cons _ _=>cases e
theorem cb4(h1:RG Jn K cn ks g b)(h2:RGs Jn K cn ls n gs bs):RGs Jn K cn (ks++ls) (n+1) (bg5 g gs) (bA b bs) where
 len:=λts ρ ρ' e=>by
  cases ts with
  |nil=>cases e
  |cons t ts=>
   simp only[bA]at e
   cases e1:b t ρ with
   |none=>rw[e1]at e;cases e
   |some ρ1=>rw[e1]at e;rw[List.length_cons,h2.len ts ρ1 ρ' e]
 run:=λAs H Z ρ σ ts vs B F r nd bz bo Q ρ' e h=>by
  cases ts with
  |nil=>cases e
  |cons t ts=>
   simp only[bA]at e
   cases e1:b t ρ with
   |none=>rw[e1]at e;cases e
   |some ρ1=>
    rw[e1]at e
    simp only[Reps]at r
    obtain⟨v,vs',B1,B2,rfl,rfl,r1,r2⟩:=r
    rw[List.nodup_append]at nd
    refine⟨v,vs',rfl,h1 As H Z ρ σ t v B1 F r1 nd.1 (λx hx=>bz x (List.mem_append_left _ hx)) (λx hx=>bo x (List.mem_append_left _ hx)) _ ρ1 e1 λσ1 As1 F1 o1 l1 k1=>?_⟩
    refine h2.run As1 H Z ρ1 σ1 ts vs' B2 F1 r2 nd.2.1 (λx hx=>bz x (List.mem_append_right _ hx)) (λx hx hA=>?_) Q ρ' e λσ2 As2 F2 o2 l2 k2=>?_
    . rcases o1 x hA with z|z
      . exact bo x (List.mem_append_right _ hx) z
      . exact nd.2.2 x z x hx rfl
    . refine h σ2 As2 F2 (λa ha=>?_) (l2.trans l1) λi hi=>?_
      . rcases o2 a ha with z|z
        . exact(o1 a z).imp_right (List.mem_append_left _)
        . exact .inr (List.mem_append_right _ z)
      . rw[k2 i (λz=>hi (List.mem_append_right _ z)),k1 i (λz=>hi (List.mem_append_left _ z))]
theorem dk1(h:RGs Jn K cn ks n gs bs):RG Jn K cn ks (cz1 K n gs) (eF bs):=λAs H Z ρ σ t v B F r nd bz bo Q ρ' e h'=>by
 cases t with
 |tup ts=>
  simp only[eF]at e
  simp only[Rep]at r
  obtain⟨a,vs,rfl,hs,r⟩:=r
  exact⟨a,vs,rfl,hs,by rw[Reps.length ts r];exact h.len ts ρ ρ' e,h.run As H Z ρ σ ts vs B F r nd bz bo Q ρ' e h'⟩
 |_=>cases e
def bY(b:T->Fr->Option Fr)(c:Fr->Res Bool)(d:Fr->Res T)(ρ:Fr):List T->Res (List T)
 |[]=>.ok []
 |t::ts=>match b t ρ with
  |none=>.no
  |some ρ1=>(c ρ1).bind λk=>if k=true then(d ρ1).bind λu=>(bY b c d ρ ts).bind λus=>.ok (u::us)else bY b c d ρ ts
def dO(ks:List Nat)(di:Fr->Res (List T))(b:T->Fr->Option Fr)(c:Fr->Res Bool)(d:Fr->Res T):Fr->Res T:=λρ=>
 (di ρ).bind λts=>if ts.length<=sizeLine then(bY b c d (kills ks ρ) ts).bind λus=>.ok (.lst true us)else .no
def cZ:Fr->Res Bool:=λ_=>.ok true
theorem do3:RT Jn K cn E dp2 cZ:=λAs H Z ρ σ F Q w=>w H Z F.mo0.postT
theorem Slots.clr(ks:List Nat):∀{ρ:Fr}{σ:St}{As:List (List Addr)},Slots K cn H Z ρ σ As->Slots K cn H Z (kills ks ρ) (L2.clr ks σ) (iB ks As):=by
 induction ks with
 |nil=>exact λh=>h
 |cons k ks ih=>exact λh=>ih (h.kill2 none k)
def uP(Jn:iE)(ks:List Nat):Bool:=ks.all (zK Jn)
theorem ap2:∀(ks:List Nat){σ:St},uP Jn ks=true->(∀p∈Jn,σ[p.1]?=some (some p.2))->∀p∈Jn,(L2.clr ks σ)[p.1]?=some (some p.2)
 |[],_,_,q=>q
 |k::ks,σ,h,q=>by
  unfold uP at h
  rw[List.all_cons,Bool.and_eq_true]at h
  exact ap2 ks h.2 (al6 h.1 none q)
theorem Frm.clr(ks:List Nat)(F:Frm Jn K cn H Z ρ σ As)(hk:uP Jn ks=true):Frm Jn K cn H Z (TL.kills ks ρ) (L2.clr ks σ) (iB ks As):=
 ⟨F.sl.clr ks,(F.kills ks).nd,(F.kills ks).nz,F.zi,ap2 ks hk F.pn⟩
theorem cb8(hg:RG Jn K cn ks g b)(hc:RT Jn K cn E tc c)(he:RE Jn K cn E [] te d)(hk:uP Jn ks=true)
 (F:Frm Jn K cn H Z ρ σ As)(hs:Src K cn false H Z J ts)(hl:ts.length<=sizeLine)
 (w:WpE K cn E As H Z [] Q ((bY b c d (kills ks ρ) ts).bind λus=>.ok (.lst true us))):CGo ks g tc te σ (λD H'=>Q (.ref D) H') J H:=by
 let R (us:List T) (qL:List T):Res T:=(bY b c d (kills ks ρ) qL).bind λus'=>.ok (.lst true (us++us'))
 refine⟨λi m ys H'=>m=ts.length-i/\i<=ts.length/\∃us Z' B,Mo H Z H' Z'/\Reps K cn H' Z' us ys B/\B.Nodup/\(∀x∈B,¬Z' x/\H x=none)/\us.length<=i/\WpE K cn E As H Z [] Q (R us (ts.drop i)),⟨ts.length,by simp,Nat.zero_le _,[],Z,[],F.mo0,Reps.nil,List.nodup_nil,eH,Nat.le_refl _,?_⟩,?_⟩
 . simpa[R]using w
 rintro i m ys H1 ⟨rfl,hi,us,Z1,B,m1,r1,nd,bz,hul,w⟩
 have hyl:=Reps.length us r1
 have s1:=hs.mo m1
 by_cases hlt:i<ts.length
 . obtain⟨t,et⟩:∃t,ts[i]?=some t:=⟨ts[i],List.getElem?_eq_getElem hlt⟩
   obtain⟨go,yl⟩:=s1.turn m1.zi et
   have ed:ts.drop i=t::ts.drop (i+1):=by
    have:=List.getElem?_eq_some_iff.mp et
    obtain⟨h1,h2⟩:=this
    rw[<-h2]
    exact List.drop_eq_getElem_cons hlt
   refine .inr ⟨go,by omega,_,λys' H' p'=>⟨ts.length-(i+1),by omega,p'⟩,λx H' y=>?_⟩
   obtain⟨my,rx⟩:=yl x H' y
   have r1:=r1.same my.same my.zz
   have m1:=m1.trans my
   have F1:=(F.mo m1).clr ks hk
   rw[ed]at w
   simp only[R,bY]at w
   cases eb:b t (kills ks ρ)with
   |none=>rw[eb]at w;exact w.elim
   |some ρ1=>
    rw[eb]at w
    simp only at w
    refine hg (iB ks As) H' Z1 (kills ks ρ) (L2.clr ks σ) t x [] F1 rx List.nodup_nil (eH) (eH) _ ρ1 eb λσ2 As2 F2 o2 l2 k2=>⟨⟨?_,λj v hj=>?_⟩,?_⟩
    . rw[l2,pY]
    . have:=(ah5 ks σ hj).2
      rw[k2 j this,hj]
    refine hc As2 H' Z1 ρ1 σ2 F2 _ ?_
    have toX:∀{x:Exc}{H2:Hp}{Z2:Addr->Prop},Mo H' Z1 H2 Z2->WpX K cn E As H Z x->WpX K cn E As2 H2 Z2 x:=by
     intro x H2 Z2 m2 h
     refine h.ev (m1.trans m2).ev|>.ev ⟨λ_ _ q _=>q,λa ha=>?_,λ_ q=>q,λ_ q=>.inl q,λ_ q=>q⟩
     rcases o2 a ha with z|z
     . exact .inl (gO z)
     . cases z
    cases ec:c ρ1 with
    |ok k=>
     rw[ec]at w
     intro H2 Z2 p2
     simp only[Res.bind]at w
     cases k with
     |true=>
      rw[if_pos rfl]at w
      rw[if_pos rfl]
      refine he As2 H2 Z2 ρ1 σ2 (F2.mo p2.mo) _ ?_
      cases ee:d ρ1 with
      |ok u=>
       rw[ee]at w
       intro v H3 Z3 C p3
       have m3:=(m1.trans p2.mo).trans p3.mo
       have bnC:∀y∈C,H2 y=none:=λy hy=>(p3.bn y hy).resolve_right (λ⟨i,hi,_⟩=>by cases hi)
       refine⟨rfl,hlt,us++[u],Z3,B++C,m3,Reps.append us (r1.same (p2.same.trans p3.same) (λa h=>p3.zz a (p2.zz a h))) (Reps.one p3.rep),?_,?_,by simp;omega,?_⟩
       . rw[List.nodup_append]
         refine⟨nd,p3.nd,λx hx y hy e=>?_⟩
         subst e
         obtain⟨o,ho,_⟩:=Reps.dom us r1 x hx
         have:=bnC x hy
         rw[p2.same x o ho]at this
         cases this
       . intro x hx
         rcases List.mem_append.mp hx with hx|hx
         . refine⟨λz=>?_,(bz x hx).2⟩
           obtain⟨o,ho,_⟩:=Reps.dom us r1 x hx
           rcases(p2.mo.trans p3.mo).zn x z with z|z
           . exact(bz x hx).1 z
           . rw[ho]at z;cases z
         . exact⟨p3.bz x hx,(m1.trans p2.mo).same.free (bnC x hx)⟩
       . simp only[R]
         have:∀r:Res (List T),((r.bind λus'=>Res.ok (u::us')).bind λus'=>Res.ok (T.lst true (us++us')))=r.bind λus'=>Res.ok (T.lst true (us++[u]++us')):=by
          intro r
          cases r<;>simp[Res.bind]
         simp only at w
         rw[<-this]
         exact w
      |ex x=>rw[ee]at w;exact toX p2.mo w
      |no=>rw[ee]at w;exact w.elim
     |false=>
      rw[if_neg (by decide)]at w
      rw[if_neg (by decide)]
      refine⟨rfl,hlt,us,Z2,B,m1.trans p2.mo,r1.same p2.same p2.zz,nd,λx hx=>⟨λz=>?_,(bz x hx).2⟩,by omega,w⟩
      obtain⟨o,ho,_⟩:=Reps.dom us r1 x hx
      rcases p2.zn x z with z|z
      . exact(bz x hx).1 z
      . rw[ho]at z;cases z
    |ex x=>rw[ec]at w;exact toX ⟨Same.refl _,λ_ h=>h,λ_ h=>.inl h,m1.zi⟩ w
    |no=>rw[ec]at w;exact w.elim
 . have ei:i=ts.length:=by omega
   subst ei
   refine .inl ⟨s1.stop (Nat.le_refl _),λD hD=>?_⟩
   rw[List.drop_length]at w
   simp only[R,bY,Res.bind,List.append_nil]at w
   have hm:=m1.trans (Mo.new (.lst ys) hD m1.zi)
   refine w (.ref D) _ Z1 (D::B) ⟨hm.same,hm.zz,hm.zn,hm.zi,?_,?_,?_,?_⟩
   . simp only[Rep]
     exact⟨D,ys,B,rfl,rfl,eT,r1.same (bl0 hD _) (λ_ h=>h)⟩
   . refine List.nodup_cons.mpr ⟨λhb=>?_,nd⟩
     obtain⟨o,ho,_⟩:=Reps.dom us r1 D hb
     rw[ho]at hD;cases hD
   . intro x hx
     rcases List.mem_cons.mp hx with rfl|hx
     . exact λz=>m1.zi _ z hD
     . exact(bz x hx).1
   . intro x hx
     rcases List.mem_cons.mp hx with rfl|hx
     . exact .inl (m1.same.free hD)
     . exact .inl (bz x hx).2
theorem be3(hi:RI Jn K cn E false wi di)(hg:RG Jn K cn ks g b)(hc:RT Jn K cn E tc c)(he:RE Jn K cn E [] te d)(hk:uP Jn ks=true:=by rfl):
 RE Jn K cn E [] (bf4 ks wi g tc te) (dO ks di b c d):=λAs H Z ρ σ F Q w=>by
 unfold dO at w
 refine hi As H Z ρ σ F _ ?_
 cases e:di ρ with
 |ok ts=>
  rw[e]at w
  intro J H1 Z1 m s
  simp only[Res.bind]at w
  split at w
  . next hl=>exact cb8 hg hc he hk (F.mo m) s hl (WpE.mo F w m)
  . exact w.elim
 |ex x=>rw[e]at w;exact w
 |no=>rw[e]at w;exact w
def aO(a b:Fr->bX):Fr->bX:=λρ=>match a ρ with
 |.nx ρ'=>b ρ'
 |o=>o
def bP:Fr->bX:=λρ=>.nx ρ
theorem co7:RS Jn K cn E cr5 bP:=λAs H Z ρ σ F D w=>w σ As H Z F Ev.refl
theorem df3(ha:RS Jn K cn E t a)(hb:RS Jn K cn E u b):RS Jn K cn E (ds2 t u) (aO a b):=λAs H Z ρ σ F D w=>by
 unfold aO at w
 refine ha As H Z ρ σ F _ ?_
 cases e:a ρ with
 |nx ρ'=>
  rw[e]at w
  exact λσ' As' H' Z' F' ev=>hb As' H' Z' ρ' σ' F' D (Wp.ev w ev)
 |bk ρ'=>rw[e]at w;exact w
 |ct ρ'=>rw[e]at w;exact w
 |rt t=>rw[e]at w;exact w
 |rm ρ' t=>rw[e]at w;exact w
 |ex x=>rw[e]at w;exact w
 |no=>rw[e]at w;exact w
def bM(mv:List Nat)(d:Fr->Res T)(b:T->Fr->Option Fr):Fr->bX:=λρ=>match d ρ with
 |.ok t=>match b t (kills mv ρ)with
  |some ρ'=>.nx ρ'
  |none=>.no
 |.ex x=>.ex x
 |.no=>.no
theorem Post.out(F:Frm Jn K cn H Z ρ σ As)(p:Post K cn As H Z mv H' Z' t v B):∀x∈B,x∉(iB mv As).flatten:=λx hx hA=>by
 rcases p.bn x hx with z|⟨i,hi,z⟩
 . obtain⟨o,ho,_⟩:=F.sl.dom x (gO hA)
   rw[ho]at z;cases z
 . exact ar6 F.nd hi z hA
theorem Post.inA(p:Post K cn As H Z mv H' Z' t v B):∀x∈B,x∈As.flatten\/H x=none:=λx hx=>by
 rcases p.bn x hx with z|⟨i,hi,z⟩
 . exact .inr z
 . exact .inl (bD z)
theorem bh7(he:RE Jn K cn E mv te d)(hg:RG Jn K cn ks g b):RS Jn K cn E (af9 te g) (bM mv d b):=λAs H Z ρ σ F D w=>by
 unfold bM at w
 refine he As H Z ρ σ F _ ?_
 cases e:d ρ with
 |ok t=>
  rw[e]at w
  intro v H1 Z1 B p
  simp only at w
  cases eb:b t (kills mv ρ)with
  |none=>rw[eb]at w;exact w.elim
  |some ρ'=>
   rw[eb]at w
   refine hg (iB mv As) H1 Z1 (kills mv ρ) σ t v B ((F.mo p.mo).kills mv) p.rep p.nd p.bz (p.out F) _ ρ' eb λσ' As' F' o' _ _=>?_
   refine w σ' As' H1 Z1 F' ⟨λa o h _=>p.same a o h,λa ha=>?_,p.zz,λa h=>(p.zn a h).imp_right .inr,λa h=>p.same.free h⟩
   rcases o' a ha with z|z
   . exact .inl (gO z)
   . exact p.inA a z
 |ex x=>rw[e]at w;exact w
 |no=>rw[e]at w;exact w
theorem bm4(hi:RI Jn K cn E false wi di)(hg:RG Jn K cn ks g b)(hc:RT Jn K cn E tc c)(he:RE Jn K cn E [] te d)(hk:uP Jn ks=true:=by rfl)(hJ:zK Jn k=true:=by rfl):
 RS Jn K cn E (aj0 k ks wi g tc te) (bM [] (dO ks di b c d) (aI k)):=λAs H Z ρ σ F D w=>
 bh7 (be3 hi hg hc he hk) (bb4 k hJ) As H Z ρ σ F D w
def bI(mv:List Nat)(d:Fr->Res T):Fr->bX:=λρ=>match d ρ with
 |.ok t=>.rt t
 |.ex x=>.ex x
 |.no=>.no
theorem dg4(he:RE Jn K cn E mv te d):RS Jn K cn E (di3 te) (bI mv d):=λAs H Z ρ σ F D w=>by
 unfold bI at w
 refine he As H Z ρ σ F _ ?_
 cases e:d ρ with
 |ok t=>
  rw[e]at w
  intro v H1 Z1 B p
  refine w v H1 Z1 B ⟨⟨λa o h _=>p.same a o h,λa ha=>?_,p.zz,λa h=>(p.zn a h).imp_right .inr,λa h=>p.same.free h⟩,p.rep,p.nd,p.bz,p.zi⟩
  rw[List.flatten_cons,List.flatten_nil,List.append_nil]at ha
  exact p.inA a ha
 |ex x=>rw[e]at w;exact w
 |no=>rw[e]at w;exact w
def cW(c:Fr->Res Bool)(a b:Fr->bX):Fr->bX:=λρ=>match c ρ with
 |.ok k=>if k=true then a ρ else b ρ
 |.ex x=>.ex x
 |.no=>.no
theorem ds8(hc:RT Jn K cn E tt c)(ha:RS Jn K cn E t a)(hb:RS Jn K cn E u b):RS Jn K cn E (dc4 tt t u) (cW c a b):=λAs H Z ρ σ F D w=>by
 unfold cW at w
 refine hc As H Z ρ σ F _ ?_
 cases e:c ρ with
 |ok k=>
  rw[e]at w
  intro H1 Z1 p
  simp only at w
  split
  . next h=>rw[if_pos h]at w;exact ha As H1 Z1 ρ σ (F.mo p.mo) D (Wp.ev w p.mo.ev)
  . next h=>rw[if_neg h]at w;exact hb As H1 Z1 ρ σ (F.mo p.mo) D (Wp.ev w p.mo.ev)
 |ex x=>rw[e]at w;exact w
 |no=>rw[e]at w;exact w
def ds5(d:Fr->Res T):Fr->bX:=λρ=>match d ρ with
 |.ok _=>.nx ρ
 |.ex x=>.ex x
 |.no=>.no
def dz2:Fr->bX:=λρ=>.bk ρ
def dy5:Fr->bX:=λρ=>.ct ρ
def iT(b:T->Fr->Option Fr)(body:Fr->bX):List T->Fr->bX
 |[],ρ=>.nx ρ
 |t::ts,ρ=>match b t ρ with
  |none=>.no
  |some ρ1=>match body ρ1 with
   |.nx ρ2=>iT b body ts ρ2
   |.ct ρ2=>iT b body ts ρ2
   |.bk ρ2=>.nx ρ2
   |o=>o
def mJ(di:Fr->Res (List T))(b:T->Fr->Option Fr)(body:Fr->bX):Fr->bX:=λρ=>match di ρ with
 |.ok ts=>iT b body ts ρ
 |.ex x=>.ex x
 |.no=>.no
theorem dl4(hi:RI Jn K cn E true wi di)(hg:RG Jn K cn ks g b)(hb:RS Jn K cn E tb body):RS Jn K cn E (dy3 wi g tb) (mJ di b body):=λAs H Z ρ σ F D w=>by
 unfold mJ at w
 refine hi As H Z ρ σ F _ ?_
 cases e:di ρ with
 |ok ts=>
  rw[e]at w
  intro J H1 Z1 m s
  refine⟨λi k σ' H'=>k=ts.length-i/\i<=ts.length/\∃ρ' Z' As',Frm Jn K cn H' Z' ρ' σ' As'/\Src K cn true H' Z' J ts/\Wp Jn K cn E As' H' Z' D (iT b body (ts.drop i) ρ'),⟨ts.length,by simp,Nat.zero_le _,ρ,Z1,As,F.mo m,s,Wp.ev w m.ev⟩,?_⟩
  rintro i k σ1 H2 ⟨rfl,hle,ρ1,Z2,As1,F1,s1,w1⟩
  by_cases hlt:i<ts.length
  . obtain⟨t,et⟩:∃t,ts[i]?=some t:=⟨ts[i],List.getElem?_eq_getElem hlt⟩
    obtain⟨go,yl⟩:=s1.turn F1.zi et
    have ed:ts.drop i=t::ts.drop (i+1):=by
     obtain⟨h1,h2⟩:=List.getElem?_eq_some_iff.mp et
     rw[<-h2]
     exact List.drop_eq_getElem_cons hlt
    refine .inr ⟨go,_,λσ' H' p'=>⟨ts.length-(i+1),by omega,p'⟩,λx H' y=>?_⟩
    obtain⟨my,rx⟩:=yl x H' y
    have F1:=F1.mo my
    have s1:=s1.mo my
    have w1:=Wp.ev w1 (my.ev (As:=As1))
    rw[ed]at w1
    simp only[iT]at w1
    cases eb:b t ρ1 with
    |none=>rw[eb]at w1;exact w1.elim
    |some ρ2=>
     rw[eb]at w1
     simp only at w1
     refine hg As1 H' Z2 ρ1 σ1 t x [] F1 rx List.nodup_nil (eH) (eH) _ ρ2 eb λσ2 As2 F2 o2 _ _=>?_
     have ev2:Ev As1 H' Z2 As2 H' Z2:=⟨λ_ _ q _=>q,λa ha=>.inl ((o2 a ha).resolve_right ((λz=>nomatch z))),λ_ q=>q,λ_ q=>.inl q,λ_ q=>q⟩
     refine hb As2 H' Z2 ρ2 σ2 F2 _ ?_
     have w2:=Wp.ev w1 ev2
     cases eo:body ρ2 with
     |nx ρ3=>
      rw[eo]at w2
      exact λσ' As' H'' Z' F' ev=>⟨rfl,hlt,ρ3,Z',As',F',(s1.ev F1 ev2).ev F2 ev,Wp.ev w2 ev⟩
     |ct ρ3=>
      rw[eo]at w2
      exact λσ' As' H'' Z' F' ev=>⟨rfl,hlt,ρ3,Z',As',F',(s1.ev F1 ev2).ev F2 ev,Wp.ev w2 ev⟩
     |bk ρ3=>rw[eo]at w2;exact w2
     |rt t=>rw[eo]at w2;exact w2
     |rm ρ3 t=>rw[eo]at w2;exact w2
     |ex x=>rw[eo]at w2;exact w2
     |no=>rw[eo]at w2;exact w2
  . have ei:i=ts.length:=by omega
    subst ei
    rw[List.drop_length]at w1
    exact .inl ⟨s1.stop (Nat.le_refl _),w1 σ1 As1 H2 Z2 F1 Ev.refl⟩
 |ex x=>rw[e]at w;exact w
 |no=>rw[e]at w;exact w
def pG(c:Fr->Res Bool)(body:Fr->bX):Nat->Fr->bX
 |0,_=>.no
 |n+1,ρ=>match c ρ with
  |.ok k=>if k=true then match body ρ with
   |.nx ρ2=>pG c body n ρ2
   |.ct ρ2=>pG c body n ρ2
   |.bk ρ2=>.nx ρ2
   |o=>o
   else .nx ρ
  |.ex x=>.ex x
  |.no=>.no
theorem bf3:∃n:Nat,10^12<=n:=⟨_,Nat.le_refl _⟩
noncomputable def tX:Nat:=Classical.choose bf3
theorem ce9:10^12<=tX:=Classical.choose_spec bf3
noncomputable def tE(c:Fr->Res Bool)(body:Fr->bX):Fr->bX:=pG c body tX
theorem cb3(hc:RT Jn K cn E tc c)(hb:RS Jn K cn E tb body):RS Jn K cn E (bh9 tc tb) (tE c body):=λAs H Z ρ σ F D w=>by
 unfold tE at w
 refine⟨λn σ' H'=>∃ρ' Z' As',Frm Jn K cn H' Z' ρ' σ' As'/\Wp Jn K cn E As' H' Z' D (pG c body n ρ'),⟨tX,ρ,Z,As,F,w⟩,?_⟩
 rintro n σ1 H1 ⟨ρ1,Z1,As1,F1,w1⟩
 cases n with
 |zero=>exact w1.elim
 |succ n=>
  refine hc As1 H1 Z1 ρ1 σ1 F1 _ ?_
  simp only[pG]at w1
  cases ec:c ρ1 with
  |ok k=>
   rw[ec]at w1
   intro H2 Z2 p2
   simp only at w1
   cases k with
   |true=>
    rw[if_pos rfl]at w1
    rw[if_pos rfl]
    refine⟨λσ' H'=>∃ρ' Z' As',Frm Jn K cn H' Z' ρ' σ' As'/\Wp Jn K cn E As' H' Z' D (pG c body n ρ'),λσ' H' p'=>⟨n,Nat.lt_succ_self _,p'⟩,?_⟩
    refine hb As1 H2 Z2 ρ1 σ1 (F1.mo p2.mo) _ ?_
    have w2:=Wp.ev w1 p2.mo.ev
    cases eo:body ρ1 with
    |nx ρ3=>rw[eo]at w2;exact λσ' As' H'' Z' F' ev=>⟨ρ3,Z',As',F',Wp.ev w2 ev⟩
    |ct ρ3=>rw[eo]at w2;exact λσ' As' H'' Z' F' ev=>⟨ρ3,Z',As',F',Wp.ev w2 ev⟩
    |bk ρ3=>rw[eo]at w2;exact w2
    |rt t=>rw[eo]at w2;exact w2
    |rm ρ3 t=>rw[eo]at w2;exact w2
    |ex x=>rw[eo]at w2;exact w2
    |no=>rw[eo]at w2;exact w2
   |false=>
    rw[if_neg (by decide)]at w1
    rw[if_neg (by decide)]
    exact w1 σ1 As1 H2 Z2 (F1.mo p2.mo) p2.mo.ev
  |ex x=>rw[ec]at w1;exact w1
  |no=>rw[ec]at w1;exact w1
end
end TL
namespace TL
open PySem PySem.Spec PyProof.Rows L2
section
variable {Jn : iE} {K : PySem.W.Frag} {cn : Str → Option Addr} {E : XK}
def tT(t':T):List Nat->T->Option T
 |[],_=>some t'
 |k::p,.lst o ts=>match ts[k]? with
  |some t=>(tT t' p t).map λu=>.lst o (ts.set k u)
  |none=>none
 |k::p,.tup ts=>match ts[k]? with
  |some t=>(tT t' p t).map λu=>.tup (ts.set k u)
  |none=>none
 |k::p,.ins o c ns ts=>match ts[k]? with
  |some t=>(tT t' p t).map λu=>.ins o c ns (ts.set k u)
  |none=>none
 |_::_,_=>none
structure Plug (K:PySem.W.Frag) (cn:Str->Option Addr) (H:Hp) (Z:Addr->Prop) (t0:T) (v0:V) (A0:List Addr) (p:List Nat) (u:T) (v:V) (B:List Addr):Prop where
 rep:Rep K cn H Z u v B
 sub:B.Sublist A0
 plug:∀H' Z' u' B',(∀a,Z a->Z' a)->(∀b o,H b=some o->((b∈A0/\b∉B)\/Z b\/tD o=true)->H' b=some o)->Rep K cn H' Z' u' v B'->B'.Nodup->(∀x∈B',x∈A0->x∈B)->
  ∃t' A',tT u' p t0=some t'/\Rep K cn H' Z' t' v0 A'/\A'.Nodup/\∀x∈A',(x∈A0/\x∉B)\/x∈B'
theorem Plug.mo(h:Plug K cn H Z t0 v0 A0 p u v B)(s:Same H H1)(zz:∀a,Z a->Z1 a):Plug K cn H1 Z1 t0 v0 A0 p u v B:=
 ⟨h.rep.same s zz,h.sub,λH' Z' u' B' z k=>h.plug H' Z' u' B' (λa q=>z a (zz a q)) λb o q c=>k b o (s b o q) (by
  rcases c with c|c|c
  . exact .inl c
  . exact .inr (.inl (zz b c))
  . exact .inr (.inr c))⟩
theorem Plug.root(h:Rep K cn H Z t0 v0 A0):Plug K cn H Z t0 v0 A0 [] t0 v0 A0:=
 ⟨h,List.Sublist.refl _,λH' Z' u' B' z k r nd _=>⟨u',B',rfl,r,nd,λx hx=>.inr hx⟩⟩
def mD:List Nat->T->Option T
 |[],t=>some t
 |k::p,.lst _ ts=>(ts[k]?).bind (mD p)
 |k::p,.tup ts=>(ts[k]?).bind (mD p)
 |k::p,.ins _ _ _ ts=>(ts[k]?).bind (mD p)
 |_::_,_=>none
def WpP(K:PySem.W.Frag)(cn:Str->Option Addr)(E:XK)(As:List (List Addr))(H:Hp)(Z:Addr->Prop)(A0:List Addr)(t0:T)(v0:V)(Q:VK):Res (List Nat)->Prop
 |.ok p=>∀u v B H' Z',Mo H Z H' Z'->mD p t0=some u->Plug K cn H' Z' t0 v0 A0 p u v B->Q v H'
 |.ex x=>WpX K cn E As H Z x
 |.no=>False
def RP(Jn:iE)(K:PySem.W.Frag)(cn:Str->Option Addr)(E:XK)(j:Nat)(to:TE)(d:Fr->Res (List Nat)):Prop:=∀As H Z ρ σ,Frm Jn K cn H Z ρ σ As->∀t0 v0,ρ[j]?=some (some t0)->σ[j]?=some (some v0)->Rep K cn H Z t0 v0 (As.getD j [])->∀Q,WpP K cn E As H Z (As.getD j []) t0 v0 Q (d ρ)->to σ H Q
def eQ:Fr->Res (List Nat):=λ_=>.ok []
theorem du4(j:Nat):RP Jn K cn E j (bk0 j) eQ:=λAs H Z ρ σ F t0 v0 e1 e2 r Q w=>⟨v0,e2,w t0 v0 _ H Z F.mo0 rfl (Plug.root r)⟩
def dt9:T->Option (List T)
 |.lst o ts=>if o=true then some ts else none
 |.tup ts=>some ts
 |_=>none
def pIx(j:Nat)(d:Fr->Res (List Nat))(i:Fr->Res T):Fr->Res (List Nat):=λρ=>(d ρ).bind λp=>(i ρ).bind λx=>match ρ[j]?,x with
 |some (some t0),.int n=>match(mD p t0).bind dt9 with
  |some ts=>match sU ts.length n with
   |some k=>.ok (p++[k])
   |none=>.no
  |none=>.no
 |_,_=>.no
theorem vE{As:List (List Addr)}(h:As.flatten.Nodup)(i:Nat):(As.getD i []).Nodup:=by
 rw[List.getD_eq_getElem?_getD]
 cases q:As[i]? with
 |none=>exact List.nodup_nil
 |some C=>exact List.Nodup.sublist (List.sublist_flatten_of_mem (List.mem_of_getElem? q)) h
theorem dm0(h:sU n i=some k):k<n:=(aj4 h).2.1
def zH(j:Nat)(p:List Nat)(us:List T)(ρ:Fr):bX:=match ρ[j]? with
 |some (some t0)=>match tT (.lst true us) p t0 with
  |some t'=>.nx (ρ.set j (some t'))
  |none=>.no
 |_=>.no
def ag9(j:Nat)(p:List Nat)(u:T)(ρ:Fr):bX:=match ρ[j]? with
 |some (some t0)=>match tT u p t0 with
  |some t'=>.nx (ρ.set j (some t'))
  |none=>.no
 |_=>.no
theorem ay4{As As1:List (List Addr)}{H H1:Hp}{Z Z1:Addr->Prop}{ρ1:Fr}{σ:St}{j:Nat}{t0:T}{v0:V}{p:List Nat}{u u':T}{v:V}{B:List Addr}{D:ao0}
 (F1:Frm Jn K cn H1 Z1 ρ1 σ As1)(e1:ρ1[j]?=some (some t0))(e2:σ[j]?=some (some v0))(pl:Plug K cn H1 Z1 t0 v0 (As1.getD j []) p u v B)
 {a:Addr}{o0 o1:HO}{C0 C:List Addr}(ev:v=.ref a)(eB:B=a::C0)(ha:H1 a=some o0)(hi:tD o0=false)(hC:a∉C->¬Z1 a->Rep K cn (L2.upd H1 a o1) Z1 u' (.ref a) (a::C))(ndC:C.Nodup)(hCz:∀x∈C,¬Z1 x)(hCa:∀x∈C,x∈As1.flatten->x∈C0)
 (evl:Ev As H Z As1 H1 Z1)(hCn:∀x∈C,x∈As.flatten\/H x=none)(w:Wp Jn K cn E As H Z D (ag9 j p u' ρ1)):D.nx σ (L2.upd H1 a o1):=by
 subst ev eB
 have nd:=vE F1.nd j
 have ndB:(a::C0).Nodup:=nd.sublist pl.sub
 have aA:a∈As1.getD j []:=pl.sub.mem List.mem_cons_self
 have aZ:¬Z1 a:=F1.nz a (bD aA)
 have aC:a∉C:=λh=>(List.nodup_cons.mp ndB).1 (hCa a h (bD aA))
 obtain⟨t',A',es,r',ndA,hA⟩:=pl.plug (L2.upd H1 a o1) Z1 u' (a::C) (λ_ h=>h) (λb o q c=>by
  rw[cK]
  . exact q
  . rintro rfl
    rcases c with c|c|c
    . exact c.2 List.mem_cons_self
    . exact aZ c
    . rw[ha]at q;cases q;rw[hi]at c;cases c) (hC aC aZ) (List.nodup_cons.mpr ⟨aC,ndC⟩) (λx hx hxa=>by
    rcases List.mem_cons.mp hx with rfl|hx
    . exact List.mem_cons_self
    . exact List.mem_cons_of_mem _ (hCa x hx (bD hxa)))
 unfold ag9 at w
 rw[e1]at w
 simp only[es]at w
 have hA':∀x∈A',x∈As1.getD j []\/x∈C:=λx hx=>by
  rcases hA x hx with q|q
  . exact .inl q.1
  . rcases List.mem_cons.mp q with rfl|q
    . exact .inl aA
    . exact .inr q
 have slots:∀{ρ:Fr}{σ:St}{As:List (List Addr)}{i:Nat},Slots K cn H1 Z1 ρ σ As->As.flatten.Nodup->(∀x∈As.flatten,x=a->x∈As.getD i [])->σ[i]?=some (some v0)->Slots K cn (L2.upd H1 a o1) Z1 (ρ.set i (some t')) σ (As.set i A'):=by
  intro ρ
  induction ρ with
  |nil=>intro σ As i h _ _ e;obtain⟨rfl,rfl⟩:=h;simp at e
  |cons o ρ ih=>
   intro σ As i h nd hx e
   obtain⟨w',σ',A,As',rfl,rfl,h1,h2⟩:=h
   rw[List.flatten_cons,List.nodup_append]at nd
   cases i with
   |zero=>
    simp at e
    subst e
    refine⟨_,σ',A',As',rfl,rfl,⟨v0,rfl,r'⟩,?_⟩
    have na:a∉As'.flatten:=λh=>by
     have:=hx a (by rw[List.flatten_cons,List.mem_append];exact .inr h) rfl
     exact nd.2.2 a (by simpa using this) a h rfl
    have:∀{ρ:Fr}{σ:St}{As:List (List Addr)},Slots K cn H1 Z1 ρ σ As->a∉As.flatten->Slots K cn (L2.upd H1 a o1) Z1 ρ σ As:=by
     intro ρ
     induction ρ with
     |nil=>intro σ As h _;exact h
     |cons o ρ ih=>
      intro σ As h hn
      obtain⟨w',σ',A,As',rfl,rfl,h1,h2⟩:=h
      rw[List.flatten_cons,List.mem_append,not_or]at hn
      refine⟨w',σ',A,As',rfl,rfl,?_,ih h2 hn.2⟩
      cases o with
      |none=>exact h1
      |some t=>obtain⟨v,e,r⟩:=h1;exact⟨v,e,r.upd ha hi hn.1 aZ⟩
    exact this h2 na
   |succ i=>
    refine⟨w',σ',A,As'.set i A',rfl,rfl,?_,ih h2 nd.2.1 (λx hx' ex=>?_) (by simpa using e)⟩
    . have na:a∉A:=λh=>by
       have:=hx a (by rw[List.flatten_cons,List.mem_append];exact .inl h) rfl
       have:a∈As'.getD i []:=by simpa using this
       exact nd.2.2 a h a (bD this) rfl
      cases o with
      |none=>exact h1
      |some t=>obtain⟨v,e,r⟩:=h1;exact⟨v,e,r.upd ha hi na aZ⟩
    . have:=hx x (by rw[List.flatten_cons,List.mem_append];exact .inr hx') ex
      simpa using this
 refine w σ (As1.set j A') _ Z1 ⟨slots F1.sl F1.nd (λx _ ex=>by rw[ex];exact aA) e2,nR ndA F1.nd (λb hb hf=>?_),λb hb z=>?_,λb z=>?_,F1.pn⟩ ?_
 . rcases hA' b hb with q|q
   . exact q
   . exact pl.sub.mem (List.mem_cons_of_mem _ (hCa b q hf))
 . rcases iS hb with q|q
   . rcases hA' b q with q|q
     . exact F1.nz b (bD q) z
     . exact hCz b q z
   . exact F1.nz b q z
 . by_cases e:b=a
   . rw[e,eT];exact(λz=>nomatch z)
   . rw[cK e];exact F1.zi b z
 . refine⟨λb o q hb=>?_,λb hb=>?_,evl.zz,evl.zn,λb hb=>evl.dom b ?_⟩
   . rw[cK]
     . exact evl.keep b o q hb
     . rintro rfl
       rcases evl.own b (bD aA)with z|z
       . exact hb z
       . rw[q]at z;cases z
   . rcases iS hb with q|q
     . rcases hA' b q with q|q
       . exact evl.own b (bD q)
       . exact hCn b q
     . exact evl.own b q
   . by_cases e:b=a
     . rw[e,eT]at hb;cases hb
     . rw[cK e]at hb;exact hb
theorem bn7
 (F1:Frm Jn K cn H1 Z1 ρ1 σ As1)(e1:ρ1[j]?=some (some t0))(e2:σ[j]?=some (some v0))(pl:Plug K cn H1 Z1 t0 v0 (As1.getD j []) p (.lst true us) v B)
 (ev:v=.ref a)(eB:B=a::C0)(ha:H1 a=some (.lst ws))(hC:Reps K cn H1 Z1 us' ws' C)(ndC:C.Nodup)(hCz:∀x∈C,¬Z1 x)(hCa:∀x∈C,x∈As1.flatten->x∈C0)
 (evl:Ev As H Z As1 H1 Z1)(hCn:∀x∈C,x∈As.flatten\/H x=none)(w:Wp Jn K cn E As H Z D (zH j p us' ρ1)):D.nx σ (L2.upd H1 a (.lst ws')):=by
 subst ev eB
 refine ay4 (E:=E) F1 e1 e2 pl rfl rfl ha rfl (u':=.lst true us') (λaC aZ=>?_) ndC hCz hCa evl hCn w
 simp only[Rep]
 exact⟨a,ws',C,rfl,rfl,eT,Reps.upd hC ha rfl aC aZ⟩
def mW(j:Nat)(mv:List Nat)(d:Fr->Res (List Nat))(e:Fr->Res T):Fr->bX:=λρ=>match ρ[j]? with
 |some (some t0)=>match d ρ with
  |.ok p=>match mD p t0 with
   |some (.lst true us)=>match e ρ with
    |.ok t=>if us.length<sizeLine then zH j p (us++[t]) (kills mv ρ)else .no
    |.ex x=>.ex x
    |.no=>.no
   |_=>.no
  |.ex x=>.ex x
  |.no=>.no
 |_=>.no
theorem aw1:∀(mv:List Nat),mv.contains j=false->∀As:List (List Addr),(iB mv As).getD j []=As.getD j []
 |[],_,_=>rfl
 |i::is,h,As=>by
  simp only[List.contains_cons,Bool.or_eq_false_iff,beq_eq_false_iff_ne]at h
  show(iB is (As.set i [])).getD j []=_
  rw[aw1 is h.2,List.getD_eq_getElem?_getD,List.getElem?_set_ne (Ne.symm h.1),<-List.getD_eq_getElem?_getD]
theorem ab7:∀(mv:List Nat),mv.contains j=false->∀ρ:Fr,(kills mv ρ)[j]?=ρ[j]?
 |[],_,_=>rfl
 |i::is,h,ρ=>by
  simp only[List.contains_cons,Bool.or_eq_false_iff,beq_eq_false_iff_ne]at h
  show(kills is (ρ.set i none))[j]?=_
  rw[ab7 is h.2,List.getElem?_set_ne (Ne.symm h.1)]
theorem dt1{j:Nat}{mv:List Nat}{to te:TE}{d:Fr->Res (List Nat)}{e:Fr->Res T}(hd:RP Jn K cn E j to d)(he:RE Jn K cn E mv te e)(hj:mv.contains j=false:=by rfl):RS Jn K cn E (cm5 (tBM K "list" ar4 to (tV te ap0))) (mW j mv d e):=λAs H Z ρ σ F D w=>by
 unfold mW at w
 cases e1:ρ[j]? with
 |none=>rw[e1]at w;exact w.elim
 |some o=>
  rw[e1]at w
  cases o with
  |none=>exact w.elim
  |some t0=>
   obtain⟨v0,e2,r0⟩:=F.sl.get e1
   refine hd As H Z ρ σ F t0 v0 e1 e2 r0 _ ?_
   simp only at w
   cases ed:d ρ with
   |ok p=>
    rw[ed]at w
    intro u v B H1 Z1 m1 hn pl
    simp only[hn]at w
    split at w
    . next us hq=>
      cases hq
      have q:=pl.rep
      simp only[Rep]at q
      obtain⟨a,ws,C0,rfl,rfl,ea,rs⟩:=q
      refine⟨.inl ⟨rfl,ws,SqL.of ea⟩,he As H1 Z1 ρ σ (F.mo m1) _ ?_⟩
      cases ee:e ρ with
      |ok t=>
       rw[ee]at w
       intro y H2 Z2 C p2
       simp only at w
       split at w
       . next hlen=>
         have pl2:=pl.mo p2.same p2.zz
         have ea2:=p2.same _ _ ea
         have rs2:=rs.same p2.same p2.zz
         refine⟨a,ws,y,rfl,rfl,ea2,by rw[Reps.length us rs];exact hlen,?_⟩
         have m2:=m1.trans p2.mo
         have F2:=(F.mo m2).kills mv
         have gD:(iB mv As).getD j []=As.getD j []:=aw1 mv hj As
         have pl3:Plug K cn H2 Z2 t0 v0 ((iB mv As).getD j []) p (.lst true us) (.ref a) (a::C0):=by rw[gD];exact pl2
         have ndB:(a::C0).Nodup:=(vE F.nd j).sublist pl.sub
         have c0A:∀x∈C0,x∈As.getD j []:=λx hx=>pl.sub.mem (List.mem_cons_of_mem _ hx)
         have cOut:∀x∈C,x∉(iB mv As).flatten:=λx hx hA=>by
          rcases p2.bn x hx with z|⟨i,hi,z⟩
          . obtain⟨o,ho,_⟩:=(F.mo m1).sl.dom x (gO hA)
            rw[ho]at z;cases z
          . exact ar6 F.nd hi z hA
         have c0In:∀x∈C0,x∈(iB mv As).flatten:=λx hx=>bD (i:=j) (by rw[gD];exact c0A x hx)
         refine bn7 (As:=As) (H:=H) (Z:=Z) (E:=E) F2 (by rw[ab7 mv hj];exact e1) e2 pl3 rfl rfl ea2 (us':=us++[t]) (ws':=ws++[y]) (C:=C0++C) (Reps.append us rs2 (Reps.one p2.rep)) ?_ ?_ ?_ ?_ ?_ w
         . rw[List.nodup_append]
           exact⟨(List.nodup_cons.mp ndB).2,p2.nd,λx hx y hy e=>by subst e;exact cOut x hy (c0In x hx)⟩
         . intro x hx
           rcases List.mem_append.mp hx with hx|hx
           . exact F2.nz x (c0In x hx)
           . exact p2.bz x hx
         . intro x hx hA
           rcases List.mem_append.mp hx with hx|hx
           . exact hx
           . exact absurd hA (cOut x hx)
         . exact⟨λb o q _=>m2.same b o q,λb hb=>.inl (gO hb),m2.zz,λb h=>(m2.zn b h).imp_right .inr,λb h=>m2.same.free h⟩
         . intro x hx
           rcases List.mem_append.mp hx with hx|hx
           . exact .inl (bD (c0A x hx))
           . rcases p2.bn x hx with z|⟨i,hi,z⟩
             . exact .inr (m1.same.free z)
             . exact .inl (bD z)
       . exact w.elim
      |ex x=>rw[ee]at w;exact WpX.ev w m1.ev
      |no=>rw[ee]at w;exact w
    . exact w.elim
   |ex x=>rw[ed]at w;exact w
   |no=>rw[ed]at w;exact w
def yG(j:Nat)(mv:List Nat)(e:Fr->Res T)(d:Fr->Res (List Nat))(i:Fr->Res T):Fr->bX:=λρ=>match e ρ with
 |.ok t=>match(kills mv ρ)[j]? with
  |some (some t0)=>match d (kills mv ρ)with
   |.ok p=>match mD p t0 with
    |some (.lst true us)=>match i (kills mv ρ)with
     |.ok (.int n)=>match sU us.length n with
      |some k=>zH j p (us.set k t) (kills mv ρ)
      |none=>.no
     |.ok _=>.no
     |.ex x=>.ex x
     |.no=>.no
    |_=>.no
   |.ex x=>.ex x
   |.no=>.no
  |_=>.no
 |.ex x=>.ex x
 |.no=>.no
theorem Reps.put(rt:Rep K cn H Z t y C):∀(us:List T){ws:List V}{A:List Addr}{k:Nat},Reps K cn H Z us ws A->k<us.length->∃B1 Bo B2,A=B1++Bo++B2/\Reps K cn H Z (us.set k t) (ws.set k y) (B1++C++B2)
 |[],_,_,_,_,e=>by simp at e
 |u::us,ws,A,0,r,e=>by
  simp only[Reps]at r
  obtain⟨v,r',P,Q',rfl,rfl,h1,h2⟩:=r
  refine⟨[],P,Q',by simp,?_⟩
  simp only[List.set_cons_zero,Reps]
  exact⟨y,r',C,Q',rfl,by simp,rt,h2⟩
 |u::us,ws,A,k+1,r,e=>by
  simp only[Reps]at r
  obtain⟨v,r',P,Q',rfl,rfl,h1,h2⟩:=r
  obtain⟨X1,X2,X3,rfl,hr⟩:=Reps.put rt us (k:=k) h2 (by simpa using e)
  refine⟨P++X1,X2,X3,by simp,?_⟩
  simp only[List.set_cons_succ,Reps]
  exact⟨v,r'.set k y,P,X1++C++X3,rfl,by simp,h1,hr⟩
theorem dp0{j:Nat}{mv:List Nat}{te to ti:TE}{e:Fr->Res T}{d:Fr->Res (List Nat)}{i:Fr->Res T}(he:RE Jn K cn E mv te e)(hd:RP Jn K cn E j to d)(hi:RB Jn K cn E ti i):RS Jn K cn E (af9 te (de4 to ti co4)) (yG j mv e d i):=λAs H Z ρ σ F D w=>by
 unfold yG at w
 refine he As H Z ρ σ F _ ?_
 cases ee:e ρ with
 |ok t=>
  rw[ee]at w
  intro y H1 Z1 C p1
  simp only at w
  have F1:=(F.mo p1.mo).kills mv
  cases e1:(kills mv ρ)[j]? with
  |none=>rw[e1]at w;exact w.elim
  |some o=>
   rw[e1]at w
   cases o with
   |none=>exact w.elim
   |some t0=>
    obtain⟨v0,e2,r0⟩:=F1.sl.get e1
    simp only at w
    have ev1:Ev As H Z (iB mv As) H1 Z1:=⟨λb o q _=>p1.same b o q,λb hb=>.inl (gO hb),p1.zz,λb h=>(p1.zn b h).imp_right .inr,λb h=>p1.same.free h⟩
    refine hd (iB mv As) H1 Z1 (kills mv ρ) σ F1 t0 v0 e1 e2 r0 _ ?_
    cases ed:d (kills mv ρ)with
    |ok p=>
     rw[ed]at w
     intro u v B H2 Z2 m2 hn pl
     simp only[hn]at w
     split at w
     . next us hq=>
       cases hq
       refine hi (iB mv As) H2 Z2 (kills mv ρ) σ (F1.mo m2) _ ?_
       cases ei:i (kills mv ρ)with
       |ok x=>
        rw[ei]at w
        intro vi H3 Z3 Bi p3
        cases x with
        |int n=>
         simp only at w
         have qi:=p3.rep
         simp only[Rep]at qi
         obtain⟨rfl,_⟩:=qi
         cases ek:sU us.length n with
         |none=>rw[ek]at w;exact w.elim
         |some k=>
          rw[ek]at w
          have m3:=m2.trans p3.mo
          have pl3:=pl.mo p3.same p3.zz
          have q:=pl3.rep
          simp only[Rep]at q
          obtain⟨a,ws,C0,rfl,rfl,ea,rs⟩:=q
          have rt:Rep K cn H3 Z3 t y C:=p1.rep.same m3.same m3.zz
          have F3:=F1.mo m3
          have lw:=Reps.length us rs
          obtain⟨B1,Bo,B2,rfl,rs'⟩:=Reps.put rt us rs (dm0 ek)
          refine⟨a,ws,n,k,rfl,rfl,ea,by rw[lw];exact ek,?_⟩
          have ndB:(a::(B1++Bo++B2)).Nodup:=(vE F1.nd j).sublist pl.sub
          have cA:∀x∈B1++Bo++B2,x∈(iB mv As).getD j []:=λx hx=>pl.sub.mem (List.mem_cons_of_mem _ hx)
          have i1:∀x∈B1,x∈B1++Bo++B2:=λx hx=>List.mem_append_left _ (List.mem_append_left _ hx)
          have i2:∀x∈B2,x∈B1++Bo++B2:=λx hx=>List.mem_append_right _ hx
          have cOut:=p1.out F
          have nd1:=(List.nodup_cons.mp ndB).2
          rw[List.append_assoc,List.nodup_append]at nd1
          obtain⟨n1,n2,n3⟩:=nd1
          rw[List.nodup_append]at n2
          refine bn7 (As:=As) (H:=H) (Z:=Z) (E:=E) F3 e1 e2 pl3 rfl rfl ea (us':=us.set k t) (ws':=ws.set k y) (C:=B1++C++B2) rs' ?_ ?_ ?_ (ev1.trans m3.ev) ?_ w
          . rw[List.append_assoc,List.nodup_append]
            refine⟨n1,?_,λx hx z hz e=>?_⟩
            . rw[List.nodup_append]
              exact⟨p1.nd,n2.2.1,λx hx z hz e=>by subst e;exact cOut x hx (bD (cA x (i2 x hz)))⟩
            . subst e
              rcases List.mem_append.mp hz with hz|hz
              . exact cOut x hz (bD (cA x (i1 x hx)))
              . exact n3 x hx x (List.mem_append_right _ hz) rfl
          . intro x hx
            rcases List.mem_append.mp hx with hx|hx
            . rcases List.mem_append.mp hx with hx|hx
              . exact F3.nz x (bD (cA x (i1 x hx)))
              . intro z
                rcases m3.zn x z with z|z
                . exact p1.bz x hx z
                . obtain⟨o,ho,_⟩:=p1.rep.dom t x hx
                  rw[ho]at z;cases z
            . exact F3.nz x (bD (cA x (i2 x hx)))
          . intro x hx hA
            rcases List.mem_append.mp hx with hx|hx
            . rcases List.mem_append.mp hx with hx|hx
              . exact i1 x hx
              . exact absurd hA (cOut x hx)
            . exact i2 x hx
          . intro x hx
            rcases List.mem_append.mp hx with hx|hx
            . rcases List.mem_append.mp hx with hx|hx
              . exact .inl (gO (bD (cA x (i1 x hx))))
              . exact p1.inA x hx
            . exact .inl (gO (bD (cA x (i2 x hx))))
        |_=>exact w.elim
       |ex x=>rw[ei]at w;exact WpX.ev w (ev1.trans m2.ev)
       |no=>rw[ei]at w;exact w
     . exact w.elim
    |ex x=>rw[ed]at w;exact WpX.ev w ev1
    |no=>rw[ed]at w;exact w
 |ex x=>rw[ee]at w;exact w
 |no=>rw[ee]at w;exact w
def bU:bX->Res T
 |.nx _=>.ok .non
 |.rt t=>.ok t
 |.ex x=>.ex x
 |_=>.no
def cN(n:Nat)(ts:List T):Fr:=ts.map some++List.replicate (n-ts.length) none
theorem ap6:∀(m:Nat),Slots K cn H Z (List.replicate m none) (List.replicate m none) (List.replicate m [])
 |0=>⟨rfl,rfl⟩
 |m+1=>⟨none,List.replicate m none,[],List.replicate m [],rfl,rfl,rfl,ap6 m⟩
theorem yV:∀(ts:List T){vs:List V},Reps K cn H Z ts vs []->Slots K cn H Z (ts.map some++List.replicate m none) (vs.map some++List.replicate m none) (List.replicate (ts.length+m) [])
 |[],vs,h=>by
  simp only[Reps]at h
  obtain⟨rfl,_⟩:=h
  simpa using ap6 m
 |t::ts,vs,h=>by
  simp only[Reps]at h
  obtain⟨v,r,B,C,rfl,e,h1,h2⟩:=h
  have eb:B=[]/\C=[]:=by simpa using e.symm
  obtain⟨rfl,rfl⟩:=eb
  have:=yV (m:=m) ts h2
  refine⟨some v,_,[],List.replicate (ts.length+m) [],rfl,?_,⟨v,rfl,h1⟩,this⟩
  rw[List.length_cons,show ts.length+1+m=(ts.length+m)+1 by omega]
  rfl
theorem mN:∀m:Nat,(List.replicate m ([]:List Addr)).flatten=[]
 |0=>rfl
 |m+1=>by rw[List.replicate_succ,List.flatten_cons,mN m];rfl
theorem as4 {P : Program} {w : World} {mg : Str → Option Value} {base : Heap} {x qual : Str} {st : Stmt} {f : Addr} {fd : FuncData} {N ps : List Str} {k : Nat} {d : Fr → bX} (F : Fun K x qual st f fd) (S : bF N ps (aM st))
    (hbody : ∀ (cdv : Value) (A : Around) (outer : List Env) (s : Shared) (H : Hp) (E : XK), Room k (A.deeper (envOfC qual (aM st) s.heap.objs.size f cdv)) →
      ∃ t, PSs (mS lB P w K mg base N qual (aM st) f cdv A outer s H E).nox (dS st) t ∧ RS [] K cn E t d) {n : Nat} {G : List T → Res T} (hn : ps.length = n) (hG : ∀ ts, G ts = bU (d (cN N.length ts))) : FnOk P w K mg base lB (k + 1) f fd ps (bK K cn n G) := by
  have eG : G = fun ts => bU (d (cN N.length ts)) := funext hG
  subst hn eG
  refine F.ok S (fun vs H Q E h => h.1) fun cdv A outer s H vs Q E hr h => ?_
  obtain ⟨hl, ts, Z, zi, r, w⟩ := h
  obtain ⟨t, hp, ht⟩ := hbody cdv A outer s H E hr
  refine ⟨t, hp, ?_⟩
  have lt := Reps.length ts r
  have sl : Slots K cn H Z (cN N.length ts) (L2.kE N vs) (List.replicate (ts.length + (N.length - ts.length)) []) := by
    unfold cN L2.kE
    rw [lt]
    exact yV ts r
  have F0 : Frm [] K cn H Z (cN N.length ts) (L2.kE N vs) (List.replicate (ts.length + (N.length - ts.length)) []) := ⟨sl, by rw [mN]; exact List.nodup_nil, by rw [mN]; exact eH, zi, eH⟩
  refine ht _ H Z _ _ F0 _ ?_
  have bn : ∀ {B : List Addr} {H' : Hp} {Z' : Addr → Prop}, Ev (List.replicate (ts.length + (N.length - ts.length)) []) H Z [B] H' Z' → ∀ b ∈ B, H b = none := fun {B H' Z'} e b hb => by
    rcases e.own b (by simpa using hb) with q | q
    · rw [mN] at q; cases q
    · exact q
  have sm : ∀ {As' : List (List Addr)} {H' : Hp} {Z' : Addr → Prop}, Ev (List.replicate (ts.length + (N.length - ts.length)) []) H Z As' H' Z' → Same H H' ∧ ∀ a, Z' a → Z a ∨ H a = none := fun {As' H' Z'} e => ⟨fun b o q => e.keep b o q (by rw [mN]; exact (fun z => nomatch z)), fun a z => by
    rcases e.zn a z with q | q | q
    · exact .inl q
    · rw [mN] at q; cases q
    · exact .inr q⟩
  cases ed : d (cN N.length ts) with
  | nx ρ =>
    simp only [ed, bU] at w
    intro σ' As' H' Z' F' ev
    exact w .non H' Z' [] ⟨(sm ev).1, ev.zz, (sm ev).2, F'.zi, by simp [Rep], List.nodup_nil, eH, eH⟩
  | rt t =>
    simp only [ed, bU] at w
    intro v H' Z' B p
    exact w v H' Z' B ⟨(sm p.ev).1, p.ev.zz, (sm p.ev).2, p.zi, p.rep, p.nd, p.bz, fun b hb => .inl (bn p.ev b hb)⟩
  | ex x =>
    simp only [ed, bU] at w
    exact WpX.ev w ⟨fun _ _ q _ => q, fun a ha => (by rw [mN] at ha; exact nomatch ha), fun _ h => h, fun _ h => .inl h, fun _ h => h⟩
  | bk ρ => simp only [ed, bU] at w; exact w.elim
  | rm ρ t => simp only [ed, bU] at w; exact w.elim
  | ct ρ => simp only [ed, bU] at w; exact w.elim
  | no => simp only [ed, bU] at w; exact w.elim
theorem bO{P:Program}{w:World}{mg:Str->Option Value}{base:Heap}{x:Str}{st:Stmt}{N ps:List Str}{k:Nat}{d:Fr->bX}(F:fZ K mg x st)(S:bF N ps (aM st))
 (hb:∀(kV doc pm:Value)(an:Option Addr)(cdv ct:Value)(us:List Value),us.length=ps.length->bindArgs (PySem.W.fnOf x x (jZ st) (dS st) (aM st) .none kV doc pm an cdv ct) ⟨us,[]⟩=pure (ps.zip us))
 (hbody:∀(f:Addr)(cdv:Value)(A:Around)(outer:List Env)(s:Shared)(H:Hp)(E:XK),Room k (A.deeper (envOfC x (aM st) s.heap.objs.size f cdv))->
  ∃t,PSs (mS lB P w K mg base N x (aM st) f cdv A outer s H E).nox (dS st) t/\RS [] K cn E t d){n:Nat}{G:List T->Res T}(hn:ps.length=n)(hG:∀ts,G ts=bU (d (cN N.length ts))):fL P w K mg base (k+1) x ps (bK K cn n G):=by
 obtain⟨f,fd,F,hm⟩:=F.ex
 exact⟨f,fd,as4 F S (λcdv A outer s H E hr=>hbody f cdv A outer s H E hr) hn hG,hm,F.kp,F.binds hb⟩
theorem law_fn(F:FnOk P w K mg base lB k f fd [p] (bK K cn 1 G))
 (h:∀ns:List Int,ns.length<=63->(∀n∈ns,Builtin.Int.intBits n<=1048576)->G [.lst false (ns.map .int)]=.ok (.bl true)):FnOk P w K mg base lB k f fd [p] (ao8 K):=by
 refine F.imp λvs H Q E q=>?_
 obtain⟨a,ns,rfl,hs,h63,hbits,hq⟩:=q
 have rints:∀(Z:Addr->Prop)(ns:List Int),Reps K cn H Z (ns.map T.int) (ns.map V.int) []:=by
  intro Z ns
  induction ns with
  |nil=>simp[Reps]
  |cons n ns ih=>
   simp only[List.map_cons,Reps]
   exact⟨.int n,ns.map V.int,[],[],rfl,rfl,by simp[Rep],ih⟩
 refine⟨rfl,[.lst false (ns.map .int)],λb=>b=a/\H b≠none,λb z=>z.2,Reps.one ?_,?_⟩
 . simp only[Rep]
   refine⟨a,ns.map V.int,rfl,trivial,?_,rints _ ns⟩
   rcases hs with(hs|⟨o,hs⟩)|hs
   . exact .inl ⟨hs,rfl,by rw[hs];exact(λz=>nomatch z)⟩
   . exact .inr (.inl ⟨o,hs⟩)
   . exact .inr (.inr hs)
 . rw[h ns h63 hbits]
   intro v H' Z' B p
   have q:=p.rep
   simp only[Rep]at q
   rw[q.1]
   exact hq H'
end
end TL
namespace L2
open PySem PySem.Spec PyProof.Rows
def EqD(K:PySem.W.Frag)(H:Hp):Nat->V->V->Bool->Prop
 |0,x,y,b=>qU x=true/\qU y=true/\b=eqV x y
 |n+1,x,y,b=>(qU x=true/\qU y=true/\b=eqV x y)\/
  (∃p q xs ys,x=.ref p/\y=.ref q/\SqL K H p xs/\SqL K H q ys/\((xs.length≠ys.length/\b=false)\/
   (xs.length=ys.length/\∃es:List Bool,es.length=xs.length/\(∀(j:Nat) x y e,xs[j]?=some x->ys[j]?=some y->es[j]?=some e->EqD K H n x y e)/\b=es.all id)))\/
  (∃p q xs ys,x=.ref p/\y=.ref q/\SqT K H p xs/\SqT K H q ys/\∃es:List Bool,es.length=min xs.length ys.length/\
   (∀(j:Nat) x y e,xs[j]?=some x->ys[j]?=some y->es[j]?=some e->EqD K H n x y e)/\b=(es.all id&&xs.length==ys.length))
theorem bc1:∀{x:V},qU x=true->eqV x x=true
 |.non,_=>rfl
 |.bl b,_=>by simp[eqV]
 |.int i,_=>by simp[eqV]
 |.str s,_=>by simp[eqV]
theorem qJ(es:List Bool):((List.range es.length).all λj=>es.getD j true)=es.all id:=by
 induction es with
 |nil=>rfl
 |cons b es ih=>
  show(List.range (es.length+1)).all _=_
  rw[List.range_succ_eq_map,List.all_cons,List.all_map]
  show(b&&_)=(b&&es.all id)
  rw[<-ih]
  rfl
section
variable {X : Cx} {pins : List (Addr × Obj)} {σ : St} {H : Hp} {s : Shared}
theorem EqD.self(I:Inv X pins σ H s):∀(n:Nat)(x:V)(b:Bool),EqD X.K H n x x b->b=true
 |0,x,b,h=>by
  obtain⟨h1,_,rfl⟩:=h
  exact bc1 h1
 |n+1,x,b,h=>by
  rcases h with⟨h1,_,rfl⟩|⟨p,q,xs,ys,e1,e2,s1,s2,h⟩|⟨p,q,xs,ys,e1,e2,s1,s2,es,hl,he,rfl⟩
  . exact bc1 h1
  . rw[e1]at e2
    cases e2
    have:=I.list_inj s1 s2
    subst this
    rcases h with⟨h,_⟩|⟨_,es,hl,he,rfl⟩
    . exact absurd rfl h
    . rw[List.all_eq_true]
      intro e hm
      obtain⟨j,hj,rfl⟩:=List.getElem_of_mem hm
      exact EqD.self I n xs[j] es[j] (he j xs[j] xs[j] es[j] (List.getElem?_eq_getElem (by omega)) (List.getElem?_eq_getElem (by omega)) (List.getElem?_eq_getElem hj))
  . rw[e1]at e2
    cases e2
    have:=I.tuple_inj s1 s2
    subst this
    rw[beq_self_eq_true,Bool.and_true,List.all_eq_true]
    intro e hm
    obtain⟨j,hj,rfl⟩:=List.getElem_of_mem hm
    have hx:j<xs.length:=by omega
    exact EqD.self I n xs[j] es[j] (he j xs[j] xs[j] es[j] (List.getElem?_eq_getElem hx) (List.getElem?_eq_getElem hx) (List.getElem?_eq_getElem hj))
theorem gB(r:Vals xs us)(h:j<us.length):∃x,xs[j]?=some x/\RelV x us[j]:=by
 have l:=r.length
 have e1:xs[j]?=some xs[j]:=List.getElem?_eq_getElem (by omega)
 obtain⟨u,hu,ru⟩:=r.get e1
 rw[List.getElem?_eq_getElem h]at hu
 exact⟨xs[j],e1,by rw[Option.some.inj hu];exact ru⟩
theorem nV(I:Inv X pins σ H s):∀(n:Nat){A:Around}{x y:V}{u v:Value}{b:Bool},A.units+n<cLine->RelV x u->RelV y v->EqD X.K H n x y b->SeqAt.EqAt A s u v b
 |0,A,x,y,u,v,b,hu,rx,ry,h=>by
  obtain⟨h1,h2,rfl⟩:=h
  exact bw6 rx ry h1 h2
 |n+1,A,x,y,u,v,b,hu,rx,ry,h=>by
  have h0:=h
  rcases h with⟨h1,h2,rfl⟩|⟨p,q,xs,ys,rfl,rfl,s1,s2,h⟩|⟨p,q,xs,ys,rfl,rfl,s1,s2,es,hl,he,rfl⟩
  . exact bw6 rx ry h1 h2
  . cases rx
    cases ry
    by_cases hpq:p=q
    . subst hpq
      rw[EqD.self I (n+1) _ b h0]
      exact SeqAt.EqAt.same _
    . obtain⟨its,r1,p1,_⟩:=I.list s1
      obtain⟨jts,r2,p2,_⟩:=I.list s2
      have l1:=r1.length
      have l2:=r2.length
      refine SeqAt.EqAt.of_refs hpq ?_
      rcases h with⟨hne,rfl⟩|⟨heq,es,hl,he,rfl⟩
      . exact SeqAt.RcAt.lists_lengths p1.isList p2.isList (by simp only[List.size_toArray,bne_iff_ne,ne_eq];omega) (by omega)
      . have:=SeqAt.RcAt.lists (A:=A) (s:=s) (e:=λj=>es.getD j true) p1.isList p2.isList (by simp only[List.size_toArray];omega) (by omega) (λj h1 h2=>by
         simp only[List.size_toArray]at h1 h2
         simp only[List.getElem_toArray]
         obtain⟨x,ex,rx⟩:=gB r1 h1
         obtain⟨y,ey,ry⟩:=gB r2 h2
         have hj:j<es.length:=by omega
         have eg:es.getD j true=es[j]:=by rw[List.getD_eq_getElem?_getD,List.getElem?_eq_getElem hj];rfl
         rw[eg]
         exact nV I n (by show A.units+1+n<cLine;omega) rx ry (he j x y es[j] ex ey (List.getElem?_eq_getElem hj)))
        rw[List.size_toArray,show its.length=es.length by omega,qJ]at this
        exact this
  . cases rx
    cases ry
    by_cases hpq:p=q
    . subst hpq
      rw[EqD.self I (n+1) _ _ h0]
      exact SeqAt.EqAt.same _
    . obtain⟨its,r1,p1,_⟩:=I.tuple s1
      obtain⟨jts,r2,p2,_⟩:=I.tuple s2
      have l1:=r1.length
      have l2:=r2.length
      refine SeqAt.EqAt.of_refs hpq ?_
      have:=SeqAt.RcAt.tuples (A:=A) (s:=s) (e:=λj=>es.getD j true) (show s.heap.IsTuple p its.toArray from p1) (show s.heap.IsTuple q jts.toArray from p2) (by omega) (λj h1 h2=>by
       simp only[List.size_toArray]at h1 h2
       simp only[List.getElem_toArray]
       obtain⟨x,ex,rx⟩:=gB r1 h1
       obtain⟨y,ey,ry⟩:=gB r2 h2
       have hj:j<es.length:=by omega
       have eg:es.getD j true=es[j]:=by rw[List.getD_eq_getElem?_getD,List.getElem?_eq_getElem hj];rfl
       rw[eg]
       exact nV I n (by show A.units+1+n<cLine;omega) rx ry (he j x y es[j] ex ey (List.getElem?_eq_getElem hj)))
      simp only[List.size_toArray]at this
      rw[show min its.length jts.length=es.length by omega,qJ,<-l1,<-l2]at this
      exact this
def bm5(K:PySem.W.Frag)(n:Nat):R2:=λx y H Q=>rEq x y H Q\/(∃p q b,x=.ref p/\y=.ref q/\EqD K H n x y b/\Q (.bl b) H)
theorem dq4(hu:X.A.units+n<cLine):OpR X (compareOp .Eq) (bm5 X.K n):=by
 intro pins s σ H x y v u Q I rx ry h
 rcases h with h|⟨p,q,b,rfl,rfl,h,hq⟩
 . exact dw5 s σ H x y v u Q I rx ry h
 . cases rx
   cases ry
   have bU:EP X pins σ Q (.bool b) s:=⟨.bl b,H,I,rfl,hq⟩
   cases n with
   |zero=>exact absurd h.1 (λz=>by cases z)
   |succ n=>
    rcases h with⟨h1,_,_⟩|⟨p,q,xs,ys,e1,e2,s1,s2,h⟩|⟨p,q,xs,ys,e1,e2,s1,s2,es,hl,he,rfl⟩
    . exact absurd h1 (λz=>by cases z)
    . cases e1
      cases e2
      obtain⟨its,r1,p1,_⟩:=I.list s1
      obtain⟨jts,r2,p2,_⟩:=I.list s2
      have l1:=r1.length
      have l2:=r2.length
      rcases h with⟨hne,rfl⟩|⟨heq,es,hl,he,rfl⟩
      . exact SeqAt.eq_list_lengthsAt p1.isList p2.isList (by simp only[List.size_toArray,bne_iff_ne,ne_eq];omega) (by omega) bU
      . refine SeqAt.eq_listAt (e:=λj=>es.getD j true) p1.isList p2.isList (by simp only[List.size_toArray];omega) (by omega) (λj h1 h2=>?_) ?_
        . simp only[List.size_toArray]at h1 h2
          simp only[List.getElem_toArray]
          obtain⟨x,ex,rx⟩:=gB r1 h1
          obtain⟨y,ey,ry⟩:=gB r2 h2
          have hj:j<es.length:=by omega
          have eg:es.getD j true=es[j]:=by rw[List.getD_eq_getElem?_getD,List.getElem?_eq_getElem hj];rfl
          rw[eg]
          exact nV I n (by show X.A.units+1+n<cLine;omega) rx ry (he j x y es[j] ex ey (List.getElem?_eq_getElem hj))
        . rw[List.size_toArray,show its.length=es.length by omega,qJ]
          exact bU
    . cases e1
      cases e2
      obtain⟨its,r1,p1,_⟩:=I.tuple s1
      obtain⟨jts,r2,p2,_⟩:=I.tuple s2
      have l1:=r1.length
      have l2:=r2.length
      refine SeqAt.eq_tupleAt (e:=λj=>es.getD j true) (show s.heap.IsTuple p its.toArray from p1) (show s.heap.IsTuple q jts.toArray from p2) (by omega) (λj h1 h2=>?_) ?_
      . simp only[List.size_toArray]at h1 h2
        simp only[List.getElem_toArray]
        obtain⟨x,ex,rx⟩:=gB r1 h1
        obtain⟨y,ey,ry⟩:=gB r2 h2
        have hj:j<es.length:=by omega
        have eg:es.getD j true=es[j]:=by rw[List.getD_eq_getElem?_getD,List.getElem?_eq_getElem hj];rfl
        rw[eg]
        exact nV I n (by show X.A.units+1+n<cLine;omega) rx ry (he j x y es[j] ex ey (List.getElem?_eq_getElem hj))
      . simp only[List.size_toArray]
        rw[show min its.length jts.length=es.length by omega,qJ,<-l1,<-l2]
        exact bU
def cu2(K:PySem.W.Frag)(n:Nat)(neg:Bool):R2:=λx y H Q=>(∃p ys,y=.ref p/\(SqL K H p ys\/SqT K H p ys)/\∃es:List Bool,es.length=ys.length/\(∀(j:Nat) y e,ys[j]?=some y->es[j]?=some e->EqD K H n y x e)/\Q (.bl (if neg then !es.any id else es.any id)) H)\/
 (∃i j,x=.str i/\y=.str j/\Q (.bl (if neg then !(!(Builtin.Str.occurrences j i 0 j.length 1).isEmpty)else(!(Builtin.Str.occurrences j i 0 j.length 1).isEmpty))) H)
theorem EqD.det(I:Inv X pins σ H s):∀(n:Nat)(x y:V)(b c:Bool),EqD X.K H n x y b->EqD X.K H n x y c->b=c:=by
 intro n
 induction n with
 |zero=>intro x y b c h1 h2;rw[h1.2.2,h2.2.2]
 |succ n ih=>
  intro x y b c h1 h2
  have flat_ref:∀{p:Addr},qU (.ref p)=true->False:=λh=>by cases h
  rcases h1 with⟨a1,a2,rfl⟩|⟨p,q,xs,ys,rfl,rfl,s1,s2,h1⟩|⟨p,q,xs,ys,rfl,rfl,s1,s2,es,hl,he,rfl⟩
  . rcases h2 with⟨b1,b2,rfl⟩|⟨p,q,xs,ys,rfl,rfl,_⟩|⟨p,q,xs,ys,rfl,rfl,_⟩
    . rfl
    . exact(flat_ref a1).elim
    . exact(flat_ref a1).elim
  . rcases h2 with⟨b1,b2,rfl⟩|⟨p',q',xs',ys',e1,e2,t1,t2,h2⟩|⟨p',q',xs',ys',e1,e2,t1,t2,_⟩
    . exact(flat_ref b1).elim
    . cases e1
      cases e2
      have z1:=I.list_inj s1 t1
      have z2:=I.list_inj s2 t2
      subst z1 z2
      rcases h1 with⟨n1,rfl⟩|⟨n1,es,hl,he,rfl⟩
      . rcases h2 with⟨n2,rfl⟩|⟨n2,_⟩
        . rfl
        . exact absurd n2 n1
      . rcases h2 with⟨n2,rfl⟩|⟨n2,es',hl',he',rfl⟩
        . exact absurd n1 n2
        . have:es=es':=by
           apply List.ext_getElem (by omega)
           intro j h1 h2
           exact ih xs[j] ys[j] es[j] es'[j] (he j _ _ _ (List.getElem?_eq_getElem (by omega)) (List.getElem?_eq_getElem (by omega)) (List.getElem?_eq_getElem h1)) (he' j _ _ _ (List.getElem?_eq_getElem (by omega)) (List.getElem?_eq_getElem (by omega)) (List.getElem?_eq_getElem h2))
          rw[this]
    . cases e1
      obtain⟨_,_,⟨o,n',eo,c1,_⟩,_⟩:=I.list s1
      obtain⟨_,_,⟨o',eo',c2,_⟩,_⟩:=I.tuple t1
      rw[eo]at eo'
      cases eo'
      rw[c1]at c2
      exact absurd c2 (by decide)
  . rcases h2 with⟨b1,b2,rfl⟩|⟨p',q',xs',ys',e1,e2,t1,t2,h2⟩|⟨p',q',xs',ys',e1,e2,t1,t2,es',hl',he',rfl⟩
    . exact(flat_ref b1).elim
    . cases e1
      obtain⟨_,_,⟨o,n',eo,c1,_⟩,_⟩:=I.list t1
      obtain⟨_,_,⟨o',eo',c2,_⟩,_⟩:=I.tuple s1
      rw[eo]at eo'
      cases eo'
      rw[c1]at c2
      exact absurd c2 (by decide)
    . cases e1
      cases e2
      have z1:=I.tuple_inj s1 t1
      have z2:=I.tuple_inj s2 t2
      subst z1 z2
      have:es=es':=by
       apply List.ext_getElem (by omega)
       intro j h1 h2
       have hx:j<xs.length:=by omega
       have hy:j<ys.length:=by omega
       exact ih xs[j] ys[j] es[j] es'[j] (he j _ _ _ (List.getElem?_eq_getElem hx) (List.getElem?_eq_getElem hy) (List.getElem?_eq_getElem h1)) (he' j _ _ _ (List.getElem?_eq_getElem hx) (List.getElem?_eq_getElem hy) (List.getElem?_eq_getElem h2))
      rw[this]
theorem ar8(I:Inv X pins σ H s){n:Nat}{x:V}{ys:List V}{us:List Value}{es:List Bool}(r:Vals ys us)(hl:es.length=ys.length)(he:∀(j:Nat) y e,ys[j]?=some y->es[j]?=some e->EqD X.K H n y x e):
 ∃e:Value->Bool,(∀u∈us,∃y,RelV y u/\EqD X.K H n y x (e u))/\us.any e=es.any id:=by
 refine⟨λu=>@decide (∃y,RelV y u/\EqD X.K H n y x true) (Classical.propDecidable _),?_,?_⟩
 . intro u hu
   obtain⟨j,hj,rfl⟩:=List.getElem_of_mem hu
   obtain⟨y,ey,ry⟩:=gB r hj
   have lj:j<es.length:=by rw[hl,r.length];exact hj
   have q:=he j y es[j] ey (List.getElem?_eq_getElem lj)
   refine⟨y,ry,?_⟩
   by_cases c:∃y,RelV y us[j]/\EqD X.K H n y x true
   . obtain⟨y',ry',q'⟩:=c
     have:=ry.inj ry'
     subst this
     simp only[show(∃y,RelV y us[j]/\EqD X.K H n y x true) from⟨y,ry,q'⟩,decide_true]
     exact q'
   . simp only[c,decide_false]
     cases eb:es[j]with
     |false=>rw[eb]at q;exact q
     |true=>rw[eb]at q;exact absurd ⟨y,ry,q⟩ c
 . rw[Bool.eq_iff_iff,List.any_eq_true,List.any_eq_true]
   constructor
   . rintro⟨u,hu,c⟩
     obtain⟨j,hj,rfl⟩:=List.getElem_of_mem hu
     obtain⟨y,ey,ry⟩:=gB r hj
     have lj:j<es.length:=by rw[hl,r.length];exact hj
     obtain⟨y',ry',q'⟩:=@of_decide_eq_true _ (Classical.propDecidable _) c
     have:=ry.inj ry'
     subst this
     have q:=he j y es[j] ey (List.getElem?_eq_getElem lj)
     exact⟨es[j],List.getElem_mem lj,EqD.det I n y x es[j] true q q'⟩
   . rintro⟨e,hm,c⟩
     obtain⟨j,hj,rfl⟩:=List.getElem_of_mem hm
     have c':es[j]=true:=c
     have lj:j<us.length:=by rw[<-r.length,<-hl];exact hj
     obtain⟨y,ey,ry⟩:=gB r lj
     have q:=he j y es[j] ey (List.getElem?_eq_getElem hj)
     rw[c']at q
     exact⟨us[j],List.getElem_mem lj,@decide_eq_true _ (Classical.propDecidable _) ⟨y,ry,q⟩⟩
theorem dw4{n:Nat}(hu:X.A.units+n+1<cLine):OpR X (compareOp .In) (cu2 X.K n false):=by
 intro pins s σ H x y v u Q I rx ry h
 rcases h with⟨p,ys,rfl,hs,es,hl,he,q⟩|⟨i,j,rfl,rfl,q⟩
 . cases ry
   rcases hs with hs|hs
   . obtain⟨its,r,pl,_⟩:=I.list hs
     obtain⟨e,h1,h2⟩:=ar8 I r hl he
     refine SeqAt.in_listAt e pl.isList (λy hy=>?_) ?_
     . obtain⟨y',ry',q'⟩:=h1 y (by simpa using hy)
       exact nV I n (by show X.A.units+1+n<cLine;omega) ry' rx q'
     . exact⟨.bl _,H,I,by rw[List.any_toArray,h2];rfl,q⟩
   . obtain⟨its,r,pl,_⟩:=I.tuple hs
     obtain⟨e,h1,h2⟩:=ar8 I r hl he
     refine SeqAt.in_tupleAt e (show s.heap.IsTuple p its.toArray from pl) (λy hy=>?_) ?_
     . obtain⟨y',ry',q'⟩:=h1 y (by simpa using hy)
       exact nV I n (by show X.A.units+1+n<cLine;omega) ry' rx q'
     . exact⟨.bl _,H,I,by rw[List.any_toArray,h2];rfl,q⟩
 . exact bv7 s σ H _ _ v u Q I rx ry ⟨i,j,rfl,rfl,q⟩
def de1:R2:=λx y H Q=>(y=.non/\Q (.bl (decide (x=.non))) H)\/(∃a b,x=.bl a/\y=.bl b/\Q (.bl (a==b)) H)
theorem uZ:OpR X (compareOp .Is) de1:=by
 intro pins s σ H x y v u Q I rx ry h
 rcases h with h|⟨a,b,rfl,rfl,q⟩
 . exact dh3 s σ H x y v u Q I rx ry h
 . cases rx
   cases ry
   exact is_bool ⟨.bl _,H,I,rfl,q⟩
end
end L2
namespace L2
open PySem PySem.Spec PyProof.Rows
def jJ(z:Str)(k:Nat):Str:=⟨((List.replicate k z.cps.toList).flatten).toArray⟩
theorem aa2(z:Str):∀(k:Nat)(acc:List Nat),List.foldl (λx1 x2=>x1++x2) acc.toArray (List.replicate k z.cps)=(acc++(List.replicate k z.cps.toList).flatten).toArray
 |0,acc=>by simp
 |k+1,acc=>by
  rw[List.replicate_succ,List.foldl_cons,List.replicate_succ,List.flatten_cons]
  have e:acc.toArray++z.cps=(acc++z.cps.toList).toArray:=by simp
  rw[e,aa2 z k,List.append_assoc]
section
variable {X : Cx}
def ct5(K:PySem.W.Frag):R2:=λx y H Q=>∃l b xs zs,x=.ref l/\y=.ref b/\SqS K H l xs/\SqS K H b zs/\xs.length+zs.length<=sizeLine/\∀p,H p=none->Q (.ref p) (upd H p (.lst (xs++zs)))
theorem op_catS:OpR X (binaryOp .Add) (ct5 X.K):=by
 intro pins s σ H x y v u Q I rx ry h
 obtain⟨l,b,xs,zs,rfl,rfl,hH,hB,hz,q⟩:=h
 cases rx
 cases ry
 obtain⟨its,n,r,e,_⟩:=I.listS hH
 obtain⟨its2,n2,r2,e2,_⟩:=I.listS hB
 have hl:=r.length
 have hl2:=r2.length
 refine PySem.P.add_list e e2 ?_ (by rw[List.size_toArray,List.size_toArray];omega)
 have ea:its.toArray++its2.toArray=(its++its2).toArray:=by simp
 rw[ea]
 exact⟨.ref _,_,I.lnew (t':=s.toks) (r.append r2) (by rw[List.length_append];omega),rfl,q _ I.fresh⟩
def cp5(K:PySem.W.Frag):R2:=λx y H Q=>vH (λi j=>.int (i+j)) x y H Q\/dw7 x y H Q\/ct5 K x y H Q\/cf5 K x y H Q
theorem bB(K:PySem.W.Frag)(hK:X.K=K:=by rfl):OpR X (binaryOp .Add) (cp5 K):=by
 subst hK
 exact op_add.or (op_add_str.or (op_catS.or co8))
def ca5:R2:=λx y H Q=>∃z k,x=.str z/\y=.int k/\-(2^63)<=k/\k<2^62/\z.length*k.toNat<=sizeLine/\Q (.str (jJ z k.toNat)) H
theorem cy6:OpR X (binaryOp .Mult) ca5:=by
 intro pins s σ H x y v u Q I rx ry h
 obtain⟨z,k,rfl,rfl,h1,h2,hz,q⟩:=h
 obtain⟨t,rfl⟩:=rx
 obtain⟨t',rfl⟩:=ry
 have hn:=sizeLine_eq
 refine PySem.P.mul_str ?_ ?_ ?_ ?_
 . rw[decide_eq_false (by omega),decide_eq_false (by omega)]
   rfl
 . intro hk _
   have hk1:1<=k:=by omega
   have:((z.length:Int))<=16777216:=by
    have:z.length*1<=z.length*k.toNat:=Nat.mul_le_mul_left _ (by omega)
    omega
   have hq:(2^63-1:Int)/k>=(z.length:Int):=by
    refine(Int.le_ediv_iff_mul_le (by omega)).mpr ?_
    have e:(z.length:Int)*k=((z.length*k.toNat:Nat):Int):=by
     rw[Int.natCast_mul,Int.toNat_of_nonneg (by omega)]
    rw[e]
    omega
   omega
 . intro _ _
   unfold Builtin.Str.tooLong
   exact decide_eq_false (by omega)
 . split
   . next hk=>
     have e:jJ z k.toNat=Str.empty:=by
      have:k.toNat=0:=by omega
      rw[this]
      rfl
     rw[e]at q
     exact⟨by decide,.str _,H,I.tok _,⟨_,rfl⟩,q⟩
   . next hk=>
     split
     . next hc=>
       have e:jJ z k.toNat=z:=by
        rw[Bool.or_eq_true,beq_iff_eq,beq_iff_eq]at hc
        rcases hc with hc|hc
        . subst hc
          simp[jJ]
        . have hz0:z.cps.toList=[]:=by
           have:z.cps.toList.length=0:=by rw[Array.length_toList];exact hc
           exact List.eq_nil_of_length_eq_zero this
          have:(List.replicate k.toNat z.cps.toList).flatten=[]:=by
           rw[hz0]
           simp
          unfold jJ
          rw[this]
          obtain⟨⟨l⟩⟩:=z
          simp at hz0
          rw[hz0]
       rw[e]at q
       exact⟨.str _,H,I,⟨_,rfl⟩,q⟩
     . have e:(⟨(List.replicate k.toNat z.cps).foldl (· ++ ·) #[]⟩:Str)=jJ z k.toNat:=by
        have:=aa2 z k.toNat []
        rw[List.nil_append]at this
        unfold jJ
        rw[<-this]
       rw[e]
       refine⟨?_,.str _,H,I.tok _,⟨_,rfl⟩,q⟩
       show((List.replicate k.toNat z.cps.toList).flatten.toArray).size<=sizeLine
       rw[List.size_toArray,by2,Array.length_toList,Nat.mul_comm]
       exact hz
def cs5:R2:=λx y H Q=>dr3 x y H Q\/ca5 x y H Q
theorem fM:OpR X (binaryOp .Mult) cs5:=op_mulB.or cy6
end
end L2
namespace TL
open PySem PySem.Spec PyProof.Rows L2
section
variable {Jn : iE} {K : PySem.W.Frag} {cn : Str → Option Addr} {E : XK} {As : List (List Addr)} {H : Hp} {Z : Addr → Prop} {Q : VK}
theorem WpE.val(w:WpE K cn E As H Z [] Q (.ok t))(zi:∀a,Z a->H a≠none)(r:Rep K cn H Z t v []):Q v H:=
 w v H Z [] ⟨Same.refl _,λ_ h=>h,λ_ h=>.inl h,zi,r,List.nodup_nil,eH,eH⟩
theorem WpE.newL(w:WpE K cn E As H Z [] Q (.ok (.lst true ts)))(zi:∀a,Z a->H a≠none)(r:Reps K cn H Z ts vs [])(p:Addr)(hp:H p=none):Q (.ref p) (L2.upd H p (.lst vs)):=by
 have m:=Mo.new (.lst vs) hp zi
 refine w (.ref p) _ Z [p] ⟨m.same,m.zz,m.zn,m.zi,?_,by simp,λb hb=>?_,λb hb=>?_⟩
 . simp only[Rep]
   exact⟨p,vs,[],rfl,rfl,eT,r.same m.same m.zz⟩
 . rw[List.mem_singleton.mp hb];exact λz=>zi p z hp
 . rw[List.mem_singleton.mp hb];exact .inl hp
theorem WpE.newT(w:WpE K cn E As H Z [] Q (.ok (.tup ts)))(zi:∀a,Z a->H a≠none)(r:Reps K cn H Z ts vs [])(p:Addr)(hp:H p=none):Q (.ref p) (L2.upd H p (.tup vs)):=by
 have m:=Mo.new (.tup vs) hp zi
 refine w (.ref p) _ Z [] ⟨m.same,m.zz,m.zn,m.zi,?_,List.nodup_nil,eH,eH⟩
 simp only[Rep]
 exact⟨p,vs,rfl,SqT.of eT,r.same m.same m.zz⟩
theorem Rep.int{i:Int}{v:V}{A:List Addr}(h:Rep K cn H Z (.int i) v A):v=.int i:=by simp only[Rep]at h;exact h.1
theorem Rep.str{i:Str}{v:V}{A:List Addr}(h:Rep K cn H Z (.str i) v A):v=.str i:=by simp only[Rep]at h;exact h.1
theorem Rep.bl(h:Rep K cn H Z (.bl i) v A):v=.bl i:=by simp only[Rep]at h;exact h.1
theorem Rep.non(h:Rep K cn H Z .non v A):v=.non:=by simp only[Rep]at h;exact h.1
theorem Rep.tupS(h:Rep K cn H Z (.tup ts) v A):∃a vs,v=.ref a/\SqT K H a vs/\Reps K cn H Z ts vs A:=by simp only[Rep]at h;exact h
theorem kR(i:Int):Rep K cn H Z (.int i) (.int i) []:=by simp[Rep]
theorem rL(i:Bool):Rep K cn H Z (.bl i) (.bl i) []:=by simp[Rep]
theorem yW(i:Str):Rep K cn H Z (.str i) (.str i) []:=by simp[Rep]
noncomputable def bQ:T->T->Res T
 |.int i,.int j=>.ok (.int (i+j))
 |.str a,.str b=>gate (a.length+b.length<=sizeLine) (.ok (.str (a++b)))
 |.lst _ xs,.lst _ ys=>gate ((aP xs&&aP ys)=true/\xs.length+ys.length<=sizeLine) (.ok (.lst true (xs++ys)))
 |.tup xs,.tup ys=>gate ((aP xs&&aP ys)=true/\xs.length+ys.length<=sizeLine/\xs.isEmpty=false/\ys.isEmpty=false) (.ok (.tup (xs++ys)))
 |_,_=>.no
theorem db6:nS K cn (cp5 K) bQ:=λE As H Z t u x y A B Q zi rt ru w=>by
 unfold bQ at w
 split at w
 . next i j=>rw[rt.int,ru.int];exact .inl ⟨i,j,rfl,rfl,w.val zi (kR _)⟩
 . next a b=>
   obtain⟨h,w⟩:=w.gate
   rw[rt.str,ru.str];exact .inr (.inl ⟨a,b,rfl,rfl,h,w.val zi (yW _)⟩)
 . next o xs o' ys=>
   obtain⟨h,w⟩:=w.gate
   rw[Bool.and_eq_true]at h
   obtain⟨a,vs,C,rfl,hs,r1,_⟩:=rt.lstSq
   obtain⟨b,ws,D,rfl,hs',r2,_⟩:=ru.lstSq
   exact .inr (.inr (.inl ⟨a,b,vs,ws,rfl,rfl,hs,hs',by rw[Reps.length xs r1,Reps.length ys r2];exact h.2,λp hp=>w.newL zi (Reps.append xs (r1.bareE h.1.1) (r2.bareE h.1.2)) p hp⟩))
 . next xs ys=>
   obtain⟨h,w⟩:=w.gate
   rw[Bool.and_eq_true]at h
   obtain⟨a,vs,rfl,hs,r1⟩:=rt.tupS
   obtain⟨b,ws,rfl,hs',r2⟩:=ru.tupS
   have e1:=r1.isEmpty
   have e2:=r2.isEmpty
   refine .inr (.inr (.inr ⟨a,b,vs,ws,rfl,rfl,hs,hs',λz=>?_,by rw[Reps.length xs r1,Reps.length ys r2];exact h.2.1,λz=>?_,λ_ p hp=>w.newT zi (Reps.append xs (r1.bareE h.1.1) (r2.bareE h.1.2)) p hp⟩))
   . rw[z,h.2.2.1]at e1;cases e1
   . rw[z,h.2.2.2]at e2;cases e2
 . exact w.elim
def oA(f:Int->Int->Res T):T->T->Res T
 |.int i,.int j=>f i j
 |_,_=>.no
theorem bk5{g:Int->Int->T}{g':Int->Int->V}(hg:∀i j H Z,Rep K cn H Z (g i j) (g' i j) []):nS K cn (vH g') (oA λi j=>.ok (g i j)):=λE As H Z t u x y A B Q zi rt ru w=>by
 unfold oA at w
 split at w
 . next i j=>rw[rt.int,ru.int];exact⟨i,j,rfl,rfl,w.val zi (hg i j _ _)⟩
 . exact w.elim
theorem r_i{C:Int->Int->Prop}{g:Int->Int->T}{g':Int->Int->V}(hg:∀i j H Z,Rep K cn H Z (g i j) (g' i j) []):nS K cn (rI C g') (oA λi j=>gate (C i j) (.ok (g i j))):=λE As H Z t u x y A B Q zi rt ru w=>by
 unfold oA at w
 split at w
 . next i j=>
   obtain⟨h,w⟩:=WpE.gate w
   rw[rt.int,ru.int];exact⟨i,j,rfl,rfl,h,w.val zi (hg i j _ _)⟩
 . exact w.elim
def eA:=oA λi j=>.ok (.int (i-j))
theorem di7:nS K cn (vH λi j=>.int (i-j)) eA:=bk5 λ_ _ _ _=>kR _
def ltT:=oA λi j=>.ok (.bl (decide (i<j)))
def kW:=oA λi j=>.ok (.bl (decide (i<=j)))
def gtT:=oA λi j=>.ok (.bl (decide (j<i)))
def geT:=oA λi j=>.ok (.bl (decide (j<=i)))
theorem dc9:nS K cn (vH λi j=>.bl (decide (i<j))) ltT:=bk5 λ_ _ _ _=>rL _
theorem dx9:nS K cn (vH λi j=>.bl (decide (i<=j))) kW:=bk5 λ_ _ _ _=>rL _
theorem dr9:nS K cn (vH λi j=>.bl (decide (j<i))) gtT:=bk5 λ_ _ _ _=>rL _
noncomputable def kY:=oA λi j=>gate (jU i j) (.ok (.int (i/j)))
theorem dd1:nS K cn (rI jU λi j=>.int (i/j)) kY:=r_i λ_ _ _ _=>kR _
noncomputable def cC:=oA λi j=>gate (0<j) (.ok (.int (i%j)))
theorem dn6:nS K cn (rI (λ_ j=>0<j) λi j=>.int (i%j)) cC:=r_i (C:=λ_ j=>0<j) λ_ _ _ _=>kR _
noncomputable def wG:=oA λi j=>gate (yR i j) (.ok (.int (i^j.toNat)))
theorem do7:nS K cn (rI yR λi j=>.int (i^j.toNat)) wG:=r_i λ_ _ _ _=>kR _
def mulOk(i j:Int):Prop:=(-(2^64)<i/\i<2^64)\/(-(2^64)<j/\j<2^64)\/Builtin.Int.intBits i+Builtin.Int.intBits j<=134217728
theorem mulOk.ok(h:mulOk i j):IntMulOk i j:=by
 rcases h with h|h|h
 . exact cf7 h.1 h.2
 . exact cp6 h.1 h.2
 . exact bh4 h
noncomputable def iU:T->T->Res T
 |.int i,.int j=>gate (mulOk i j) (.ok (.int (i*j)))
 |.str z,.int k=>gate (-(2^63)<=k/\k<2^62/\z.length*k.toNat<=sizeLine) (.ok (.str (jJ z k.toNat)))
 |_,_=>.no
theorem dg6:nS K cn cs5 iU:=λE As H Z t u x y A B Q zi rt ru w=>by
 unfold iU at w
 split at w
 . next i j=>
   obtain⟨h,w⟩:=w.gate
   rw[rt.int,ru.int];exact .inl ⟨i,j,rfl,rfl,h.ok,w.val zi (kR _)⟩
 . next z k=>
   obtain⟨h,w⟩:=w.gate
   rw[rt.str,ru.int];exact .inr ⟨z,k,rfl,rfl,h.1,h.2.1,h.2.2,w.val zi (yW _)⟩
 . exact w.elim
def uC:T->Res T
 |.int i=>.ok (.int (-i))
 |_=>.no
theorem dz4:R1R K cn (rU λi=>.int (-i)) uC:=λE As H Z t x A Q zi rt w=>by
 unfold uC at w
 split at w
 . next i=>rw[rt.int];exact⟨i,rfl,w.val zi (kR _)⟩
 . exact w.elim
def tW:T->T->Res T
 |.bl a,.bl b=>.ok (.bl (a==b))
 |.non,.non=>.ok (.bl true)
 |_,.non=>.ok (.bl false)
 |_,_=>.no
theorem Rep.notNon(h:Rep K cn H Z t v A)(n:t≠ .non):v≠ .non:=by
 cases t with
 |non=>exact absurd rfl n
 |bl _=>rw[h.bl];exact λz=>nomatch z
 |int _=>rw[h.int];exact λz=>nomatch z
 |str _=>rw[h.str];exact λz=>nomatch z
 |ty _=>simp only[Rep]at h;rw[h.1];exact λz=>nomatch z
 |lst o ts=>obtain⟨a,vs,C,rfl,_⟩:=h.lstSq;exact λz=>nomatch z
 |tup ts=>obtain⟨a,vs,rfl,_⟩:=h.tupS;exact λz=>nomatch z
 |ins o c ns ts=>
  cases o with
  |true=>simp only[Rep]at h;obtain⟨a,C,dx,vs,B,rfl,_⟩:=h;exact λz=>nomatch z
  |false=>simp only[Rep]at h;obtain⟨a,C,dx,vs,rfl,_⟩:=h;exact λz=>nomatch z
theorem dw9:nS K cn de1 tW:=λE As H Z t u x y A B Q zi rt ru w=>by
 unfold tW at w
 split at w
 . next a b=>rw[rt.bl,ru.bl];exact .inr ⟨a,b,rfl,rfl,w.val zi (rL _)⟩
 . rw[rt.non,ru.non];exact .inl ⟨rfl,w.val zi (rL _)⟩
 . next h1 h2=>rw[ru.non];exact .inl ⟨rfl,by rw[decide_eq_false (rt.notNon (by rintro rfl;exact h2 rfl))];exact w.val zi (rL _)⟩
 . exact w.elim
def nW:T->T->Res T
 |.non,.non=>.ok (.bl false)
 |_,.non=>.ok (.bl true)
 |_,_=>.no
theorem cj9:nS K cn (λx y H Q=>y=.non/\Q (.bl (!decide (x=.non))) H) nW:=λE As H Z t u x y A B Q zi rt ru w=>by
 unfold nW at w
 split at w
 . rw[rt.non,ru.non];exact⟨rfl,w.val zi (rL _)⟩
 . next h2=>rw[ru.non];exact⟨rfl,by rw[decide_eq_false (rt.notNon (by rintro rfl;exact h2 rfl))];exact w.val zi (rL _)⟩
 . exact w.elim
def mC:T->T->Option Bool
 |.non,.non=>some true
 |.non,.bl _=>some false
 |.non,.int _=>some false
 |.non,.str _=>some false
 |.bl _,.non=>some false
 |.bl a,.bl b=>some (a==b)
 |.bl a,.int b=>some ((if a then 1 else 0)==b)
 |.bl _,.str _=>some false
 |.int _,.non=>some false
 |.int a,.bl b=>some (a==(if b then 1 else 0))
 |.int a,.int b=>some (a==b)
 |.int _,.str _=>some false
 |.str _,.non=>some false
 |.str _,.bl _=>some false
 |.str _,.int _=>some false
 |.str a,.str b=>some (a==b)
 |_,_=>none
mutual
def qD:Nat->T->T->Option Bool
 |n+1,.lst _ xs,.lst _ ys=>if xs.length=ys.length then(uA n xs ys).map λes=>es.all id else some false
 |n+1,.tup xs,.tup ys=>(uA n xs ys).map λes=>es.all id&&xs.length==ys.length
 |_,t,u=>mC t u
def uA:Nat->List T->List T->Option (List Bool)
 |n,x::xs,y::ys=>(qD n x y).bind λb=>(uA n xs ys).map λes=>b::es
 |_,_,_=>some []
end
theorem br7(rt:Rep K cn H Z t x A)(ru:Rep K cn H Z u y B)(h:mC t u=some b):qU x=true/\qU y=true/\b=eqV x y:=by
 unfold mC at h
 split at h
 all_goals first
  |(simp only[Rep]at rt ru;obtain⟨rfl,_⟩:=rt;obtain⟨rfl,_⟩:=ru;cases h;exact⟨rfl,rfl,rfl⟩)
  |cases h
theorem av9(rt:Rep K cn H Z t x A)(ru:Rep K cn H Z u y B)(h:mC t u=some b):EqD K H n x y b:=by
 have q:=br7 rt ru h
 cases n with
 |zero=>exact q
 |succ n=>exact .inl q
theorem ax4(ih:∀(t u:T){x y:V}{A B:List Addr}{b:Bool},Rep K cn H Z t x A->Rep K cn H Z u y B->qD n t u=some b->EqD K H n x y b):∀(ts us:List T){vs ws:List V}{A B:List Addr}{es:List Bool},Reps K cn H Z ts vs A->Reps K cn H Z us ws B->uA n ts us=some es->
 es.length=min ts.length us.length/\∀(j:Nat) x y e,vs[j]?=some x->ws[j]?=some y->es[j]?=some e->EqD K H n x y e
 |x::xs,y::ys,vs,ws,A,B,es,r1,r2,h=>by
  simp only[Reps]at r1 r2
  obtain⟨v,vs',B1,C1,rfl,rfl,a1,a2⟩:=r1
  obtain⟨w,ws',B2,C2,rfl,rfl,b1,b2⟩:=r2
  rw[uA,Option.bind_eq_some_iff]at h
  obtain⟨b,h1,h⟩:=h
  rw[Option.map_eq_some_iff]at h
  obtain⟨es',h2,rfl⟩:=h
  obtain⟨q1,q2⟩:=ax4 ih xs ys a2 b2 h2
  refine⟨by simp only[List.length_cons];omega,λj x' y' e e1 e2 e3=>?_⟩
  cases j with
  |zero=>
   simp at e1 e2 e3
   subst e1 e2 e3
   exact ih x y a1 b1 h1
  |succ j=>exact q2 j x' y' e (by simpa using e1) (by simpa using e2) (by simpa using e3)
 |[],us,vs,ws,A,B,es,r1,r2,h=>by
  have e:uA n [] us=some []:=by cases us<;>rfl
  rw[e]at h
  cases h
  exact⟨by simp,λj x y e _ _ e3=>by simp at e3⟩
 |t::ts,[],vs,ws,A,B,es,r1,r2,h=>by
  have e:uA n (t::ts) []=some []:=rfl
  rw[e]at h
  cases h
  exact⟨by simp,λj x y e _ _ e3=>by simp at e3⟩
theorem at9(n:Nat):∀(t u:T){x y:V}{A B:List Addr}{b:Bool},Rep K cn H Z t x A->Rep K cn H Z u y B->qD n t u=some b->EqD K H n x y b:=by
 induction n with
 |zero=>
  intro t u x y A B b rt ru h
  have e:qD 0 t u=mC t u:=by cases t<;>cases u<;>rfl
  rw[e]at h
  exact av9 rt ru h
 |succ n ih=>
  intro t u x y A B b rt ru h
  by_cases h1:∃o o' xs ys,t=.lst o xs/\u=.lst o' ys
  . obtain⟨o,o',xs,ys,rfl,rfl⟩:=h1
    obtain⟨a,vs,C,rfl,hs,r1,_⟩:=rt.lstSq
    obtain⟨b',ws,D,rfl,hs',r2,_⟩:=ru.lstSq
    rw[qD]at h
    have l1:=Reps.length xs r1
    have l2:=Reps.length ys r2
    split at h
    . next hl=>
      rw[Option.map_eq_some_iff]at h
      obtain⟨es,h1,rfl⟩:=h
      obtain⟨q1,q2⟩:=ax4 ih xs ys r1 r2 h1
      exact .inr (.inl ⟨a,b',vs,ws,rfl,rfl,hs.sq,hs'.sq,.inr ⟨by omega,es,by rw[q1];omega,q2,rfl⟩⟩)
    . next hl=>
      cases h
      exact .inr (.inl ⟨a,b',vs,ws,rfl,rfl,hs.sq,hs'.sq,.inl ⟨by omega,rfl⟩⟩)
  . by_cases h2:∃xs ys,t=.tup xs/\u=.tup ys
    . obtain⟨xs,ys,rfl,rfl⟩:=h2
      obtain⟨a,vs,rfl,hs,r1⟩:=rt.tupS
      obtain⟨b',ws,rfl,hs',r2⟩:=ru.tupS
      rw[qD]at h
      have l1:=Reps.length xs r1
      have l2:=Reps.length ys r2
      rw[Option.map_eq_some_iff]at h
      obtain⟨es,h1,rfl⟩:=h
      obtain⟨q1,q2⟩:=ax4 ih xs ys r1 r2 h1
      exact .inr (.inr ⟨a,b',vs,ws,rfl,rfl,hs,hs',es,by rw[q1];omega,q2,by rw[l1,l2]⟩)
    . have e:qD (n+1) t u=mC t u:=by
       cases t<;>cases u<;>first|rfl|exact absurd ⟨_,_,_,_,rfl,rfl⟩ h1|exact absurd ⟨_,_,rfl,rfl⟩ h2
      rw[e]at h
      exact av9 rt ru h
def bZ:Nat:=6
def wA:T->Bool
 |.lst _ _=>true
 |.tup _=>true
 |_=>false
def bw5:T->T->Bool
 |.bl _,.int _=>false
 |.int _,.bl _=>false
 |t,u=>!wA t&&!wA u
def eqB(t u:T):Option Bool:=if wA t=true/\wA u=true then qD bZ t u else if bw5 t u=true then mC t u else none
def dZ(t u:T):Res T:=match eqB t u with
 |some b=>.ok (.bl b)
 |none=>.no
theorem Rep.seqRef(h:Rep K cn H Z t v A)(i:wA t=true):∃a,v=.ref a:=by
 cases t with
 |lst o ts=>obtain⟨a,vs,C,rfl,_⟩:=h.lstSq;exact⟨a,rfl⟩
 |tup ts=>obtain⟨a,vs,rfl,_⟩:=h.tupS;exact⟨a,rfl⟩
 |_=>cases i
theorem bb3(rt:Rep K cn H Z t x A)(ru:Rep K cn H Z u y B)(hs:bw5 t u=true)(h:mC t u=some b):cj3 x y=true/\b=decide (x=y):=by
 unfold mC at h
 split at h
 all_goals first
  |(cases hs;done)
  |(simp only[Rep]at rt ru;obtain⟨rfl,_⟩:=rt;obtain⟨rfl,_⟩:=ru;cases h;exact⟨rfl,by first|rfl|(rw[aa5])|(rw[ah9])|(rw[ak5])|(symm;exact decide_eq_false (λz=>nomatch z))⟩)
  |(cases h;done)
theorem dn9:nS K cn (bm5 K bZ) dZ:=λE As H Z t u x y A B Q zi rt ru w=>by
 unfold dZ at w
 split at w
 . next b h=>
   unfold eqB at h
   split at h
   . next hs=>
     obtain⟨p,rfl⟩:=rt.seqRef hs.1
     obtain⟨q,rfl⟩:=ru.seqRef hs.2
     exact .inr ⟨p,q,b,rfl,rfl,at9 bZ t u rt ru h,w.val zi (rL _)⟩
   . split at h
     . next hs=>
       obtain⟨q1,rfl⟩:=bb3 rt ru hs h
       exact .inl ⟨q1,w.val zi (rL _)⟩
     . cases h
 . exact w.elim
def neT(t u:T):Res T:=if bw5 t u=true then match mC t u with
 |some b=>.ok (.bl (!b))
 |none=>.no else .no
theorem dh9:nS K cn rNe neT:=λE As H Z t u x y A B Q zi rt ru w=>by
 unfold neT at w
 split at w
 . next hs=>
   split at w
   . next b h=>
     obtain⟨q1,rfl⟩:=bb3 rt ru hs h
     exact⟨q1,w.val zi (rL _)⟩
   . exact w.elim
 . exact w.elim
def occ(j i:Str):Bool:=!(Builtin.Str.occurrences j i 0 j.length 1).isEmpty
def nQ(t:T):List T->Option (List Bool)
 |[]=>some []
 |u::us=>(qD bZ u t).bind λb=>(nQ t us).map λes=>b::es
theorem uX(rt:Rep K cn H Z t x A):∀(us:List T){ws:List V}{B:List Addr}{es:List Bool},Reps K cn H Z us ws B->nQ t us=some es->es.length=ws.length/\∀(j:Nat) y e,ws[j]?=some y->es[j]?=some e->EqD K H bZ y x e
 |[],ws,B,es,r,h=>by
  simp only[Reps]at r
  obtain⟨rfl,_⟩:=r
  cases h
  exact⟨rfl,λj y e e1=>by simp at e1⟩
 |u::us,ws,B,es,r,h=>by
  simp only[Reps]at r
  obtain⟨w,ws',B1,C1,rfl,rfl,a1,a2⟩:=r
  rw[nQ,Option.bind_eq_some_iff]at h
  obtain⟨b,h1,h⟩:=h
  rw[Option.map_eq_some_iff]at h
  obtain⟨es',h2,rfl⟩:=h
  obtain⟨q1,q2⟩:=uX rt us a2 h2
  refine⟨by simp[q1],λj y e e1 e2=>?_⟩
  cases j with
  |zero=>
   simp at e1 e2
   subst e1 e2
   exact at9 bZ u t a1 rt h1
  |succ j=>exact q2 j y e (by simpa using e1) (by simpa using e2)
def gY(neg:Bool):T->T->Res T
 |t,.lst _ us=>match nQ t us with
  |some es=>.ok (.bl (if neg=true then !es.any id else es.any id))
  |none=>.no
 |t,.tup us=>match nQ t us with
  |some es=>.ok (.bl (if neg=true then !es.any id else es.any id))
  |none=>.no
 |.str i,.str j=>.ok (.bl (if neg=true then !occ j i else occ j i))
 |_,_=>.no
theorem dm9:nS K cn (cu2 K bZ neg) (gY neg):=λE As H Z t u x y A B Q zi rt ru w=>by
 unfold gY at w
 split at w
 . next t o us=>
   split at w
   . next es h=>
     obtain⟨a,vs,C,rfl,hs,r1,_⟩:=ru.lstSq
     obtain⟨q1,q2⟩:=uX rt us r1 h
     exact .inl ⟨a,vs,rfl,.inl hs.sq,es,q1,q2,w.val zi (rL _)⟩
   . exact w.elim
 . next t us=>
   split at w
   . next es h=>
     obtain⟨a,vs,rfl,hs,r1⟩:=ru.tupS
     obtain⟨q1,q2⟩:=uX rt us r1 h
     exact .inl ⟨a,vs,rfl,.inr hs,es,q1,q2,w.val zi (rL _)⟩
   . exact w.elim
 . next i j=>rw[rt.str,ru.str];exact .inr ⟨i,j,rfl,rfl,w.val zi (rL _)⟩
 . exact w.elim
end
end TL
namespace L2
open PySem PySem.Spec PyProof.Rows
section
variable {X : Cx} (K : PySem.W.Frag)
theorem dx4(hr:Room k X.A)(hn:n<=60:=by decide)(hK:X.K=K:=by rfl):OpR X (compareOp .Eq) (bm5 K n):=by
 subst hK
 exact dq4 (by have:=hr.units;omega)
theorem rO(hr:Room k X.A)(hn:n<=60:=by decide)(hK:X.K=K:=by rfl):OpR X (compareOp .In) (cu2 K n false):=by
 subst hK
 exact dw4 (by have:=hr.units;omega)
theorem di9(hK:X.K=K:=by rfl):IxR X (rIx K):=by
 subst hK
 exact dg1
def dv3:V->Option Int->Option Int->Hp->VK->Prop:=λx lo hi H Q=>dx2 K x lo hi H Q\/db0 K x lo hi H Q\/dl1 x lo hi H Q
theorem tZ(hK:X.K=K:=by rfl):SlR X (dv3 K):=by
 subst hK
 exact SlR.or ci7 (SlR.or dx0 ds0)
theorem eJ(ha:PE X a ta)(he:∀whole,isTrue a X.env whole=(do let v<-whole;standAt a.pos;holding [v] (truthy v)))(hK:X.K=K:=by rfl):
 PT X a (λσ H Q=>ta σ H λx H'=>∃k,bh0 K x H' k/\Q k H'):=by
 subst hK
 exact cu1 ha he
theorem iW(hl:PE X l tl)(hK:X.K=K:=by rfl):PI X tg l (TL.iV K tl):=by
 subst hK
 intro pins s σ H R I h
 refine cD (hl s σ H _ I h) λv s1 ⟨x,H1,I1,r1,q1⟩=>?_
 rcases q1 with⟨a,e,q⟩|⟨z,e,q⟩
 . subst e
   cases r1
   rcases q with⟨⟨xs,hq⟩,q⟩|⟨⟨xs,hq⟩,q⟩
   . obtain⟨its,rv,p,hz⟩:=I1.list hq
     refine wpAny_pyIter_list p.isList ?_
     refine⟨s1.heap.objs.size,[s1.heap.objs.size],_,_,H1,rfl,I1.kept (t':=s1.toks) λb o e=>Heap.get?_push_of_some _ e,bw7 a _,⟨_,Heap.get?_push_size _ rfl,rfl,rfl⟩,λb hb=>?_,q⟩
     have e:b=s1.heap.objs.size:=by simpa using hb
     subst e
     exact I1.fpOk (Nat.le_refl _) (I1.hok.fresh (Nat.le_refl _))
   . obtain⟨its,rv,p,hz⟩:=I1.tuple hq
     refine wpAny_pyIter_tuple (show s1.heap.IsTuple a its.toArray from p) ?_
     refine⟨s1.heap.objs.size,[s1.heap.objs.size],_,_,H1,rfl,I1.kept (t':=s1.toks) λb o e=>Heap.get?_push_of_some _ e,bv4 a _,⟨_,Heap.get?_push_size _ rfl,rfl,rfl⟩,λb hb=>?_,q⟩
     have e:b=s1.heap.objs.size:=by simpa using hb
     subst e
     exact I1.fpOk (Nat.le_refl _) (I1.hok.fresh (Nat.le_refl _))
 . subst e
   obtain⟨t,rfl⟩:=r1
   have fp:∀b∈[s1.heap.objs.size],qH X pins H1 b:=λb hb=>by
    have e:b=s1.heap.objs.size:=by simpa using hb
    subst e
    exact I1.fpOk (Nat.le_refl _) (I1.hok.fresh (Nat.le_refl _))
   cases ha:z.cps.all (· <128)
   . exact wpAny_pyIter_wide ha ⟨s1.heap.objs.size,[s1.heap.objs.size],_,_,H1,rfl,I1.kept (t':=s1.toks) λb o e=>Heap.get?_push_of_some _ e,bt6 _ z t,⟨_,Heap.get?_push_size _ rfl,rfl,rfl⟩,fp,q⟩
   . exact wpAny_pyIter_ascii ha ⟨s1.heap.objs.size,[s1.heap.objs.size],_,_,H1,rfl,I1.kept (t':=s1.toks) λb o e=>Heap.get?_push_of_some _ e,bj4 _ z t,⟨_,Heap.get?_push_size _ rfl,rfl,rfl⟩,fp,q⟩
theorem dX(n:Nat)(hc:X.calm=true)(h:PGs X es t)
 (hn:(assignEach es X.env).length=n:=by rfl)(hst:(assignEach es X.env).findIdx? (·.1)=none:=by rfl)(hK:X.K=K:=by rfl):PG X (.Tuple es k pos) (cz1 K n t):=by
 subst hK
 exact dh2 hc h hn hst
theorem mQ{o e:Expr}{es:List Expr}{to:TE}{t:TA}{name:Str}{apos cpos:Pos}{T id:String}{r:V->List V->Hp->VK->Prop}(pa:PlainAttrs T)(slot:Slot T name id)(hty:typeOf (.builtin id)=pure (.type "method_descriptor"))(hm:MtR X id r)(ho:PE X o to)(ha:PA X (e::es) t)
 (hbase:attributeBase o name X.env (eval o X.env)=eval o X.env:=by rfl)
 (hfew:((backTo cpos (starEach (e::es) X.env)).all (λx=>!x.1)&&(backToKw cpos (keywordEach [] X.env)).all (λx=>x.1.isSome)
  &&decide ((e::es).length+([]:List Keyword).length+(if([]:List Keyword).isEmpty then 0 else 1)<30))=true:=by rfl)
 (hline:(apos.endLine==cpos.line)=true:=by rfl)(hs:starEach (e::es) X.env=(false,eval e X.env)::starEach es X.env:=by rfl)(hplain:(backTo cpos (starEach es X.env)).any (·.1)=false:=by rfl)(hK:X.K=K:=by rfl):
 PE X (.Call (.Attribute o name apos) (e::es) [] cpos) (tBM K T r to t):=by
 subst hK
 exact du5 pa slot hty hm ho ha hbase hfew hline hs hplain
theorem cF(hK:X.K=K:=by rfl):CallR X (.builtin "len") (da2 K):=by subst hK;exact co3
theorem rC(hK:X.K=K:=by rfl):CallR X (.builtin "abs") do2:=ce3
theorem tF(hK:X.K=K:=by rfl):CallR X (.builtin "divmod") bl3:=bd2
theorem mU(hc:X.calm=true:=by rfl)(hK:X.K=K:=by rfl):CallR X (.builtin "all") (dq3 K):=by subst hK;exact ca1 hc
theorem at6(hc:X.calm=true:=by rfl)(hK:X.K=K:=by rfl):CallR X (.builtin "any") (dg2 K):=by subst hK;exact cu3 hc
theorem ae6(hc:X.calm=true:=by rfl)(hK:X.K=K:=by rfl):CallR X (.builtin "max") (ce2 K):=by subst hK;exact bz6 hc
theorem oM(hc:X.calm=true:=by rfl)(hK:X.K=K:=by rfl):CallR X (.builtin "min") (cz3 K):=by subst hK;exact bo6 hc
def bb7:List V->Hp->VK->Prop:=λxs H Q=>∃p ys,xs=[.ref p]/\(SqL K H p ys\/SqT K H p ys)/\∀l,H l=none->Q (.ref l) (upd H l (.lst ys))
theorem jK(hK:X.K=K:=by rfl):CallR X (.type "list") (bb7 K):=by subst hK;exact bn0
theorem bi0(hK:X.K=K:=by rfl):MtR X "str.join" (bx4 K):=by subst hK;exact ch9
end
end L2
namespace TL
open PySem PySem.Spec PyProof.Rows L2
section
variable {Jn : iE} {K : PySem.W.Frag} {cn : Str → Option Addr} {E : XK} {As : List (List Addr)} {H : Hp} {Z : Addr → Prop} {Q : VK}
def aS:T->T->Res T
 |.lst _ ts,.int n=>match atI ts n with
  |some t=>.ok t
  |none=>.no
 |.tup ts,.int n=>match atI ts n with
  |some t=>.ok t
  |none=>.no
 |.str z,.int n=>if z.length<=sizeLine then match atI z.cps.toList n with
  |some c=>.ok (.str ⟨#[c]⟩)
  |none=>.no else .no
 |_,_=>.no
theorem Reps.atI(r:Reps K cn H Z ts vs A)(h:L2.atI ts n=some t):∃v B,L2.atI vs n=some v/\Rep K cn H Z t v B:=by
 unfold L2.atI at h⊢
 rw[Option.bind_eq_some_iff]at h
 obtain⟨j,h1,h2⟩:=h
 obtain⟨v,B,e,rv,_⟩:=Reps.get ts r h2
 exact⟨v,B,by rw[Reps.length ts r,h1];exact e,rv⟩
theorem db5(ha:RB Jn K cn E ta a)(hb:RB Jn K cn E tb b):RB Jn K cn E (tOp (rIx K) ta tb) (aE aS a b):=λAs H Z ρ σ F Q w=>by
 unfold aE at w
 refine ha As H Z ρ σ F _ ?_
 cases e:a ρ with
 |ok t=>
  rw[e]at w
  intro v H1 Z1 B p
  refine hb As H1 Z1 ρ σ (F.mo p.mo) _ ?_
  simp only[Res.bind]at w
  cases e2:b ρ with
  |ok u=>
   rw[e2]at w
   intro v2 H2 Z2 B2 p2
   have rt:=p.rep.same p2.same p2.zz
   have m:=p.mo.trans p2.mo
   have bU:∀{t:T}{v:V}{C:List Addr},WpB K cn E As H Z Q (.ok t)->Rep K cn H2 Z2 t v C->Q v H2:=λw r=>w _ H2 Z2 _ ⟨m.same,m.zz,m.zn,m.zi,r⟩
   simp only at w
   unfold aS at w
   split at w
   . next o ts n=>
     split at w
     . next t' h=>
       obtain⟨q,vs,C,rfl,hs,r,_⟩:=rt.lstSq
       obtain⟨v',D,e3,rv⟩:=r.atI h
       exact .inl ⟨q,vs,n,v',rfl,p2.rep.int,hs.sq,e3,bU w rv⟩
     . exact w.elim
   . next ts n=>
     split at w
     . next t' h=>
       obtain⟨q,vs,rfl,hs,r⟩:=rt.tupS
       obtain⟨v',D,e3,rv⟩:=r.atI h
       exact .inr (.inl ⟨q,vs,n,v',rfl,p2.rep.int,hs,e3,bU w rv⟩)
     . exact w.elim
   . next z n=>
     split at w
     . next hz=>
       split at w
       . next c h=>exact .inr (.inr ⟨z,n,c,rt.str,p2.rep.int,hz,h,bU w (yW _)⟩)
       . exact w.elim
     . exact w.elim
   . exact w.elim
  |ex x=>rw[e2]at w;exact WpX.ev w p.mo.ev
  |no=>rw[e2]at w;exact w
 |ex x=>rw[e]at w;exact w
 |no=>rw[e]at w;exact w
def fP{α:Type}(xs:List α)(lo hi:Option Int):List α:=(xs.drop (HT.sIx xs.length 0 lo)).take (HT.sIx xs.length xs.length hi-HT.sIx xs.length 0 lo)
def lZ:T->Option Int->Option Int->Res T
 |.lst _ ts,lo,hi=>if aP ts=true then .ok (.lst true (fP ts lo hi))else .no
 |.tup ts,lo,hi=>if aP ts=true/\¬(HT.sIx ts.length 0 lo=0/\HT.sIx ts.length ts.length hi=ts.length)then .ok (.tup (fP ts lo hi))else .no
 |.str z,lo,hi=>if z.length<=sizeLine then .ok (.str (Txt.slice z lo hi))else .no
 |_,_,_=>.no
theorem Reps.cut(r:Reps K cn H Z ts vs [])(lo hi:Option Int):Reps K cn H Z (fP ts lo hi) (xG vs lo hi) []:=by
 unfold fP xG
 rw[Reps.length ts r]
 exact Reps.take _ _ (Reps.drop _ _ r)
theorem dq9:RSR K cn (dv3 K) lZ:=λE As H Z t x A lo hi Q zi rt w=>by
 cases t with
 |lst o ts=>
  simp only[lZ]at w
  split at w
  . next h=>
    obtain⟨q,vs,C,rfl,hs,r,_⟩:=rt.lstSq
    exact .inl ⟨q,vs,rfl,hs.sq,λp hp=>w.newL zi ((r.bareE h).cut lo hi) p hp⟩
  . exact w.elim
 |tup ts=>
  simp only[lZ]at w
  split at w
  . next h=>
    obtain⟨q,vs,rfl,hs,r⟩:=rt.tupS
    exact .inr (.inl ⟨q,vs,rfl,hs,by rw[Reps.length ts r];exact h.2,λp hp=>w.newT zi ((r.bareE h.1).cut lo hi) p hp⟩)
  . exact w.elim
 |str z=>
  simp only[lZ]at w
  split at w
  . next h=>rw[rt.str];exact .inr (.inr ⟨z,rfl,h,w.val zi (yW _)⟩)
  . exact w.elim
 |_=>exact w.elim
def cg2(k:Option Int):T->Res T
 |.lst _ ts=>if aP ts=true/\k=some (-1)then .ok (.lst true ts.reverse)else .no
 |_=>.no
def dy8(a:Fr->Res T)(s:Fr->Res (Option Int)):Fr->Res T:=λρ=>(a ρ).bind λt=>(s ρ).bind λk=>cg2 k t
theorem Reps.one1(r:Reps K cn H Z [t] vs A):∃v,vs=[v]/\Rep K cn H Z t v A:=by
 simp only[Reps]at r
 obtain⟨v,w,B,C,rfl,rfl,r,rfl,rfl⟩:=r
 exact⟨v,rfl,by simpa using r⟩
theorem Reps.two2(r:Reps K cn H Z [t,u] vs A):∃v w B C,vs=[v,w]/\A=B++C/\Rep K cn H Z t v B/\Rep K cn H Z u w C:=by
 simp only[Reps]at r
 obtain⟨v,w,B,C,rfl,rfl,r,v2,w2,B2,C2,rfl,rfl,r2,rfl,rfl⟩:=r
 exact⟨v,v2,B,B2,rfl,by simp,r,r2⟩
def eN:List T->Res T
 |[.str z]=>if z.length<=sizeLine then .ok (.int z.length)else .no
 |[.lst _ ts]=>.ok (.int ts.length)
 |[.tup ts]=>.ok (.int ts.length)
 |_=>.no
theorem da7:uO K cn (da2 K) eN:=λE As H Z ts xs A Q zi r w=>by
 unfold eN at w
 split at w
 . next z=>
   split at w
   . next h=>obtain⟨v,rfl,rv⟩:=r.one1;rw[rv.str];exact⟨_,_,rfl,⟨h,rfl⟩,w.val zi (kR _)⟩
   . exact w.elim
 . next o ts=>
   obtain⟨v,rfl,rv⟩:=r.one1
   obtain⟨q,vs,C,rfl,hs,r',_⟩:=rv.lstSq
   exact⟨_,_,rfl,.inl ⟨vs,hs.sq,rfl⟩,by rw[Reps.length ts r'];exact w.val zi (kR _)⟩
 . next ts=>
   obtain⟨v,rfl,rv⟩:=r.one1
   obtain⟨q,vs,rfl,hs,r'⟩:=rv.tupS
   exact⟨_,_,rfl,.inr ⟨vs,hs,rfl⟩,by rw[Reps.length ts r'];exact w.val zi (kR _)⟩
 . exact w.elim
def wB:List T->Res T
 |[.int i]=>.ok (.int (if i<0 then -i else i))
 |_=>.no
theorem dz5:uO K cn do2 wB:=λE As H Z ts xs A Q zi r w=>by
 unfold wB at w
 split at w
 . next i=>rw[r.ints1];exact⟨i,rfl,w.val zi (kR _)⟩
 . exact w.elim
noncomputable def sK:List T->Res T
 |[.int i,.int j]=>gate (jU i j) (.ok (.tup [.int (i/j),.int (i%j)]))
 |_=>.no
theorem ec0(i j:Int):Reps K cn H Z [.int i,.int j] [.int i,.int j] []:=by
 simp only[Reps]
 exact⟨_,_,[],[],rfl,rfl,kR _,_,_,[],[],rfl,rfl,kR _,rfl,rfl⟩
theorem cj0:uO K cn bl3 sK:=λE As H Z ts xs A Q zi r w=>by
 unfold sK at w
 split at w
 . next i j=>
   obtain⟨h,w⟩:=w.gate
   rw[r.ints2];exact⟨i,j,rfl,h,λp hp=>w.newT zi (ec0 _ _) p hp⟩
 . exact w.elim
def as8:T->Option String
 |.int _=>some "int"
 |.bl _=>some "bool"
 |.str _=>some "str"
 |.lst _ _=>some "list"
 |.tup _=>some "tuple"
 |_=>none
def bw9(tx ty:String):Option Bool:=
 if(ty="int"\/ty="bool"\/ty="str"\/ty="list"\/ty="tuple")then some (tx=ty\/(tx="bool"/\ty="int"))else none
theorem cs8(h0:as8 t=some tx)(h:bw9 tx ty=some b):gS tx ty b:=by
 have hx:tx="int"\/tx="bool"\/tx="str"\/tx="list"\/tx="tuple":=by
  cases t<;>simp[as8]at h0<;>subst h0<;>simp
 unfold bw9 at h
 split at h
 . next hy=>
   cases h
   rcases hx with rfl|rfl|rfl|rfl|rfl<;>rcases hy with rfl|rfl|rfl|rfl|rfl<;>constructor
 . cases h
theorem ca4(r:Rep K cn H Z t v A)(h:as8 t=some tx):TyN K H v tx:=by
 cases t with
 |int i=>rw[r.int];cases h;rfl
 |bl i=>rw[r.bl];cases h;rfl
 |str i=>rw[r.str];cases h;rfl
 |lst o ts=>obtain⟨q,vs,C,rfl,hs,_⟩:=r.lstSq;cases h;exact .inl ⟨rfl,vs,hs.sq⟩
 |tup ts=>obtain⟨q,vs,rfl,hs,_⟩:=r.tupS;cases h;exact .inr ⟨rfl,vs,hs⟩
 |_=>cases h
def tI:List T->Res T
 |[t,.ty n]=>match as8 t with
  |some tx=>match bw9 tx n with
   |some b=>.ok (.bl b)
   |none=>.no
  |none=>.no
 |_=>.no
theorem dr5:uO K cn (dl9 K) tI:=λE As H Z ts xs A Q zi r w=>by
 unfold tI at w
 split at w
 . next t n=>
   split at w
   . next tx h1=>
     split at w
     . next b h2=>
       obtain⟨v,u,B,C,rfl,_,r1,r2⟩:=r.two2
       simp only[Rep]at r2
       rw[r2.1]
       exact⟨v,n,tx,b,rfl,ca4 r1 h1,cs8 h1 h2,w.val zi (rL _)⟩
     . exact w.elim
   . exact w.elim
 . exact w.elim
def zL:List T->Option (List Bool)
 |[]=>some []
 |.bl b::ts=>(zL ts).map (b:: ·)
 |_::_=>none
theorem av0:∀(ts:List T){vs:List V}{A:List Addr}{bs:List Bool},Reps K cn H Z ts vs A->zL ts=some bs->vs=bs.map V.bl
 |[],vs,A,bs,r,h=>by
  simp only[Reps]at r
  cases h
  exact r.1
 |t::ts,vs,A,bs,r,h=>by
  simp only[Reps]at r
  obtain⟨v,vs',B,C,rfl,rfl,r1,r2⟩:=r
  cases t with
  |bl b=>
   simp only[zL]at h
   rw[Option.map_eq_some_iff]at h
   obtain⟨bs',h1,rfl⟩:=h
   rw[av0 ts r2 h1,r1.bl]
   rfl
  |_=>cases h
def lP(any:Bool):List T->Res T
 |[.lst _ ts]=>match zL ts with
  |some bs=>.ok (.bl (if any=true then bs.any id else bs.all id))
  |none=>.no
 |_=>.no
theorem dd5:uO K cn (dq3 K) (lP false):=λE As H Z ts xs A Q zi r w=>by
 unfold lP at w
 split at w
 . next o ts=>
   split at w
   . next bs h=>
     obtain⟨v,rfl,rv⟩:=r.one1
     obtain⟨q,vs,C,rfl,hs,r',_⟩:=rv.lstSq
     have:=av0 ts r' h
     subst this
     exact⟨q,bs,rfl,hs.sq,w.val zi (rL _)⟩
   . exact w.elim
 . exact w.elim
theorem dq5:uO K cn (dg2 K) (lP true):=λE As H Z ts xs A Q zi r w=>by
 unfold lP at w
 split at w
 . next o ts=>
   split at w
   . next bs h=>
     obtain⟨v,rfl,rv⟩:=r.one1
     obtain⟨q,vs,C,rfl,hs,r',_⟩:=rv.lstSq
     have:=av0 ts r' h
     subst this
     exact⟨q,bs,rfl,hs.sq,w.val zi (rL _)⟩
   . exact w.elim
 . exact w.elim
def yB:List T->Option (List Int)
 |[]=>some []
 |.int b::ts=>(yB ts).map (b:: ·)
 |_::_=>none
theorem aq4:∀(ts:List T){vs:List V}{A:List Addr}{bs:List Int},Reps K cn H Z ts vs A->yB ts=some bs->vs=bs.map V.int
 |[],vs,A,bs,r,h=>by
  simp only[Reps]at r
  cases h
  exact r.1
 |t::ts,vs,A,bs,r,h=>by
  simp only[Reps]at r
  obtain⟨v,vs',B,C,rfl,rfl,r1,r2⟩:=r
  cases t with
  |int b=>
   simp only[yB]at h
   rw[Option.map_eq_some_iff]at h
   obtain⟨bs',h1,rfl⟩:=h
   rw[aq4 ts r2 h1,r1.int]
   rfl
  |_=>cases h
theorem wH:∀ns:List Int,yB (ns.map T.int)=some ns
 |[]=>rfl
 |n::ns=>by simp[yB,wH ns]
theorem ah6:∀ns:List Bool,zL (ns.map T.bl)=some ns
 |[]=>rfl
 |n::ns=>by simp[zL,ah6 ns]
def co2:List Int->Int
 |[]=>0
 |n::ns=>ns.foldl (λa b=>if b>a then b else a) n
def cz0:List Int->Int
 |[]=>0
 |n::ns=>ns.foldl (λa b=>if b<a then b else a) n
theorem ah7:∀(n:Int)(ns:List Int),(ns.foldl (λa b=>if b>a then b else a) n∈n::ns)/\∀a∈n::ns,a<=ns.foldl (λa b=>if b>a then b else a) n
 |n,[]=>by simp
 |n,m::ns=>by
  simp only[List.foldl_cons]
  have ih:=ah7 (if m>n then m else n) ns
  refine⟨?_,λa ha=>?_⟩
  . rcases List.mem_cons.mp ih.1 with h|h
    . rw[h];split<;>simp
    . exact List.mem_cons_of_mem _ (List.mem_cons_of_mem _ h)
  . have h1:=ih.2 (if m>n then m else n) List.mem_cons_self
    rcases List.mem_cons.mp ha with rfl|ha
    . split at h1<;>rename_i hc
      . simp only[hc,if_true];omega
      . simp only[hc,if_false];exact h1
    . rcases List.mem_cons.mp ha with rfl|ha
      . split at h1<;>rename_i hc
        . simp only[hc,if_true];exact h1
        . simp only[hc,if_false];omega
      . exact ih.2 a (List.mem_cons_of_mem _ ha)
theorem ax6:∀(n:Int)(ns:List Int),(ns.foldl (λa b=>if b<a then b else a) n∈n::ns)/\∀a∈n::ns,ns.foldl (λa b=>if b<a then b else a) n<=a
 |n,[]=>by simp
 |n,m::ns=>by
  simp only[List.foldl_cons]
  have ih:=ax6 (if m<n then m else n) ns
  refine⟨?_,λa ha=>?_⟩
  . rcases List.mem_cons.mp ih.1 with h|h
    . rw[h];split<;>simp
    . exact List.mem_cons_of_mem _ (List.mem_cons_of_mem _ h)
  . have h1:=ih.2 (if m<n then m else n) List.mem_cons_self
    rcases List.mem_cons.mp ha with rfl|ha
    . split at h1<;>rename_i hc
      . simp only[hc,if_true];omega
      . simp only[hc,if_false];exact h1
    . rcases List.mem_cons.mp ha with rfl|ha
      . split at h1<;>rename_i hc
        . simp only[hc,if_true];exact h1
        . simp only[hc,if_false];omega
      . exact ih.2 a (List.mem_cons_of_mem _ ha)
def aw0:List T->Res T
 |[.int i,.int j]=>.ok (.int (if j>i then j else i))
 |[.lst _ ts]=>match yB ts with
  |some (n::ns)=>.ok (.int (co2 (n::ns)))
  |_=>.no
 |_=>.no
def sR:List T->Res T
 |[.int i,.int j]=>.ok (.int (if j<i then j else i))
 |[.lst _ ts]=>match yB ts with
  |some (n::ns)=>.ok (.int (cz0 (n::ns)))
  |_=>.no
 |_=>.no
theorem dy6:uO K cn (ce2 K) aw0:=λE As H Z ts xs A Q zi r w=>by
 unfold aw0 at w
 split at w
 . next i j=>rw[r.ints2];exact .inl ⟨i,j,rfl,w.val zi (kR _)⟩
 . next o ts=>
   split at w
   . next n ns h=>
     obtain⟨v,rfl,rv⟩:=r.one1
     obtain⟨q,vs,C,rfl,hs,r',_⟩:=rv.lstSq
     have:=aq4 ts r' h
     subst this
     refine .inr ⟨q,n::ns,rfl,hs.sq,List.cons_ne_nil _ _,λM h1 h2=>?_⟩
     obtain⟨g1,g2⟩:=ah7 n ns
     have:M=co2 (n::ns):=Int.le_antisymm (g2 M h1) (h2 _ g1)
     rw[this]
     exact w.val zi (kR _)
   . exact w.elim
 . exact w.elim
theorem dm6:uO K cn (cz3 K) sR:=λE As H Z ts xs A Q zi r w=>by
 unfold sR at w
 split at w
 . next i j=>rw[r.ints2];exact .inl ⟨i,j,rfl,w.val zi (kR _)⟩
 . next o ts=>
   split at w
   . next n ns h=>
     obtain⟨v,rfl,rv⟩:=r.one1
     obtain⟨q,vs,C,rfl,hs,r',_⟩:=rv.lstSq
     have:=aq4 ts r' h
     subst this
     refine .inr ⟨q,n::ns,rfl,hs.sq,List.cons_ne_nil _ _,λM h1 h2=>?_⟩
     obtain⟨g1,g2⟩:=ax6 n ns
     have:M=cz0 (n::ns):=Int.le_antisymm (h2 _ g1) (g2 M h1)
     rw[this]
     exact w.val zi (kR _)
   . exact w.elim
 . exact w.elim
def cv9(n:Int):List Int->List Int
 |[]=>[n]
 |m::ms=>if n<=m then n::m::ms else m::cv9 n ms
def br4:List Int->List Int
 |[]=>[]
 |n::ns=>cv9 n (br4 ns)
def bu3:List T->Res T
 |[.lst _ ts]=>match yB ts with
  |some ns=>if ns.length<64 then .ok (.lst true ((br4 ns).map .int))else .no
  |none=>.no
 |_=>.no
def jW:List T->Res T
 |[.lst _ ts]=>if aP ts=true then .ok (.lst true ts)else .no
 |[.tup ts]=>if aP ts=true then .ok (.lst true ts)else .no
 |_=>.no
theorem dp3:uO K cn (bb7 K) jW:=λE As H Z ts xs A Q zi r w=>by
 unfold jW at w
 split at w
 . next o ts=>
   split at w
   . next h=>
     obtain⟨v,rfl,rv⟩:=r.one1
     obtain⟨q,vs,C,rfl,hs,r',_⟩:=rv.lstSq
     exact⟨q,vs,rfl,.inl hs.sq,λl hl=>w.newL zi (r'.bareE h) l hl⟩
   . exact w.elim
 . next ts=>
   split at w
   . next h=>
     obtain⟨v,rfl,rv⟩:=r.one1
     obtain⟨q,vs,rfl,hs,r'⟩:=rv.tupS
     exact⟨q,vs,rfl,.inr hs,λl hl=>w.newL zi (r'.bareE h) l hl⟩
   . exact w.elim
 . exact w.elim
def cd8:T->List T->Res T
 |.str z,[.str y]=>.ok (.bl (Txt.startswith z y))
 |_,_=>.no
def vX:List T->Option (List Str)
 |[]=>some []
 |.str b::ts=>(vX ts).map (b:: ·)
 |_::_=>none
theorem ai4:∀(ts:List T){vs:List V}{A:List Addr}{bs:List Str},Reps K cn H Z ts vs A->vX ts=some bs->vs=bs.map V.str
 |[],vs,A,bs,r,h=>by
  simp only[Reps]at r
  cases h
  exact r.1
 |t::ts,vs,A,bs,r,h=>by
  simp only[Reps]at r
  obtain⟨v,vs',B,C,rfl,rfl,r1,r2⟩:=r
  cases t with
  |str b=>
   simp only[vX]at h
   rw[Option.map_eq_some_iff]at h
   obtain⟨bs',h1,rfl⟩:=h
   rw[ai4 ts r2 h1,r1.str]
   rfl
  |_=>cases h
theorem xU:∀ns:List Str,vX (ns.map T.str)=some ns
 |[]=>rfl
 |n::ns=>by simp[vX,xU ns]
def pM:T->List T->Res T
 |.str z,[.lst _ ts]=>match vX ts with
  |some ys=>if(ys.map (·.length)).sum+ys.length*z.length<=16777216 then .ok (.str (Txt.join z ys))else .no
  |none=>.no
 |_,_=>.no
theorem da4:RMR K cn "str" (bx4 K) pM:=λE As H Z t ts x xs A B Q zi rt r w=>by
 unfold pM at w
 split at w
 . next z o ts=>
   split at w
   . next ys h=>
     split at w
     . next hz=>
       obtain⟨v,rfl,rv⟩:=r.one1
       obtain⟨q,vs,C,rfl,hs,r',_⟩:=rv.lstSq
       have:=ai4 ts r' h
       subst this
       rw[rt.str]
       exact⟨z,q,ys,rfl,rfl,hs.sq,hz,w.val zi (yW _)⟩
     . exact w.elim
   . exact w.elim
 . exact w.elim
end
end TL
namespace TL
open PySem PySem.Spec PyProof.Rows L2
theorem kA(a:α)(f:α->Res β):(Res.ok a).bind f=f a:=rfl
theorem ak9(P:Nat->Fr->Prop):∀(ts:List T)(k:Nat){ρ:Fr},P k ρ->(∀i t ρ,ts[i]?=some t->P (k+i) ρ->∃ρ1 ρ2,b t ρ=some ρ1/\(body ρ1=.nx ρ2\/body ρ1=.ct ρ2)/\P (k+i+1) ρ2)->∃ρ',iT b body ts ρ=.nx ρ'/\P (k+ts.length) ρ'
 |[],k,ρ,h0,_=>⟨ρ,rfl,h0⟩
 |t::ts,k,ρ,h0,hs=>by
  obtain⟨ρ1,ρ2,h1,h2,h3⟩:=hs 0 t ρ rfl h0
  obtain⟨ρ',h4,h5⟩:=ak9 (b:=b) (body:=body) P ts (k+1) h3 (λi u ρ e p=>by
   have:=hs (i+1) u ρ (by simpa using e) (by rw[show k+(i+1)=k+1+i by omega];exact p)
   rw[show k+(i+1)+1=k+1+i+1 by omega]at this
   exact this)
  refine⟨ρ',?_,by rw[List.length_cons,show k+(ts.length+1)=k+1+ts.length by omega];exact h5⟩
  rcases h2 with h2|h2<;>simp only[iT,h1,h2,h4]
theorem au2(P:Nat->Fr->Prop)(hs:∀m ρ,P m ρ->(c ρ=.ok false)\/(c ρ=.ok true/\∃ρ2 m',(body ρ=.nx ρ2\/body ρ=.ct ρ2)/\m'<m/\P m' ρ2)):∀(n m:Nat){ρ:Fr},P m ρ->m<n->∃ρ' m',pG c body n ρ=.nx ρ'/\P m' ρ'/\c ρ'=.ok false
 |0,m,ρ,_,hm=>by omega
 |n+1,m,ρ,h0,hm=>by
  rcases hs m ρ h0 with h|⟨h,ρ2,m',h2,hl,hp⟩
  . exact⟨ρ,m,by simp only[pG,h,Bool.false_eq_true,if_false],h0,h⟩
  . obtain⟨ρ',m'',h4,h5,h6⟩:=au2 P hs n m' hp (by omega)
    refine⟨ρ',m'',?_,h5,h6⟩
    rcases h2 with h2|h2<;>simp only[pG,h,h2,if_true,h4]
def Go(P:Fr->Prop):bX->Prop
 |.nx ρ=>P ρ
 |.ct ρ=>P ρ
 |_=>False
def GoB(P:Fr->Prop)(body:Fr->bX):Option Fr->Prop
 |some ρ=>Go P (body ρ)
 |none=>False
theorem dq8:Go P (.nx ρ)=P ρ:=rfl
theorem dd7:Go P (.ct ρ)=P ρ:=rfl
theorem ca0:GoB P body (some ρ)=Go P (body ρ):=rfl
theorem lJ(P:Nat->Fr->Prop)(h:iT b body ts ρ=o)(h0:P 0 ρ)(hs:∀i t ρ,ts[i]?=some t->P i ρ->GoB (P (i+1)) body (b t ρ)):∃ρ',o=.nx ρ'/\P ts.length ρ':=by
 obtain⟨ρ',h1,h2⟩:=ak9 (b:=b) (body:=body) P ts 0 h0 (λi t ρ e p=>by
  have:=hs i t ρ e (by rw[Nat.zero_add]at p;exact p)
  rw[Nat.zero_add]
  cases e1:b t ρ with
  |none=>rw[e1]at this;exact this.elim
  |some ρ1=>
   rw[e1]at this
   have g:Go (P (i+1)) (body ρ1):=this
   cases e2:body ρ1 with
   |nx ρ2=>rw[e2]at g;exact⟨ρ1,ρ2,rfl,.inl e2,g⟩
   |ct ρ2=>rw[e2]at g;exact⟨ρ1,ρ2,rfl,.inr e2,g⟩
   |_=>rw[e2]at g;exact g.elim)
 rw[Nat.zero_add]at h2
 exact⟨ρ',by rw[<-h,h1],h2⟩
def cs4(P B:Fr->Prop)(R:T->Prop):bX->Prop
 |.nx ρ=>P ρ
 |.ct ρ=>P ρ
 |.bk ρ=>B ρ
 |.rt t=>R t
 |_=>False
def dv0(P B:Fr->Prop)(R:T->Prop)(body:Fr->bX):Option Fr->Prop
 |some ρ=>cs4 P B R (body ρ)
 |none=>False
def GoW(P:Fr->Prop)(body:Fr->bX)(ρ:Fr):Res Bool->Prop
 |.ok true=>Go P (body ρ)
 |.ok false=>True
 |_=>False
theorem av6(P:Nat->Fr->Prop)(h:tE c body ρ=o)(h0:P m ρ)(hm:m<10^12)(hs:∀m ρ,P m ρ->GoW (λρ2=>∃m',m'<m/\P m' ρ2) body ρ (c ρ)):∃ρ' m',o=.nx ρ'/\P m' ρ'/\c ρ'=.ok false:=by
 obtain⟨ρ',m',h1,h2,h3⟩:=au2 (c:=c) (body:=body) P (λm ρ p=>by
  have g:=hs m ρ p
  cases e:c ρ with
  |ok k=>
   rw[e]at g
   cases k with
   |false=>exact .inl rfl
   |true=>
    have g':Go (λρ2=>∃m',m'<m/\P m' ρ2) (body ρ):=g
    refine .inr ⟨rfl,?_⟩
    cases e2:body ρ with
    |nx ρ2=>rw[e2]at g';obtain⟨m',q1,q2⟩:=g';exact⟨ρ2,m',.inl rfl,q1,q2⟩
    |ct ρ2=>rw[e2]at g';obtain⟨m',q1,q2⟩:=g';exact⟨ρ2,m',.inr rfl,q1,q2⟩
    |_=>rw[e2]at g';exact g'.elim
  |_=>rw[e]at g;exact g.elim) tX m h0 (Nat.lt_of_lt_of_le hm ce9)
 exact⟨ρ',m',by rw[<-h];exact h1,h2,h3⟩
theorem da3(i j:Int):bQ (.int i) (.int j)=.ok (.int (i+j)):=rfl
theorem de2(a b:Str):bQ (.str a) (.str b)=gate (a.length+b.length<=sizeLine) (.ok (.str (a++b))):=rfl
theorem dw3(o o':Bool)(xs ys:List T):bQ (.lst o xs) (.lst o' ys)=gate ((aP xs&&aP ys)=true/\xs.length+ys.length<=sizeLine) (.ok (.lst true (xs++ys))):=rfl
theorem du3(xs ys:List T):bQ (.tup xs) (.tup ys)=gate ((aP xs&&aP ys)=true/\xs.length+ys.length<=sizeLine/\xs.isEmpty=false/\ys.isEmpty=false) (.ok (.tup (xs++ys))):=rfl
theorem dh4(i j:Int):eA (.int i) (.int j)=.ok (.int (i-j)):=rfl
theorem da0(i j:Int):iU (.int i) (.int j)=gate (mulOk i j) (.ok (.int (i*j))):=rfl
theorem dx1(z:Str)(k:Int):iU (.str z) (.int k)=gate (-(2^63)<=k/\k<2^62/\z.length*k.toNat<=sizeLine) (.ok (.str (jJ z k.toNat))):=rfl
theorem cn8(i j:Int):kY (.int i) (.int j)=gate (jU i j) (.ok (.int (i/j))):=rfl
theorem dn0(i j:Int):cC (.int i) (.int j)=gate (0<j) (.ok (.int (i%j))):=rfl
theorem be7(i j:Int):wG (.int i) (.int j)=gate (yR i j) (.ok (.int (i^j.toNat))):=rfl
theorem dk6(i:Int):uC (.int i)=.ok (.int (-i)):=rfl
theorem da8(i j:Int):ltT (.int i) (.int j)=.ok (.bl (decide (i<j))):=rfl
theorem dc8(i j:Int):kW (.int i) (.int j)=.ok (.bl (decide (i<=j))):=rfl
theorem df6(i j:Int):gtT (.int i) (.int j)=.ok (.bl (decide (j<i))):=rfl
theorem dh6(i j:Int):geT (.int i) (.int j)=.ok (.bl (decide (j<=i))):=rfl
theorem dg5(a b:Bool):tW (.bl a) (.bl b)=.ok (.bl (a==b)):=rfl
theorem dp6:tW .non .non=.ok (.bl true):=rfl
theorem dq7(i:Int):tW (.int i) .non=.ok (.bl false):=rfl
theorem dm5(i:Str):tW (.str i) .non=.ok (.bl false):=rfl
theorem dv7(o:Bool)(i:List T):tW (.lst o i) .non=.ok (.bl false):=rfl
theorem dn5(i:List T):tW (.tup i) .non=.ok (.bl false):=rfl
theorem ci2:nW .non .non=.ok (.bl false):=rfl
theorem ce1(i:Int):nW (.int i) .non=.ok (.bl true):=rfl
theorem ca3(i:Str):nW (.str i) .non=.ok (.bl true):=rfl
theorem cn3(o:Bool)(i:List T):nW (.lst o i) .non=.ok (.bl true):=rfl
theorem cd1(i:List T):nW (.tup i) .non=.ok (.bl true):=rfl
theorem dj6(i j:Int):dZ (.int i) (.int j)=.ok (.bl (i==j)):=rfl
theorem dn8(i j:Str):dZ (.str i) (.str j)=.ok (.bl (i==j)):=rfl
theorem di8(i j:Bool):dZ (.bl i) (.bl j)=.ok (.bl (i==j)):=rfl
theorem di6(i j:Int):neT (.int i) (.int j)=.ok (.bl (!(i==j))):=rfl
theorem dt5(i j:Str):neT (.str i) (.str j)=.ok (.bl (!(i==j))):=rfl
theorem dg7(i j:Bool):neT (.bl i) (.bl j)=.ok (.bl (!(i==j))):=rfl
theorem de5(n:Bool)(i j:Str):gY n (.str i) (.str j)=.ok (.bl (if n=true then !occ j i else occ j i)):=rfl
theorem df8(o:Bool)(ts:List T)(n:Int):aS (.lst o ts) (.int n)=match atI ts n with|some t=>.ok t|none=>.no:=rfl
theorem bl5(ts:List T)(n:Int):aS (.tup ts) (.int n)=match atI ts n with|some t=>.ok t|none=>.no:=rfl
theorem df7(z:Str)(n:Int):aS (.str z) (.int n)=if z.length<=sizeLine then match atI z.cps.toList n with|some c=>.ok (.str ⟨#[c]⟩)|none=>.no else .no:=rfl
theorem dv8(o:Bool)(ts:List T)(lo hi:Option Int):lZ (.lst o ts) lo hi=if aP ts=true then .ok (.lst true (fP ts lo hi))else .no:=rfl
theorem dp4(ts:List T)(lo hi:Option Int):lZ (.tup ts) lo hi=if aP ts=true/\¬(HT.sIx ts.length 0 lo=0/\HT.sIx ts.length ts.length hi=ts.length)then .ok (.tup (fP ts lo hi))else .no:=rfl
theorem du9(z:Str)(lo hi:Option Int):lZ (.str z) lo hi=if z.length<=sizeLine then .ok (.str (Txt.slice z lo hi))else .no:=rfl
theorem du6(z:Str):eN [.str z]=if z.length<=sizeLine then .ok (.int z.length)else .no:=rfl
theorem dj7(o:Bool)(ts:List T):eN [.lst o ts]=.ok (.int ts.length):=rfl
theorem dj5(ts:List T):eN [.tup ts]=.ok (.int ts.length):=rfl
theorem dc5(i:Int):wB [.int i]=.ok (.int (if i<0 then -i else i)):=rfl
theorem bd8(i j:Int):sK [.int i,.int j]=gate (jU i j) (.ok (.tup [.int (i/j),.int (i%j)])):=rfl
theorem cz4(i:Int):tI [.int i,.ty "int"]=.ok (.bl true):=by with_unfolding_all rfl
theorem bl8(i:Int):tI [.int i,.ty "bool"]=.ok (.bl false):=by with_unfolding_all rfl
theorem cv4(i:Bool):tI [.bl i,.ty "bool"]=.ok (.bl true):=by with_unfolding_all rfl
theorem bl7(i:Bool):tI [.bl i,.ty "int"]=.ok (.bl true):=by with_unfolding_all rfl
theorem ci5(i:List T):tI [.tup i,.ty "tuple"]=.ok (.bl true):=by with_unfolding_all rfl
theorem cu4(o:Bool)(i:List T):tI [.lst o i,.ty "list"]=.ok (.bl true):=by with_unfolding_all rfl
theorem do8(i:Str):tI [.str i,.ty "str"]=.ok (.bl true):=by with_unfolding_all rfl
theorem dh0(i:Str):tI [.str i,.ty "int"]=.ok (.bl false):=by with_unfolding_all rfl
theorem ay2(a o:Bool)(bs:List Bool):lP a [.lst o (bs.map .bl)]=.ok (.bl (if a=true then bs.any id else bs.all id)):=by
 simp only[lP,ah6]
theorem dn3(i j:Int):aw0 [.int i,.int j]=.ok (.int (if j>i then j else i)):=rfl
theorem dc3(i j:Int):sR [.int i,.int j]=.ok (.int (if j<i then j else i)):=rfl
theorem dt6(o:Bool)(n:Int)(ns:List Int):aw0 [.lst o ((n::ns).map .int)]=.ok (.int (co2 (n::ns))):=by
 simp only[aw0,wH]
theorem dr7(o:Bool)(n:Int)(ns:List Int):sR [.lst o ((n::ns).map .int)]=.ok (.int (cz0 (n::ns))):=by
 simp only[sR,wH]
theorem co0(o:Bool)(ns:List Int):bu3 [.lst o (ns.map .int)]=if ns.length<64 then .ok (.lst true ((br4 ns).map .int))else .no:=by
 simp only[bu3,wH]
theorem dm2(o:Bool)(ts:List T):jW [.lst o ts]=if aP ts=true then .ok (.lst true ts)else .no:=rfl
theorem dw2(ts:List T):jW [.tup ts]=if aP ts=true then .ok (.lst true ts)else .no:=rfl
theorem bv6(z y:Str):cd8 (.str z) [.str y]=.ok (.bl (Txt.startswith z y)):=rfl
theorem bj3(z:Str)(o:Bool)(ys:List Str):pM (.str z) [.lst o (ys.map .str)]=if(ys.map (·.length)).sum+ys.length*z.length<=16777216 then .ok (.str (Txt.join z ys))else .no:=by
 simp only[pM,xU]
theorem do6(o:Bool)(ts:List T):jT (.lst o ts)=if aP ts=true then .ok ts else .no:=rfl
theorem dr8(ts:List T):jT (.tup ts)=if aP ts=true then .ok ts else .no:=rfl
theorem dw6(z:Str):jT (.str z)=.ok (z.cps.toList.map λc=>T.str ⟨#[c]⟩):=rfl
theorem dh7(ts:List T):wU (.lst false ts)=if aP ts=true then .ok ts else .no:=by simp only[wU,Bool.not_false,Bool.true_and]
theorem du7(ts:List T):wU (.tup ts)=if aP ts=true then .ok ts else .no:=rfl
theorem de7(z:Str):wU (.str z)=.ok (z.cps.toList.map λc=>T.str ⟨#[c]⟩):=rfl
theorem de8(j:Int):oS [.int j]=gate (-(2^62)<=j/\j<2^62) (.ok (hV 0 j.toNat)):=rfl
theorem dc6(i j:Int):az4 [.int i,.int j]=gate (-(2^62)<=i/\i<2^62/\-(2^62)<=j/\j<2^62) (.ok (hV i (j-i).toNat)):=rfl
theorem dl7(b:Bool):uL (.bl b)=.ok b:=rfl
theorem dr6(b:Int):uL (.int b)=.ok (b !=0):=rfl
theorem dl6:uL .non=.ok false:=rfl
theorem dv6(o:Bool)(b:List T):uL (.lst o b)=.ok (!b.isEmpty):=rfl
theorem dm8(b:Bool):toB (.bl b)=.ok b:=rfl
theorem dg8(i:Int):toI (.int i)=.ok (some i):=rfl
theorem dj8(o:Bool)(ts:List T):cg2 (some (-1)) (.lst o ts)=if aP ts=true then .ok (.lst true ts.reverse)else .no:=by
 simp only[cg2,and_true]
theorem gU:∀{l:List α},(∀a∈l,d (ρ.set k (some (g a)))=.ok (f a))->bY (aI k) cZ d ρ (l.map g)=.ok (l.map f)
 |[],_=>rfl
 |a::l,h=>by
  simp only[List.map_cons,bY,aI,cZ,kA,if_true,h a List.mem_cons_self,gU (λu hu=>h u (List.mem_cons_of_mem _ hu))]
theorem az2:∀{l:List α},(∀a∈l,c (ρ.set k (some (g a)))=.ok (p a)/\(p a=true->d (ρ.set k (some (g a)))=.ok (f a)))->bY (aI k) c d ρ (l.map g)=.ok ((l.filter p).map f)
 |[],_=>rfl
 |a::l,h=>by
  obtain⟨h1,h2⟩:=h a List.mem_cons_self
  have ih:=az2 (k:=k) (c:=c) (d:=d) (ρ:=ρ) (g:=g) (f:=f) (p:=p) (l:=l) (λu hu=>h u (List.mem_cons_of_mem _ hu))
  cases hp:p a with
  |true=>simp only[List.map_cons,bY,aI,h1,hp,h2 hp,kA,if_true,List.filter_cons,ih]
  |false=>simp only[List.map_cons,bY,aI,h1,hp,kA,Bool.false_eq_true,if_false,List.filter_cons,ih]
theorem kF{lo:Int}{n i:Nat}{t:T}(h:(hV lo n)[i]?=some t):i<n/\t=.int (lo+i):=by
 unfold hV at h
 rw[List.getElem?_map]at h
 cases q:(List.range n)[i]? with
 |none=>rw[q]at h;cases h
 |some j=>
  rw[q]at h
  obtain⟨h1,h2⟩:=List.getElem?_eq_some_iff.mp q
  simp at h1 h2
  subst h2
  cases h
  exact⟨h1,rfl⟩
theorem kI(lo:Int)(n:Nat):(hV lo n).length=n:=by simp[hV]
theorem oT{α:Type}{g:α->T}(h:∀a,cO (g a)=true):∀l:List α,aP (l.map g)=true
 |[]=>rfl
 |a::l=>by simp only[List.map_cons,aP,h a,oT h l,Bool.and_self]
theorem wM{α:Type}{g:α->T}(h:∀a,frz (g a)=g a):∀l:List α,frzs (l.map g)=l.map g
 |[]=>rfl
 |a::l=>by simp only[List.map_cons,frzs,h a,wM h l]
theorem pQ{α:Type}{g:α->T}(h:∀a,fN (g a)=true):∀l:List α,fB (l.map g)=true
 |[]=>rfl
 |a::l=>by simp only[List.map_cons,fB,h a,pQ h l,Bool.and_self]
theorem kP(l:List Int):aP (l.map T.int)=true:=oT (λ_=>rfl) l
theorem tQ(l:List Int):frzs (l.map T.int)=l.map T.int:=wM (λ_=>rfl) l
theorem nT(l:List Int):fB (l.map T.int)=true:=pQ (λ_=>rfl) l
theorem jN(l:List Str):aP (l.map T.str)=true:=oT (λ_=>rfl) l
theorem xY(l:List Str):frzs (l.map T.str)=l.map T.str:=wM (λ_=>rfl) l
theorem uH(l:List Str):fB (l.map T.str)=true:=pQ (λ_=>rfl) l
theorem vA(z:Str):z.length=z.cps.toList.length:=Array.length_toList.symm
theorem sZ(a b:Str):(a++b).cps.toList=a.cps.toList++b.cps.toList:=by
 show(a.cps++b.cps).toList=_
 simp
theorem bs5(a b:Str):(a++b).length=a.length+b.length:=by
 rw[vA,vA,vA,sZ,List.length_append]
theorem ae5(z:Str)(k:Nat):(jJ z k).length=k*z.length:=by
 show((List.replicate k z.cps.toList).flatten.toArray).size=_
 rw[List.size_toArray,by2,Array.length_toList]
 rfl
end TL
namespace TL
open PySem PySem.Spec PyProof.Rows L2
section
variable {Jn : iE} {K : PySem.W.Frag} {cn : Str → Option Addr} {E : XK}
def iH(cs:List Str)(f:Str):T->Res T
 |.ins _ c ns ts=>if cs.contains c=true then match(ns.zip ts).lookup f with
  |some t=>.ok t
  |none=>.no else .no
 |_=>.no
def kG(K:PySem.W.Frag)(cn:Str->Option Addr)(cs:List Str)(f:Str):Prop:=∀c∈cs,∀C,cn c=some C->Cls K C/\NoAttr K C f
theorem Reps.lookup:∀(ns:List Str)(ts:List T){vs:List V}{A:List Addr},Reps K cn H Z ts vs A->(ns.zip ts).lookup f=some t->∃v B,(ns.zip vs).lookup f=some v/\Rep K cn H Z t v B
 |[],ts,_,_,_,e=>by simp at e
 |n::ns,[],_,_,_,e=>by simp at e
 |n::ns,u::ts,vs,A,r,e=>by
  simp only[Reps]at r
  obtain⟨v,r',B,C,rfl,rfl,h1,h2⟩:=r
  rw[List.zip_cons_cons,List.lookup_cons]at e⊢
  cases q:f==n with
  |true=>
   rw[q]at e
   cases e
   exact⟨v,B,rfl,h1⟩
  |false=>
   rw[q]at e
   exact Reps.lookup ns ts h2 e
theorem Rep.insS(r:Rep K cn H Z (.ins o c ns ts) v B):∃a C dx vs D,v=.ref a/\cn c=some C/\H a=some (.ins C dx (ns.zip vs))/\ns.length=vs.length/\Reps K cn H Z ts vs D:=by
 cases o with
 |true=>
  simp only[Rep]at r
  obtain⟨a,C,dx,vs,D,rfl,_,hc,e,l,r⟩:=r
  exact⟨a,C,dx,vs,D,rfl,hc,e,l,r⟩
 |false=>
  simp only[Rep]at r
  obtain⟨a,C,dx,vs,rfl,_,hc,e,_,l,r⟩:=r
  exact⟨a,C,dx,vs,[],rfl,hc,e,l,r⟩
theorem dv1(hf:kG K cn cs f)(ha:RB Jn K cn E ta a):RB Jn K cn E (by9 K ta f) (eR (iH cs f) a):=λAs H Z ρ σ F Q w=>by
 unfold eR at w
 refine ha As H Z ρ σ F _ ?_
 cases e:a ρ with
 |ok t=>
  rw[e]at w
  intro v H1 Z1 B p
  simp only[Res.bind]at w
  unfold iH at w
  split at w
  . next o c ns ts=>
    split at w
    . next hc=>
      split at w
      . next t' h=>
        obtain⟨q,C,dx,vs,D,rfl,hC,eq,_,r⟩:=p.rep.insS
        obtain⟨v',B',e3,rv⟩:=Reps.lookup ns ts r h
        obtain⟨k1,k2⟩:=hf c (by simpa using hc) C hC
        exact⟨q,C,dx,_,v',rfl,eq,k1,k2,e3,w v' H1 Z1 B' ⟨p.same,p.zz,p.zn,p.zi,rv⟩⟩
      . exact w.elim
    . exact w.elim
  . exact w.elim
 |ex x=>rw[e]at w;exact w
 |no=>rw[e]at w;exact w
def gG(f:Str):List Str->Option Nat
 |[]=>none
 |n::ns=>if n=f then some 0 else(gG f ns).map (· +1)
theorem bo3:∀(ns:List Str)(vs:List V){k:Nat},ns.length=vs.length->gG f ns=some k->lH f y (ns.zip vs)=ns.zip (vs.set k y)
 |[],_,_,_,h=>by simp[gG]at h
 |n::ns,[],_,l,_=>by simp at l
 |n::ns,w::vs,k,l,h=>by
  unfold gG at h
  rw[List.zip_cons_cons,lH]
  by_cases q:n=f
  . rw[if_pos q]at h;cases h
    rw[if_pos q];rfl
  . rw[if_neg q,Option.map_eq_some_iff]at h
    obtain⟨k',h1,rfl⟩:=h
    rw[if_neg q,bo3 ns vs (by simpa using l) h1];rfl
theorem aw8:∀(ns:List Str)(vs:List V),ns.length=vs.length->gG f ns=none->lH f y (ns.zip vs)=(ns++[f]).zip (vs++[y])
 |[],[],_,_=>rfl
 |[],w::vs,l,_=>by simp at l
 |n::ns,[],l,_=>by simp at l
 |n::ns,w::vs,l,h=>by
  unfold gG at h
  rw[List.zip_cons_cons,lH]
  by_cases q:n=f
  . rw[if_pos q]at h;cases h
  . rw[if_neg q,Option.map_eq_none_iff]at h
    rw[if_neg q,aw8 ns vs (by simpa using l) h];rfl
def ef0(j:Nat)(cs:List Str)(f:Str)(d:Fr->Res (List Nat)):Fr->Res (List Nat):=λρ=>(d ρ).bind λp=>match ρ[j]? with
 |some (some t0)=>match mD p t0 with
  |some (.ins o c ns ts)=>if(o&&cs.contains c)=true then match gG f ns with
   |some k=>if k<ts.length then .ok (p++[k])else .no
   |none=>.no else .no
  |_=>.no
 |_=>.no
def rQ(j:Nat)(mv:List Nat)(cs:List Str)(f:Str)(e:Fr->Res T)(d:Fr->Res (List Nat)):Fr->bX:=λρ=>match e ρ with
 |.ok t=>match(kills mv ρ)[j]? with
  |some (some t0)=>match d (kills mv ρ)with
   |.ok p=>match mD p t0 with
    |some (.ins o c ns us)=>if(o&&cs.contains c&&decide (ns.length<1000))=true then match gG f ns with
     |some k=>if k<us.length then ag9 j p (.ins true c ns (us.set k t)) (kills mv ρ)else .no
     |none=>ag9 j p (.ins true c (ns++[f]) (us++[t])) (kills mv ρ)
     else .no
    |_=>.no
   |.ex x=>.ex x
   |.no=>.no
  |_=>.no
 |.ex x=>.ex x
 |.no=>.no
theorem dk4(hf:kG K cn cs f)(he:RE Jn K cn E mv te e)(hd:RP Jn K cn E j to d):RS Jn K cn E (ch0 K to te f) (rQ j mv cs f e d):=λAs H Z ρ σ F D w=>by
 unfold rQ at w
 refine he As H Z ρ σ F _ ?_
 cases ee:e ρ with
 |ok t=>
  rw[ee]at w
  intro y H1 Z1 C p1
  simp only at w
  have F1:=(F.mo p1.mo).kills mv
  cases e1:(kills mv ρ)[j]? with
  |none=>rw[e1]at w;exact w.elim
  |some o=>
   rw[e1]at w
   cases o with
   |none=>exact w.elim
   |some t0=>
    obtain⟨v0,e2,r0⟩:=F1.sl.get e1
    simp only at w
    have ev1:Ev As H Z (iB mv As) H1 Z1:=⟨λb o q _=>p1.same b o q,λb hb=>.inl (gO hb),p1.zz,λb h=>(p1.zn b h).imp_right .inr,λb h=>p1.same.free h⟩
    refine hd (iB mv As) H1 Z1 (kills mv ρ) σ F1 t0 v0 e1 e2 r0 _ ?_
    cases ed:d (kills mv ρ)with
    |ok p=>
     rw[ed]at w
     intro u v B H2 Z2 m2 hn pl
     simp only[hn]at w
     split at w
     . next o c ns us hq=>
       cases hq
       split at w
       . next hc=>
         rw[Bool.and_eq_true,Bool.and_eq_true]at hc
         obtain⟨⟨rfl,hc⟩,hl⟩:=hc
         have hl:=of_decide_eq_true hl
         have q:=pl.rep
         simp only[Rep]at q
         obtain⟨a,C',dx,ws,C0,rfl,rfl,hC,ea,l,rs⟩:=q
         have rt:Rep K cn H2 Z2 t y C:=p1.rep.same m2.same m2.zz
         have F2:=F1.mo m2
         have lw:=Reps.length us rs
         obtain⟨k1,k2⟩:=hf c (by simpa using hc) C' hC
         refine⟨a,C',dx,_,rfl,ea,k1,k2,by rw[List.length_zip];omega,?_⟩
         have ndB:(a::C0).Nodup:=(vE F1.nd j).sublist pl.sub
         have cA:∀x∈C0,x∈(iB mv As).getD j []:=λx hx=>pl.sub.mem (List.mem_cons_of_mem _ hx)
         have cOut:=p1.out F
         have cz:∀x∈C,¬Z2 x:=λx hx z=>by
          rcases m2.zn x z with z|z
          . exact p1.bz x hx z
          . obtain⟨o,ho,_⟩:=p1.rep.dom t x hx
            rw[ho]at z;cases z
         cases ek:gG f ns with
         |none=>
          rw[ek]at w
          rw[aw8 ns ws l ek]
          refine ay4 (As:=As) (H:=H) (Z:=Z) (E:=E) F2 e1 e2 pl rfl rfl ea rfl (u':=.ins true c (ns++[f]) (us++[t])) (C:=C0++C) (λaC aZ=>?_) ?_ ?_ ?_ (ev1.trans m2.ev) ?_ w
          . simp only[Rep]
            exact⟨a,C',dx,ws++[y],C0++C,rfl,rfl,hC,eT,by simp[l],(Reps.append us rs (Reps.one rt)).upd ea rfl aC aZ⟩
          . rw[List.nodup_append]
            exact⟨(List.nodup_cons.mp ndB).2,p1.nd,λx hx z hz e=>by subst e;exact cOut x hz (bD (cA x hx))⟩
          . intro x hx
            rcases List.mem_append.mp hx with hx|hx
            . exact F2.nz x (bD (cA x hx))
            . exact cz x hx
          . intro x hx hA
            rcases List.mem_append.mp hx with hx|hx
            . exact hx
            . exact absurd hA (cOut x hx)
          . intro x hx
            rcases List.mem_append.mp hx with hx|hx
            . exact .inl (gO (bD (cA x hx)))
            . exact p1.inA x hx
         |some k=>
          rw[ek]at w
          simp only at w
          split at w
          . next hk=>
            rw[bo3 ns ws l ek]
            obtain⟨B1,Bo,B2,rfl,rs'⟩:=Reps.put rt us rs hk
            have i1:∀x∈B1,x∈B1++Bo++B2:=λx hx=>List.mem_append_left _ (List.mem_append_left _ hx)
            have i2:∀x∈B2,x∈B1++Bo++B2:=λx hx=>List.mem_append_right _ hx
            have nd1:=(List.nodup_cons.mp ndB).2
            rw[List.append_assoc,List.nodup_append]at nd1
            obtain⟨n1,n2,n3⟩:=nd1
            rw[List.nodup_append]at n2
            refine ay4 (As:=As) (H:=H) (Z:=Z) (E:=E) F2 e1 e2 pl rfl rfl ea rfl (u':=.ins true c ns (us.set k t)) (C:=B1++C++B2) (λaC aZ=>?_) ?_ ?_ ?_ (ev1.trans m2.ev) ?_ w
            . simp only[Rep]
              exact⟨a,C',dx,ws.set k y,B1++C++B2,rfl,rfl,hC,eT,by simp[l],rs'.upd ea rfl aC aZ⟩
            . rw[List.append_assoc,List.nodup_append]
              refine⟨n1,?_,λx hx z hz e=>?_⟩
              . rw[List.nodup_append]
                exact⟨p1.nd,n2.2.1,λx hx z hz e=>by subst e;exact cOut x hx (bD (cA x (i2 x hz)))⟩
              . subst e
                rcases List.mem_append.mp hz with hz|hz
                . exact cOut x hz (bD (cA x (i1 x hx)))
                . exact n3 x hx x (List.mem_append_right _ hz) rfl
            . intro x hx
              rcases List.mem_append.mp hx with hx|hx
              . rcases List.mem_append.mp hx with hx|hx
                . exact F2.nz x (bD (cA x (i1 x hx)))
                . exact cz x hx
              . exact F2.nz x (bD (cA x (i2 x hx)))
            . intro x hx hA
              rcases List.mem_append.mp hx with hx|hx
              . rcases List.mem_append.mp hx with hx|hx
                . exact i1 x hx
                . exact absurd hA (cOut x hx)
              . exact i2 x hx
            . intro x hx
              rcases List.mem_append.mp hx with hx|hx
              . rcases List.mem_append.mp hx with hx|hx
                . exact .inl (gO (bD (cA x (i1 x hx))))
                . exact p1.inA x hx
              . exact .inl (gO (bD (cA x (i2 x hx))))
          . exact w.elim
       . exact w.elim
     . exact w.elim
    |ex x=>rw[ed]at w;exact WpX.ev w ev1
    |no=>rw[ed]at w;exact w
 |ex x=>rw[ee]at w;exact w
 |no=>rw[ee]at w;exact w
def wV(K:PySem.W.Frag)(cn:Str->Option Addr)(c:Str)(n:Nat)(G:List T->Res T):Sp:=λvs H Q E=>vs.length=n+1/\∃x C dx us ts Z,vs=.ref x::us/\cn c=some C/\H x=some (.ins C dx [])/\¬Z x/\(∀a,Z a->H a≠none)/\Reps K cn H Z ts us []/\
 match G ts with
 |.ok t=>∀H' Z' B,Ev [[x]] H Z [B] H' Z'->Rep K cn H' Z' t (.ref x) B->B.Nodup->(∀b∈B,¬Z' b)->(∀a,Z' a->H' a≠none)->Q .non H'
 |.ex e=>WpX K cn E [[x]] H Z e
 |.no=>False
theorem cc6(hc:cn c=some C)(ha:wW Jn K cn E ta a):RE Jn K cn E [] (bs4 C (wV K cn c n G) [] E' ta) (bS n G a):=λAs H Z ρ σ F Q w=>by
 unfold bS at w
 refine ha As H Z ρ σ F _ ?_
 cases e:a ρ with
 |ok ts=>
  rw[e]at w
  intro vs H1 Z1 B m r1 x dx hx hdx hne
  simp only[Res.bind]at w
  split at w
  . next hn=>
    have hs:Same H1 (L2.upd (L2.upd H1 dx (.own x)) x (.ins C dx [])):=λb u q=>by
     rw[cK (iM q hx),cK (iM q hdx)];exact q
    refine⟨by simp[Reps.length ts r1,hn],x,C,dx,vs,frzs ts,(λa=>Z1 a\/a∈B),by simp,hc,by rw[eT],λh=>?_,λa h=>?_,(Reps.frz ts r1 (λa h=>.inl h) (λa h=>.inr h)).same hs (λ_ h=>h),?_⟩
    . rcases h with h|h
      . exact m.zi x h hx
      . obtain⟨o,q,_⟩:=Reps.dom ts r1 x h
        rw[hx]at q
        cases q
    . intro q
      have q':=hs.free q
      rcases h with h|h
      . exact m.zi a h q'
      . obtain⟨o,q2,_⟩:=Reps.dom ts r1 a h
        rw[q2]at q'
        cases q'
    cases e2:G (frzs ts)with
    |ok t=>
     rw[e2]at w
     intro H2 Z2 C2 ev r2 nd bz zi2
     refine⟨rfl,?_⟩
     simp only at w
     have sm:Same H1 H2:=λb u q=>ev.keep b u (hs b u q) (by simpa using iM q hx)
     have bn:∀b∈C2,H1 b=none:=λb hb=>by
      rcases ev.own b (by simpa using hb)with q|q
      . have:b=x:=by simpa using q
        rw[this];exact hx
      . exact hs.free q
     split at w
     . next hcl=>
       rw[Bool.or_eq_true]at hcl
       by_cases hcl':fN t=true
       . refine w _ H2 Z1 C2 ⟨m.same.trans sm,m.zz,λa h=>m.zn a h,λa h q=>m.zi a h (sm.free q),Rep.any t hcl' r2,nd,λb hb z=>m.zi b z (bn b hb),λb hb=>.inl (m.same.free (bn b hb))⟩
       . have hno:=hcl.resolve_left hcl'
         have hB:=Reps.bare ts hno r1
         subst hB
         refine w _ H2 Z2 C2 ⟨m.same.trans sm,λa h=>ev.zz a (.inl (m.zz a h)),λa h=>?_,zi2,r2,nd,bz,λb hb=>.inl (m.same.free (bn b hb))⟩
         rcases ev.zn a h with(h|h)|h|h
         . exact m.zn a h
         . cases h
         . have:a=x:=by simpa using h
           rw[this];exact .inr (m.same.free hx)
         . exact .inr (m.same.free (hs.free h))
     . exact w.elim
    |ex x=>rw[e2]at w;exact w.elim
    |no=>rw[e2]at w;exact w.elim
  . exact w.elim
 |ex x=>rw[e]at w;exact w
 |no=>rw[e]at w;exact w
def jX:bX->Res T
 |.nx ρ=>match ρ[0]? with
  |some (some t)=>.ok t
  |_=>.no
 |.ex x=>.ex x
 |_=>.no
theorem cf9 {c : Str} {P : Program} {w : World} {mg : Str → Option Value} {base : Heap} {x qual : Str} {st : Stmt} {f : Addr} {fd : FuncData} {N ps : List Str} {k : Nat} {d : Fr → bX} (F : Fun K x qual st f fd) (S : bF N ps (aM st))
    (hbody : ∀ (y : Addr) (cdv : Value) (A : Around) (outer : List Env) (s : Shared) (H : Hp) (E : XK), Room k (A.deeper (envOfC qual (aM st) s.heap.objs.size f cdv)) →
      ∃ t, PSs (mS lB P w K mg base N qual (aM st) f cdv A outer s H E).nox (dS st) t ∧ RS [(0, .ref y)] K cn E t d) {n : Nat} {G : List T → Res T} (hn : ps.length = n + 1) (hG : ∀ ts, G ts = jX (d (cN N.length (.ins true c [] [] :: ts)))) : FnOk P w K mg base lB (k + 1) f fd ps (wV K cn c n G) := by
  have eG : G = fun ts => jX (d (cN N.length (.ins true c [] [] :: ts))) := funext hG
  subst eG
  refine F.ok S (fun vs H Q E h => by rw [hn]; exact h.1) fun cdv A outer s H vs Q E hr h => ?_
  obtain ⟨hl, y, C, dx, us, ts, Z, rfl, hC, hy, hZ, zi, r, w⟩ := h
  obtain ⟨t, hp, ht⟩ := hbody y cdv A outer s H E hr
  refine ⟨t, hp, ?_⟩
  have lt := Reps.length ts r
  have ry : Rep K cn H Z (.ins true c [] []) (.ref y) [y] := by
    simp only [Rep, Reps]
    exact ⟨y, C, dx, [], [], rfl, rfl, hC, hy, rfl, rfl, rfl⟩
  let m := N.length - (ts.length + 1)
  have sl : Slots K cn H Z (cN N.length (.ins true c [] [] :: ts)) (L2.kE N (.ref y :: us)) ([y] :: List.replicate (ts.length + m) []) := by
    unfold cN L2.kE
    refine ⟨some (.ref y), us.map some ++ List.replicate m none, [y], _, ?_, rfl, ⟨_, rfl, ry⟩, ?_⟩
    · simp only [List.map_cons, List.length_cons, lt, List.cons_append]; rfl
    · exact yV ts r
  have fl : ([y] :: List.replicate (ts.length + m) []).flatten = [y] := by rw [List.flatten_cons, mN]; rfl
  have F0 : Frm [(0, .ref y)] K cn H Z (cN N.length (.ins true c [] [] :: ts)) (L2.kE N (.ref y :: us)) ([y] :: List.replicate (ts.length + m) []) :=
    ⟨sl, by rw [fl]; simp, by rw [fl]; intro a ha; have : a = y := by simpa using ha
                              rw [this]; exact hZ, zi, fun p hp => by
      rw [List.mem_singleton] at hp
      subst hp
      rfl⟩
  refine ht _ H Z _ _ F0 _ ?_
  cases ed : d (cN N.length (.ins true c [] [] :: ts)) with
  | nx ρ =>
    simp only [ed, jX] at w
    intro σ' As' H' Z' F' ev
    cases e0 : ρ[0]? with
    | none => rw [e0] at w; exact w.elim
    | some o =>
      rw [e0] at w
      cases o with
      | none => exact w.elim
      | some t0 =>
        simp only at w
        obtain ⟨v, e1, r1⟩ := F'.sl.get e0
        have e2 := F'.pn (0, .ref y) (List.mem_singleton.mpr rfl)
        simp only at e2
        rw [e1] at e2
        cases e2
        refine w H' Z' (As'.getD 0 []) ⟨fun a o h q => ev.keep a o h (by rw [fl]; simpa using q), fun a ha => ?_, ev.zz, fun a h => ?_, ev.dom⟩ r1 (vE F'.nd 0) (fun b hb => F'.nz b (bD hb)) F'.zi
        · have q := ev.own a (bD (i := 0) (by simpa using ha))
          rw [fl] at q
          simpa using q
        · have q := ev.zn a h
          rw [fl] at q
          simpa using q
  | ex e =>
    simp only [ed, jX] at w
    exact WpX.ev w ⟨fun _ _ q _ => q, fun a ha => (by rw [fl] at ha; exact .inl (by simpa using ha)), fun _ h => h, fun _ h => .inl h, fun _ h => h⟩
  | rt t => simp only [ed, jX] at w
  | bk ρ => simp only [ed, jX] at w
  | rm ρ t => simp only [ed, jX] at w
  | ct ρ => simp only [ed, jX] at w
  | no => simp only [ed, jX] at w
end
end TL
namespace L2
open PySem PySem.Spec PyProof.Rows
structure iJ (P:Program) (w:World) (K:PySem.W.Frag) (mg:Str->Option Value) (base:Heap) (k:Nat) (C:Addr) (m:Str) (sp:Sp):Prop where
 ex:∃f fd ps,Cls K C/\cl2 K C m f/\FnOk P w K mg base lB k f fd ps sp/\Binds K fd ps []
structure yP (P:Program) (w:World) (K:PySem.W.Frag) (mg:Str->Option Value) (base:Heap) (k:Nat) (x:Str) (C:Addr) (sp:Sp):Prop where
 ex:∃f fd ps,Mk K C f/\FnOk P w K mg base lB k f fd ps sp/\mg x=some (.ref C)/\Binds K fd ps []
def ax9(tab:List (Addr×Sp))(m:Str)(ta:TE)(t:TA):TE:=λσ H Q=>ta σ H λx H1=>∃a C dx fs sp,x=.ref a/\H1 a=some (.ins C dx fs)/\(C,sp)∈tab/\fs.lookup m=none/\t σ H1 λvs H2=>sp (x::vs) H2 Q E0
section
variable {X : Cx}
theorem cx1(he:PE X o ta)(hT:∀q∈tab,iJ X.prog X.w X.K X.mg X.base k q.1 m q.2)(hr:Room k X.A)(ha:PA X (e::es) t)
 (hst:starEach (e::es) X.env=(false,eval e X.env)::starEach es X.env:=by rfl)(hpl:(backTo pos (starEach es X.env)).any (·.1)=false:=by rfl)
 (ht:eval (.Call (.Attribute o m apos) (e::es) [] pos) X.env=(do
  let ov<-eval o X.env
  standAt apos.atName
  let(f,first)<-holding [ov] (getMethod ov m pl)
  callWith pos f first (backTo pos (starEach (e::es) X.env)) (backToKw pos (keywordEach [] X.env))):=by rfl):
 PE X (.Call (.Attribute o m apos) (e::es) [] pos) (ax9 tab m ta t):=by
 intro pins s σ H Q I h
 refine PySem.W.methodCall_KW (pl:=pl) (cD (he s σ H _ I h) λu s1 ⟨x,H1,I1,rx,a,C,dx,fs,sp,ex,ea,hq,l,q⟩=>?_) ht
 subst ex
 obtain rfl:u=Value.ref a:=rx
 obtain⟨f,fd,ps,c,hm,F,hb⟩:=(hT _ hq).ex
 refine ar2 I1 ea c hm l ?_
 refine PySem.W.callWith_K (first:=[.ref a]) (h₀:=X.base) I.ok.mod.kin hm.kp (cD (ha pins s1 σ H1 _ I1 q) λus s2 ⟨vs,H2,I2,r,q2⟩=>⟨I2.kIn,?_⟩) hst hpl
 exact ae2 (us:=.ref a::us) (vs:=.ref a::vs) F hr hb .nil ap1 I2 (.cons rfl r) (by rw[List.append_nil];exact q2)
theorem yU(he:PE X o ta)(hT:∀q∈tab,iJ X.prog X.w X.K X.mg X.base k q.1 m q.2)(hr:Room k X.A)
 (ht:eval (.Call (.Attribute o m apos) [] [] pos) X.env=(do
  let ov<-eval o X.env
  standAt apos.atName
  let(f,first)<-holding [ov] (getMethod ov m pl)
  callWith pos f first (backTo pos (starEach [] X.env)) (backToKw pos (keywordEach [] X.env))):=by rfl):
 PE X (.Call (.Attribute o m apos) [] [] pos) (ax9 tab m ta ap0):=by
 intro pins s σ H Q I h
 refine PySem.W.methodCall_KW (pl:=pl) (cD (he s σ H _ I h) λu s1 ⟨x,H1,I1,rx,a,C,dx,fs,sp,ex,ea,hq,l,q⟩=>?_) ht
 subst ex
 obtain rfl:u=Value.ref a:=rx
 obtain⟨f,fd,ps,c,hm,F,hb⟩:=(hT _ hq).ex
 refine ar2 I1 ea c hm l ?_
 exact PySem.W.callWith_K0 (first:=[.ref a]) I1.kIn hm.kp (ae2 (us:=[.ref a]) (vs:=[.ref a]) F hr hb .nil ap1 I1 (.cons rfl .nil) q)
theorem pC(d:yP X.prog X.w X.K X.mg X.base k x C sp)(hr:Room (k+1) X.A)(ha:PA X (e::es) t)(hg:Gl X x:=by rfl)
 (hdb:(x==("__debug__":Str))=false:=by decide)(he:starEach (e::es) X.env=(false,eval e X.env)::starEach es X.env:=by rfl)(hpl:(backTo pos (starEach es X.env)).any (·.1)=false:=by rfl):
 PE X (.Call (.Name x p) (e::es) [] pos) (bs4 C sp [] E0 t):=by
 obtain⟨f,fd,ps,M,F,hm,hb⟩:=d.ex
 exact cu8 M F hr hg hm hb .nil ap1 ha hdb he hpl
end
end L2
namespace TL
open PySem PySem.Spec PyProof.Rows L2
section
variable {Jn : iE} {K : PySem.W.Frag} {cn : Str → Option Addr} {E : XK}
def sA(n:Nat)(G:List T->Res T)(ts:List T):Res T:=if ts.length=n then match G (frzs ts)with
 |.ok t=>if(fN t||aP ts)=true then .ok t else .no
 |_=>.no else .no
theorem ad9(m:Mo H Z H1 Z1)(r1:Reps K cn H1 Z1 ts vs B)(w:WpE K cn E As H Z [] Q (sA n G ts)):bK K cn n G vs H1 Q E':=by
 unfold sA at w
 split at w
 . next hn=>
   refine⟨by rw[Reps.length ts r1,hn],frzs ts,(λa=>Z1 a\/a∈B),λa h=>?_,Reps.frz ts r1 (λa h=>.inl h) (λa h=>.inr h),?_⟩
   . rcases h with h|h
     . exact m.zi a h
     . obtain⟨o,q,_⟩:=Reps.dom ts r1 a h
       rw[q]
       exact(λz=>nomatch z)
   cases e2:G (frzs ts)with
   |ok t=>
    rw[e2]at w
    intro v H2 Z2 C p
    simp only at w
    split at w
    . next hc=>
      rw[Bool.or_eq_true]at hc
      have bn:∀b∈C,H1 b=none:=λb hb=>(p.bn b hb).resolve_right (λ⟨i,hi,_⟩=>by cases hi)
      by_cases hcl:fN t=true
      . refine w v H2 Z1 C ⟨m.same.trans p.same,m.zz,λa h=>m.zn a h,λa h=>?_,Rep.any t hcl p.rep,p.nd,λb hb z=>?_,λb hb=>.inl (m.same.free (bn b hb))⟩
        . intro q
          exact m.zi a h (p.same.free q)
        . exact m.zi b z (bn b hb)
      . have hno:=hc.resolve_left hcl
        have hB:=Reps.bare ts hno r1
        subst hB
        refine w v H2 Z2 C ⟨m.same.trans p.same,λa h=>p.zz a (.inl (m.zz a h)),λa h=>?_,p.zi,p.rep,p.nd,p.bz,λb hb=>.inl (m.same.free (bn b hb))⟩
        rcases p.zn a h with(h|h)|h
        . exact m.zn a h
        . cases h
        . exact .inr (m.same.free h)
    . exact w.elim
   |ex x=>rw[e2]at w;exact w.elim
   |no=>rw[e2]at w;exact w.elim
 . exact w.elim
theorem ag0:∀(ns:List Str)(vs:List V),gG f ns=none->(ns.zip vs).lookup f=none
 |[],_,_=>by simp
 |n::ns,[],_=>by simp
 |n::ns,w::vs,h=>by
  unfold gG at h
  rw[List.zip_cons_cons,List.lookup_cons]
  by_cases q:n=f
  . rw[if_pos q]at h;cases h
  . rw[if_neg q,Option.map_eq_none_iff]at h
    rw[show(f==n)=false from by rw[beq_eq_false_iff_ne];exact λz=>q z.symm]
    exact ag0 ns vs h
def iN(n:Nat)(m:Str)(tabs:List (Str×(List T->Res T)))(o:Fr->Res T)(r:Fr->Res (List T)):Fr->Res T:=λρ=>(o ρ).bind λt=>match t with
 |.ins _ c ns _=>match gG m ns with
  |none=>match tabs.lookup c with
   |some G=>(r ρ).bind λts=>sA n G (t::ts)
   |none=>.no
  |some _=>.no
 |_=>.no
def xW(K:PySem.W.Frag)(cn:Str->Option Addr)(n:Nat)(tabs:List (Str×(List T->Res T)))(tab:List (Addr×Sp)):Prop:=∀c G C,tabs.lookup c=some G->cn c=some C->(C,bK K cn n G)∈tab
theorem cb1(hT:xW K cn n tabs tab)(ho:RB Jn K cn E to o)(ha:wW Jn K cn E ta a):RE Jn K cn E [] (ax9 tab m to ta) (iN n m tabs o a):=λAs H Z ρ σ F Q w=>by
 unfold iN at w
 refine ho As H Z ρ σ F _ ?_
 cases e:o ρ with
 |ok t=>
  rw[e]at w
  intro v H1 Z1 B p
  simp only[Res.bind]at w
  split at w
  . next ow c ns us=>
    split at w
    . next hm=>
      split at w
      . next G hG=>
        obtain⟨q,C,dx,vs,D,rfl,hC,eq,_,r⟩:=p.rep.insS
        refine⟨q,C,dx,_,bK K cn n G,rfl,eq,hT c G C hG hC,ag0 ns vs hm,ha As H1 Z1 ρ σ (F.mo p.mo) _ ?_⟩
        cases e2:a ρ with
        |ok ts=>
         rw[e2]at w
         intro ws H2 Z2 D2 m2 r2
         refine ad9 (As:=As) (E:=E) (p.mo.trans m2) (ts:=.ins ow c ns us::ts) (B:=B++D2) ?_ w
         simp only[Reps]
         exact⟨_,ws,B,D2,rfl,rfl,p.rep.same m2.same m2.zz,r2⟩
        |ex x=>rw[e2]at w;exact WpX.ev w p.mo.ev
        |no=>rw[e2]at w;exact w
      . exact w.elim
    . exact w.elim
  . exact w.elim
 |ex x=>rw[e]at w;exact w
 |no=>rw[e]at w;exact w
end
end TL
namespace L2
open PySem PySem.Spec PyProof.Rows
section
variable {X : Cx} (K : PySem.W.Frag)
end
end L2
namespace TL
open PySem PySem.Spec PyProof.Rows L2
section
variable {Jn : iE} {K : PySem.W.Frag} {cn : Str → Option Addr} {E : XK} {As : List (List Addr)} {H : Hp} {Z : Addr → Prop} {Q : VK}
def dd4:List T->Res T
 |[.lst _ ts]=>if aP ts=true then .ok (.tup ts)else .no
 |[.tup ts]=>if aP ts=true then .ok (.tup ts)else .no
 |_=>.no
end
end TL
namespace L2
open PySem PySem.Spec PyProof.Rows
section
variable {X : Cx}
def cw4:TS:=λ_ _ _=>False
theorem mE{st:Stmt}:PS X st cw4:=λ_ _ _ _ _ _ h=>h.elim
def bb0(K:PySem.W.Frag)(n:Nat):V->List V->Hp->VK->Prop:=λx vs H Q=>∃p ys y,x=.ref p/\vs=[y]/\SqL K H p ys/\∃(es:List Bool)(j:Nat),es.length=ys.length/\(∀(j:Nat) z e,ys[j]?=some z->es[j]?=some e->EqD K H n z y e)/\es[j]?=some true/\(∀m,m<j->es[m]?=some false)/\Q (.int j) H
def cg3(K:PySem.W.Frag)(n:Nat):R2:=λx y H Q=>rNe x y H Q\/(∃p q b,x=.ref p/\y=.ref q/\EqD K H n x y b/\Q (.bl (!b)) H)
theorem dq2(hu:X.A.units+n<cLine):OpR X (compareOp .NotEq) (cg3 X.K n):=by
 intro pins s σ H x y v u Q I rx ry h
 rcases h with h|⟨p,q,b,rfl,rfl,h,hq⟩
 . exact db7 s σ H x y v u Q I rx ry h
 . cases rx
   cases ry
   have bU:EP X pins σ Q (.bool (!b)) s:=⟨.bl (!b),H,I,rfl,hq⟩
   cases n with
   |zero=>exact absurd h.1 (λz=>by cases z)
   |succ n=>
    rcases h with⟨h1,_,_⟩|⟨p,q,xs,ys,e1,e2,s1,s2,h⟩|⟨p,q,xs,ys,e1,e2,s1,s2,es,hl,he,rfl⟩
    . exact absurd h1 (λz=>by cases z)
    . cases e1
      cases e2
      obtain⟨its,r1,p1,_⟩:=I.list s1
      obtain⟨jts,r2,p2,_⟩:=I.list s2
      have l1:=r1.length
      have l2:=r2.length
      rcases h with⟨hne,rfl⟩|⟨heq,es,hl,he,rfl⟩
      . exact SeqAt.RcNeAt.lists_lengths p1.isList p2.isList (by simp only[List.size_toArray,bne_iff_ne,ne_eq];omega) (by omega) _ _ _ _ bU
      . refine SeqAt.RcNeAt.lists (e:=λj=>es.getD j true) p1.isList p2.isList (by simp only[List.size_toArray];omega) (by omega) (λj h1 h2=>?_) _ _ _ _ ?_
        . simp only[List.size_toArray]at h1 h2
          simp only[List.getElem_toArray]
          obtain⟨x,ex,rx⟩:=gB r1 h1
          obtain⟨y,ey,ry⟩:=gB r2 h2
          have hj:j<es.length:=by omega
          have eg:es.getD j true=es[j]:=by rw[List.getD_eq_getElem?_getD,List.getElem?_eq_getElem hj];rfl
          rw[eg]
          exact nV I n (by show X.A.units+1+n<cLine;omega) rx ry (he j x y es[j] ex ey (List.getElem?_eq_getElem hj))
        . rw[List.size_toArray,show its.length=es.length by omega,qJ]
          exact bU
    . cases e1
      cases e2
      obtain⟨its,r1,p1,_⟩:=I.tuple s1
      obtain⟨jts,r2,p2,_⟩:=I.tuple s2
      have l1:=r1.length
      have l2:=r2.length
      refine SeqAt.RcNeAt.tuples (e:=λj=>es.getD j true) (show s.heap.IsTuple _ its.toArray from p1) (show s.heap.IsTuple _ jts.toArray from p2) (by omega) (λj h1 h2=>?_) _ _ _ _ ?_
      . simp only[List.size_toArray]at h1 h2
        simp only[List.getElem_toArray]
        obtain⟨x,ex,rx⟩:=gB r1 h1
        obtain⟨y,ey,ry⟩:=gB r2 h2
        have hj:j<es.length:=by omega
        have eg:es.getD j true=es[j]:=by rw[List.getD_eq_getElem?_getD,List.getElem?_eq_getElem hj];rfl
        rw[eg]
        exact nV I n (by show X.A.units+1+n<cLine;omega) rx ry (he j x y es[j] ex ey (List.getElem?_eq_getElem hj))
      . simp only[List.size_toArray]
        rw[show min its.length jts.length=es.length by omega,qJ,<-l1,<-l2]
        exact bU
theorem rF(K:PySem.W.Frag)(hr:Room k X.A)(hn:n<=60:=by decide)(hK:X.K=K:=by rfl):OpR X (compareOp .NotEq) (cg3 K n):=by
 subst hK
 exact dq2 (Nat.lt_of_le_of_lt (Nat.add_le_add_left (Nat.le_trans hn (by decide)) _) hr.units)
theorem cy1(hu:X.A.units+n+1<cLine):MtR X "list.index" (bb0 X.K n):=by
 intro pins s σ H x vs v us Q I rx rv h
 obtain⟨p,ys,y,rfl,rfl,hq,es,j,hl,he,hj,hno,q⟩:=h
 cases rx
 obtain⟨u,rfl,ru⟩:=rv.one
 obtain⟨its,r,pl,hz⟩:=I.list hq
 have l1:=r.length
 obtain⟨f,hf,_⟩:=ar8 I r hl he
 have at_:∀(m:Nat)(hm:m<its.length) b,es[m]?=some b->f its[m]=b:=λm hm b eb=>by
  obtain⟨z,ez,rz⟩:=gB r hm
  obtain⟨z',rz',d⟩:=hf its[m] (List.getElem_mem hm)
  cases rz.inj rz'
  exact EqD.det I n _ _ _ _ d (he m z b ez eb)
 have hjl:j<its.length:=by
  have:=(List.getElem?_eq_some_iff.mp hj).1
  omega
 obtain⟨⟨oc,od,odt,osl⟩,n0,ho,hc,hd,hdt⟩:=pl
 simp only at hc hd hdt
 subst hc hd hdt
 refine call_meets F.slot_list_index ⟨_,ho,rfl⟩ F.entry_list_index (F.args_list_index_2 _ _) (SeqAt.list_indexAt p its.toArray n0 none osl u f j (by simpa using hjl) ?_ ?_ ?_) ⟨ho,λy hy=>?_,?_⟩
 . have:j<2^62:=Nat.lt_of_lt_of_le hjl (by rw[<-l1];exact Nat.le_trans hz (by decide))
   omega
 . simpa using at_ j hjl true hj
 . intro m hm hmj
   simpa using at_ m (by simpa using hm) false (hno m hmj)
 . obtain⟨z,rz,d⟩:=hf y (by simpa using hy)
   exact nV I n (by show X.A.units+1+n<cLine;omega) rz ru d
 . exact⟨.int j,H,I.tok _,⟨_,rfl⟩,q⟩
end
end L2
namespace TL
open PySem PySem.Spec PyProof.Rows L2
section
variable {Jn : iE} {K : PySem.W.Frag} {cn : Str → Option Addr} {E : XK}
def oE:Fr->bX:=λ_=>.no
theorem cd6:RS Jn K cn E cw4 oE:=λ_ _ _ _ _ _ _ w=>w.elim
def da9(j:Nat)(mv:List Nat)(f:List T->List T->Option (List T))(d:Fr->Res (List Nat))(e:Fr->Res (List T)):Fr->bX:=λρ=>match ρ[j]? with
 |some (some t0)=>match d ρ with
  |.ok p=>match mD p t0 with
   |some (.lst true us)=>match e ρ with
    |.ok ts=>match f us ts with
     |some us'=>zH j p us' (kills mv ρ)
     |none=>.no
    |.ex x=>.ex x
    |.no=>.no
   |_=>.no
  |.ex x=>.ex x
  |.no=>.no
 |_=>.no
def dx8(us:List T):List T->Option (List T)
 |[.lst true zs]=>if us.length+zs.length<=sizeLine then some (us++zs)else none
 |_=>none
def db9(us:List T):List T->Option (List T)
 |[.int i,t]=>if 0<=i/\i.toNat<=us.length/\us.length<sizeLine then some (us.take i.toNat++t::us.drop i.toNat)else none
 |_=>none
def dj9(_:List T):List T->Option (List T)
 |[]=>some []
 |_=>none
def dj1:T->T
 |.lst o xs=>.lst o (frzs xs)
 |t=>t
def di5(d:Fr->Res T):Fr->Res T:=λρ=>(d ρ).bind λt=>.ok (dj1 t)
def oN(t u:T):Res T:=if wA t=true/\wA u=true then match qD bZ t u with
 |some b=>.ok (.bl (!b))
 |none=>.no
 else neT t u
theorem dl8:nS K cn (cg3 K bZ) oN:=λE As H Z t u x y A B Q zi rt ru w=>by
 unfold oN at w
 split at w
 . next hs=>
   obtain⟨a,rfl⟩:=rt.seqRef hs.1
   obtain⟨b,rfl⟩:=ru.seqRef hs.2
   cases e:qD bZ t u with
   |none=>rw[e]at w;exact w.elim
   |some k=>
    rw[e]at w
    exact .inr ⟨a,b,k,rfl,rfl,at9 bZ t u rt ru e,WpE.bl w zi⟩
 . exact .inl (dh9 E As H Z t u x y A B Q zi rt ru w)
def uK:List Bool->Option Nat
 |[]=>none
 |true::_=>some 0
 |false::bs=>(uK bs).map (· +1)
theorem bs3:∀(bs:List Bool){j:Nat},uK bs=some j->bs[j]?=some true/\∀m,m<j->bs[m]?=some false
 |[],_,h=>by cases h
 |true::bs,j,h=>by cases h;exact⟨rfl,λm hm=>by omega⟩
 |false::bs,j,h=>by
  simp only[uK]at h
  cases e:uK bs with
  |none=>rw[e]at h;cases h
  |some k=>
   rw[e]at h
   cases h
   obtain⟨h1,h2⟩:=bs3 bs e
   refine⟨by simpa using h1,λm hm=>?_⟩
   cases m with
   |zero=>rfl
   |succ m=>
    have hm:m+1<k+1:=hm
    simpa using h2 m (by omega)
def iC:T->List T->Res T
 |.lst _ us,[t]=>match nQ t us with
  |some es=>match uK es with
   |some j=>.ok (.int j)
   |none=>.no
  |none=>.no
 |_,_=>.no
theorem cw7:RMR K cn "list" (bb0 K bZ) iC:=λE As H Z t ts x xs A B Q zi rt r w=>by
 unfold iC at w
 split at w
 . next o us t=>
   obtain⟨a,vs,C,rfl,s,rs,_⟩:=rt.lstSq
   simp only[Reps]at r
   obtain⟨v,r',B1,C1,rfl,rfl,ra,rfl,rfl⟩:=r
   cases e:nQ t us with
   |none=>rw[e]at w;exact w.elim
   |some es=>
    rw[e]at w
    simp only at w
    cases e2:uK es with
    |none=>rw[e2]at w;exact w.elim
    |some j=>
     rw[e2]at w
     obtain⟨h1,h2⟩:=bs3 es e2
     obtain⟨g1,g2⟩:=uX ra us rs e
     exact⟨a,vs,v,rfl,rfl,s.sq,es,j,g1,g2,h1,h2,w.val zi (kR _)⟩
 . exact w.elim
end
end TL
namespace L2
open PySem PySem.Spec PyProof.Rows
inductive DRows (w:World):List DictEntry->List (Str×Value)->Prop
 |nil:DRows w [] []
 |cons {x:Str} {t:Tok} {v:Value} {es:List DictEntry} {kvs:List (Str×Value)}:DRows w es kvs->DRows w (⟨hashStr w x,.str x t,v⟩::es) ((x,v)::kvs)
structure DicK (w:World) (K:PySem.W.Frag) (a:Addr) (kvs:List (Str×Value)):Prop where
 ex:∃o es ep,K.lookup a=some o/\o.ExactDict/\o.data=.dict es ep/\DRows w es.toList kvs
 nd:(kvs.map (·.1)).Nodup
 sm:(a==sysModules)=false
theorem DRows.keys:∀{es:List DictEntry}{kvs:List (Str×Value)},DRows w es kvs->(∀e∈es,∃k,(strKind P w).is k e.key=true/\e.hash=(strKind P w).hash k)/\Pairs (strKind P w) es kvs
 |_,_,.nil=>⟨λe h=>(nomatch h),.nil⟩
 |_,_,@DRows.cons _ x t v es kvs r=>by
  obtain⟨h1,h2⟩:=DRows.keys (P:=P) r
  refine⟨λe he=>?_,.cons (strKind_is P w x t) rfl h2⟩
  rcases List.mem_cons.mp he with rfl|he
  . exact⟨x,strKind_is P w x t,rfl⟩
  . exact h1 e he
theorem DicK.dictOf{P:Program}{w:World}{K:PySem.W.Frag}{a:Addr}{kvs:List (Str×Value)}{h:Heap}(D:DicK w K a kvs)(X:K.In h):h.DictOf (strKind P w) a kvs:=by
 obtain⟨o,es,ep,l,x,d,r⟩:=D.ex
 obtain⟨h1,h2⟩:=DRows.keys (P:=P) r
 exact⟨o,es,ep,X a o l,x,d,λe he=>h1 e (by simpa using he),h2,D.nd⟩
theorem uF : ∀ (kvs : List (Str × Value)), valueAt kvs x = kvs.lookup x
  | [] => rfl
  | (y, v) :: kvs => by
    unfold valueAt
    rw [List.find?_cons, List.lookup_cons]
    by_cases e : y = x
    · subst e; simp
    · have e1 : (x == y) = false := by simpa using Ne.symm e
      have e2 : decide ((y, v).1 = x) = false := decide_eq_false e
      rw [e1, e2]
      exact uF kvs
structure wQ (w:World) (K:PySem.W.Frag) (mg:Str->Option Value) (d:Str) (kvs:List (Str×Value)):Prop where
 ex:∃a,mg d=some (.ref a)/\DicK w K a kvs
def cg5(kvs:List (Str×Value))(ty:TE):TE:=λσ H Q=>ty σ H λy H1=>∃x u v,y=.str x/\kvs.lookup x=some u/\RelV v u/\Q v H1
def dz0(neg:Bool)(kvs:List (Str×Value))(ty:TE):TE:=λσ H Q=>ty σ H λy H1=>∃x,y=.str x/\Q (.bl (if neg=true then !(kvs.lookup x).isSome else(kvs.lookup x).isSome)) H1
theorem ck5(r:RelV (.str x) u):(strKind P w).is x u=true:=by
 obtain⟨t,rfl⟩:=r
 exact strKind_is P w x t
def bc4(i:Expr):Prop:=∀ov iv,subscripted i false ov iv=operate [ov,iv] (getItem ov iv)
theorem cb6{prog:Program}{w:World}{A:Around}{E:Value->Shared->Prop}{s:Shared}{env:Env}{value slice:Expr}{pos:Pos}{T id:String}{Q:Value->Shared->Prop}
 (hl:typeLookup (.type T) "__getitem__"=pure (some (.builtin id)))(hs:bc4 slice)
 (h:wpAny (model prog w) A (eval value env) (λo s₁=>wpAny (model prog w) A (eval slice env) (λi s₂=>s₂.TypeIs o T/\wpAny (model prog w) A (getItem o i) Q E s₂) E s₁) E s):
 wpAny (model prog w) A (eval (.Subscript value slice pos) env) Q E s:=by
 refine Subscript_ (wpAny_mono h (λo s₁ h₁=>wpAny_mono h₁ (λi s₂ h₂=>?_) λ_ _ x=>x) λ_ _ x=>x)
 obtain⟨hT,h₂⟩:=h₂
 unfold subscriptTail
 refine wpAny_bind ?_
 rw[getitemInPython_of_ne hT.not_modules]
 refine wpAny_bind (wpAny_specialOf hT hl ?_)
 have bU:wpAny (model prog w) A (subscripted slice false o i) (λr s₃=>wpAny (model prog w) A (letTemporaryGo value o r>>=λ_=>pure r) Q E s₃) E s₂:=by
  rw[hs o i]
  exact wpAny_operating (wpAny_mono h₂ (λr s₃ h₃=>wpAny_bind (wpAny_letTemporaryGo (wpAny_pure h₃))) λ_ _ x=>x)
 first
  |exact wpAny_pure (wpAny_bind bU)
  |exact wpAny_bind (wpAny_pure (wpAny_bind bU))
  |exact wpAny_bind bU
section
variable {X : Cx}
theorem bx3(hD:wQ X.w X.K X.mg d kvs)(hi:PE X i ty)(hg:Gl X d)(hdb:(d==("__debug__":Str))=false)(hs:bc4 i)(I:Inv X pins σ H s)
 (h:ty σ H W)(hW:∀y H1,W y H1->∃x u,y=.str x/\kvs.lookup x=some u/\∀s1,Inv X pins σ H1 s1->R u s1):wpAny (model X.prog X.w) X.A (eval (.Subscript (.Name d p) i pos) X.env) R X.xe s:=by
 obtain⟨a,hm,D⟩:=hD.ex
 refine cb6 PySem.F.slot_dict_getitem.lookup hs (uW I hg hm ?_ hdb)
 refine cD (hi s σ H _ I h) λiv s2 ⟨y,H2,I2,ry,q⟩=>?_
 obtain⟨x,u,ey,el,q2⟩:=hW y H2 q
 subst ey
 have dd:=D.dictOf (P:=X.prog) I2.kIn
 exact⟨dd.typeIs,wpAny_getItem_of (ck5 ry) dd.mapOf (by rw[uF];exact el) (q2 _ (I2.tok _))⟩
theorem sL(hD:wQ X.w X.K X.mg d kvs)(hi:PE X i ty)(hg:Gl X d:=by rfl)(hdb:(d==("__debug__":Str))=false:=by decide)(hs:bc4 i:=by intro _ _;rfl):PE X (.Subscript (.Name d p) i pos) (cg5 kvs ty):=by
 intro pins s σ H Q I h
 refine bx3 hD hi hg hdb hs I h λy H1 ⟨x,u,v,ey,el,rv,q⟩=>⟨x,u,ey,el,λs1 I1=>⟨v,H1,I1,rv,q⟩⟩
theorem bs7{d:Str}{kvs:List (Str×Value)}{i:Expr}{ty:TE}{p:Pos}(hD:wQ X.w X.K X.mg d kvs)(hi:PE X i ty)(hg:Gl X d:=by rfl)(hdb:(d==("__debug__":Str))=false:=by decide):PC X .NotIn i (.Name d p) (dz0 true kvs ty):=by
 intro pins s σ H Q I h
 obtain⟨a,hm,D⟩:=hD.ex
 refine cD (hi s σ H _ I h) λiv s2 ⟨y,H2,I2,ry,x,ey,q⟩=>uW I2 hg hm ?_ hdb
 subst ey
 have dd:=D.dictOf (P:=X.prog) I2.kIn
 exact wpAny_notIn_of (ck5 ry) D.sm dd.mapOf ⟨.bl (!(valueAt kvs x).isSome),H2,I2.tok _,rfl,by rw[uF];exact q⟩
def bj7(tab:List (Str×Sp))(ty:TE)(ta:TA):TE:=λσ H Q=>ty σ H λy H1=>∃z sp,y=.str z/\(z,sp)∈tab/\ta σ H1 λvs H2=>sp vs H2 Q E0
structure ci1 (P:Program) (w:World) (K:PySem.W.Frag) (mg:Str->Option Value) (base:Heap) (k:Nat) (d:Str) (tab:List (Str×Sp)):Prop where
 ex:∃kvs,wQ w K mg d kvs/\∀q∈tab,∃f fd ps,kvs.lookup q.1=some (.ref f)/\FnOk P w K mg base lB k f fd ps q.2/\Binds K fd ps []/\PySem.W.keepIn K (.ref f)=true
theorem cs1(hD:ci1 X.prog X.w X.K X.mg X.base k d tab)(hr:Room k X.A)(hi:PE X i ty)(ha:PA X (e::es) t)(hg:Gl X d:=by rfl)(hdb:(d==("__debug__":Str))=false:=by decide)(hs:bc4 i:=by intro _ _;rfl)
 (hst:starEach (e::es) X.env=(false,eval e X.env)::starEach es X.env:=by rfl)(hpl:(backTo pos (starEach es X.env)).any (·.1)=false:=by rfl):PE X (.Call (.Subscript (.Name d p) i p2) (e::es) [] pos) (bj7 tab ty t):=by
 obtain⟨kvs,D,hT⟩:=hD.ex
 intro pins s σ H Q I h
 refine Call_ (bx3 D hi hg hdb hs I h λy H1 ⟨z,sp,ey,hq,q⟩=>?_)
 obtain⟨f,fd,ps,el,F,hb,hk⟩:=hT _ hq
 refine⟨z,.ref f,ey,el,λs1 I1=>?_⟩
 refine PySem.W.callWith_K (first:=[]) (h₀:=X.base) I.ok.mod.kin hk (cD (ha pins s1 σ H1 _ I1 q) λus s2 ⟨vs,H2,I2,r,q2⟩=>⟨I2.kIn,?_⟩) hst hpl
 exact ae2 (us:=us) (vs:=vs) F hr hb .nil ap1 I2 r (by rw[List.append_nil];exact q2)
def co5:List V->Hp->VK->Prop:=λxs H Q=>(∃i,xs=[.int i]/\i.natAbs.log2<1920/\Q (.str (toString i)) H)\/∃x,xs=[.str x]/\Q (.str x) H
theorem ad7:CallR X (.type "str") co5:=by
 intro pins s σ H xs us Q I r h
 rcases h with h|⟨x,rfl,q⟩
 . exact bu0 s σ H xs us Q I r h
 . obtain⟨u,rfl,t,rfl⟩:=ab2 r
   exact PySem.P.str_of_str ⟨.str _,H,I,⟨_,rfl⟩,q⟩
def cc5(K:PySem.W.Frag):List V->Hp->VK->Prop:=λxs H Q=>(∃x T tx b,xs=[x,.ty T]/\TyN K H x tx/\gS tx T b/\Q (.bl b) H)\/∃T,xs=[.non,.ty T]/\(T="int"\/T="bool"\/T="str"\/T="list"\/T="tuple")/\Q (.bl false) H
theorem mX(K:PySem.W.Frag)(hK:X.K=K:=by rfl):CallR X (.builtin "isinstance") (cc5 K):=by
 subst hK
 intro pins s σ H xs us Q I r h
 rcases h with h|⟨T,rfl,hT,q⟩
 . exact ca2 s σ H xs us Q I r h
 . obtain⟨u,v,rfl,rx,rT⟩:=r.two
   obtain rfl:v=Value.type T:=rT
   obtain rfl:u=Value.none:=rx
   have fin2:EP X pins σ Q (.bool false) {s with toks:=s.toks+1}:=⟨.bl false,H,I.tok _,rfl,q⟩
   rcases hT with rfl|rfl|rfl|rfl|rfl
   . exact IsiPair.NoneType_int fin2
   . exact IsiPair.NoneType_bool fin2
   . exact IsiPair.NoneType_str fin2
   . exact IsiPair.NoneType_list fin2
   . exact IsiPair.NoneType_tuple fin2
theorem iZ(K:PySem.W.Frag)(he:PE X e ta)(hb:attributeBase e f X.env (eval e X.env)=eval e X.env:=by rfl)(hK:X.K=K:=by rfl):PE X (.Attribute e f pos) (by9 K ta f):=by
 subst hK
 exact cr9 he hb
theorem nF(K:PySem.W.Frag)(ha:PE X o ta)(hv:PE X value tv)(hs:swapsWith value (some (.Attribute o f pos')) pos.line X.env=pure false:=by rfl)(hK:X.K=K:=by rfl):PS X (.Assign [.Attribute o f pos'] value pos) (ch0 K ta tv f):=by
 subst hK
 exact di4 ha hv hs
theorem bd3(K:PySem.W.Frag)(hm:X.mg "zip"=none)(ha:PA X [a,b] ta)(hg:Gl X "zip":=by rfl)(hs:starEach [a,b] X.env=[(false,eval a X.env),(false,eval b X.env)]:=by rfl)(hs2:starEach [b] X.env=[(false,eval b X.env)]:=by rfl)(hK:X.K=K:=by rfl):
 PI X (.Tuple es n tpos) (.Call (.Name "zip" p) [a,b] [] pos) (cc4 K ta):=by
 subst hK
 exact dn1 hg hm ha hs hs2
theorem mZ(K:PySem.W.Frag)(hr:Room k X.A)(hn:n<=60:=by decide)(hK:X.K=K:=by rfl):MtR X "list.index" (bb0 K n):=by
 subst hK
 exact cy1 (Nat.lt_of_le_of_lt (by omega) hr.units)
end
structure iF (K:PySem.W.Frag) (C:Addr) (m qual:Str) (st:Stmt):Prop where
 ex:∃f fd,cl2 K C m f/\Fun K m qual st f fd
structure sS (K:PySem.W.Frag) (mg:Str->Option Value) (x:Str) (C:Addr) (qual:Str) (st:Stmt):Prop where
 ex:∃f fd,Mk K C f/\Fun K "__init__" qual st f fd
 mg:mg x=some (.ref C)
theorem cg7{K:PySem.W.Frag}{C f:Addr}{m qual:Str}{st:Stmt}{oc:Value}{od an:Option Addr}{osl:Array (Option Value)}{kV doc pm cdv ct:Value}(a:PySem.W.findIn K (.ref C) m=some (some (.ref f)))(b:PySem.W.isFn K (.ref f)=true)
 (l:K.lookup f=some ⟨oc,od,.func (PySem.W.fnOf m qual (jZ st) (dS st) (aM st) .none kV doc pm an cdv ct),osl⟩)(c:PySem.W.codeIn K cdv qual=true)(k:PySem.W.keepIn K (.ref f)=true):iF K C m qual st:=
 ⟨f,_,⟨a,b,k⟩,ad3 l c k⟩
theorem cy7{K:PySem.W.Frag}{h:Heap}{mg:Str->Option Value}(X:K.In h)(G:h.Ns mainGlobals mg){x:Str}{C f:Addr}{qual:Str}{st:Stmt}{oc:Value}{od an:Option Addr}{osl:Array (Option Value)}{kV doc pm cdv ct:Value}(g:PySem.W.nsIn K mainGlobals x=some (some (.ref C)))
 (mk:PySem.W.makesIn K C=true)(a:PySem.W.findIn K (.ref C) "__init__"=some (some (.ref f)))(b:PySem.W.isFn K (.ref f)=true)(kc:PySem.W.keepIn K (.ref C)=true)
 (l:K.lookup f=some ⟨oc,od,.func (PySem.W.fnOf "__init__" qual (jZ st) (dS st) (aM st) .none kV doc pm an cdv ct),osl⟩)(c:PySem.W.codeIn K cdv qual=true)(k:PySem.W.keepIn K (.ref f)=true):sS K mg x C qual st:=
 ⟨⟨f,_,⟨mk,a,b,kc⟩,ad3 l c k⟩,PySem.W.mg_of X G g⟩
theorem cm9{K:PySem.W.Frag}{C:Addr}(a:PySem.W.plainGet K C Str.empty=true)(b:PySem.W.hasDictIn K C=true)(c:PySem.W.plainOver K C=true)(d:PySem.W.findIn K (.ref C) "__setattr__"=some (some (.builtin "object.__setattr__"))):Cls K C:=⟨a,b,c,d⟩
theorem al4{w:World}{K:PySem.W.Frag}{h:Heap}{mg:Str->Option Value}(X:K.In h)(G:h.Ns mainGlobals mg){d:Str}{a:Addr}{es:Array DictEntry}{ep:Nat}{kvs:List (Str×Value)}(g:PySem.W.nsIn K mainGlobals d=some (some (.ref a)))
 (l:K.lookup a=some ⟨.type "dict",none,.dict es ep,#[]⟩)(r:DRows w es.toList kvs)(nd:(kvs.map (·.1)).Nodup)(sm:(a==sysModules)=false):wQ w K mg d kvs:=
 ⟨a,PySem.W.mg_of X G g,⟨_,es,ep,l,⟨rfl,rfl,rfl⟩,rfl,r⟩,nd,sm⟩
end L2
namespace TL
open PySem PySem.Spec PyProof.Rows L2
section
variable {Jn : iE} {K : PySem.W.Frag} {cn : Str → Option Addr} {E : XK}
def GD(K:PySem.W.Frag)(cn:Str->Option Addr)(kts:List (Str×T))(kvs:List (Str×Value)):Prop:=Paired (λ(p:Str×T)(q:Str×Value)=>p.1=q.1/\∃v,RelV v q.2/\∀H Z,Rep K cn H Z p.2 v []) kts kvs
theorem GD.lookup(g:GD K cn kts kvs)(z:Str):match kts.lookup z with
 |some t=>∃u v,kvs.lookup z=some u/\RelV v u/\∀H Z,Rep K cn H Z t v []
 |none=>kvs.lookup z=none:=by
 unfold GD at g
 induction g with
 |nil=>rfl
 |@cons a b l1 l2 h _ ih=>
  obtain⟨x,t⟩:=a
  obtain⟨y,u⟩:=b
  obtain⟨rfl,v,rv,r⟩:=h
  rw[List.lookup_cons,List.lookup_cons]
  by_cases e:(z==x)=true
  . rw[e];exact⟨u,v,rfl,rv,r⟩
  . rw[Bool.not_eq_true]at e
    rw[e]
    exact ih
def vP(kts:List (Str×T)):T->Res T
 |.str z=>match kts.lookup z with
  |some t=>.ok t
  |none=>.no
 |_=>.no
def cg1(neg:Bool)(kts:List (Str×T)):T->Res T
 |.str z=>.ok (.bl (if neg=true then !(kts.lookup z).isSome else(kts.lookup z).isSome))
 |_=>.no
theorem cu7(g:GD K cn kts kvs)(ha:RB Jn K cn E ty a):RE Jn K cn E [] (cg5 kvs ty) (eR (vP kts) a):=λAs H Z ρ σ F Q w=>by
 unfold eR at w
 refine ha As H Z ρ σ F _ ?_
 cases e:a ρ with
 |ok t=>
  rw[e]at w
  intro v H1 Z1 B p
  simp only[Res.bind]at w
  cases t with
  |str z=>
   have hz:=p.rep.str
   subst hz
   have gl:=g.lookup z
   simp only[vP]at w
   cases el:kts.lookup z with
   |none=>rw[el]at w;exact w.elim
   |some t=>
    rw[el]at w gl
    obtain⟨u,v,hl,rv,r⟩:=gl
    exact⟨z,u,v,rfl,hl,rv,WpE.val (WpE.mo F w p.mo) p.zi (r _ _)⟩
  |_=>exact w.elim
 |ex x=>rw[e]at w;exact w
 |no=>rw[e]at w;exact w
theorem ch7(g:GD K cn kts kvs)(ha:RB Jn K cn E ty a):RE Jn K cn E [] (dz0 neg kvs ty) (eR (cg1 neg kts) a):=λAs H Z ρ σ F Q w=>by
 unfold eR at w
 refine ha As H Z ρ σ F _ ?_
 cases e:a ρ with
 |ok t=>
  rw[e]at w
  intro v H1 Z1 B p
  simp only[Res.bind]at w
  cases t with
  |str z=>
   have hz:=p.rep.str
   subst hz
   have gl:=g.lookup z
   have es:(kvs.lookup z).isSome=(kts.lookup z).isSome:=by
    cases el:kts.lookup z with
    |none=>rw[el]at gl;rw[show kvs.lookup z=none from gl];rfl
    |some t=>rw[el]at gl;obtain⟨u,v,hl,_⟩:=gl;rw[hl];rfl
   refine⟨z,rfl,?_⟩
   rw[es]
   exact WpE.bl (WpE.mo F w p.mo) p.zi
  |_=>exact w.elim
 |ex x=>rw[e]at w;exact w
 |no=>rw[e]at w;exact w
def ac2(n:Nat)(tabs:List (Str×(List T->Res T)))(i:Fr->Res T)(r:Fr->Res (List T)):Fr->Res T:=λρ=>(i ρ).bind λt=>match t with
 |.str z=>match tabs.lookup z with
  |some G=>(r ρ).bind λts=>sA n G ts
  |none=>.no
 |_=>.no
def cd5(K:PySem.W.Frag)(cn:Str->Option Addr)(n:Nat)(tabs:List (Str×(List T->Res T))):List (Str×Sp):=tabs.map λp=>(p.1,bK K cn n p.2)
theorem aa3 : ∀ {l : List (Str × α)}, l.lookup z = some a → (z, a) ∈ l
  | [], h => by cases h
  | (y, b) :: l, h => by
    rw [List.lookup_cons] at h
    by_cases e : (z == y) = true
    · rw [e] at h
      cases h
      have : z = y := by simpa using e
      subst this
      exact List.mem_cons_self
    · rw [Bool.not_eq_true] at e
      rw [e] at h
      exact List.mem_cons_of_mem _ (aa3 h)
theorem ck3(hi:RB Jn K cn E ty i)(ha:wW Jn K cn E ta a):RE Jn K cn E [] (bj7 (cd5 K cn n tabs) ty ta) (ac2 n tabs i a):=λAs H Z ρ σ F Q w=>by
 unfold ac2 at w
 refine hi As H Z ρ σ F _ ?_
 cases e:i ρ with
 |ok t=>
  rw[e]at w
  intro v H1 Z1 B p
  simp only[Res.bind]at w
  cases t with
  |str z=>
   have hz:=p.rep.str
   subst hz
   simp only at w
   cases el:tabs.lookup z with
   |none=>rw[el]at w;exact w.elim
   |some G=>
    rw[el]at w
    refine⟨z,bK K cn n G,rfl,List.mem_map.mpr ⟨(z,G),aa3 el,rfl⟩,?_⟩
    refine ha As H1 Z1 ρ σ (F.mo p.mo) _ ?_
    simp only at w
    cases e2:a ρ with
    |ok ts=>
     rw[e2]at w
     intro vs H2 Z2 B2 m2 r2
     exact ad9 (p.mo.trans m2) r2 w
    |ex x=>rw[e2]at w;exact WpX.ev w p.mo.ev
    |no=>rw[e2]at w;exact w.elim
  |_=>exact w.elim
 |ex x=>rw[e]at w;exact w
 |no=>rw[e]at w;exact w
noncomputable def oX:List T->Res T
 |[.int i]=>gate (i.natAbs.log2<1920) (.ok (.str (toString i)))
 |[.str x]=>.ok (.str x)
 |_=>.no
theorem dl3:uO K cn co5 oX:=λE As H Z ts xs A Q zi r w=>by
 unfold oX at w
 split at w
 . next i=>
   obtain⟨v,rfl,rv⟩:=r.one1
   have:=rv.int
   subst this
   obtain⟨h,w⟩:=w.gate
   exact .inl ⟨i,rfl,h,w.val zi (yW _)⟩
 . next x=>
   obtain⟨v,rfl,rv⟩:=r.one1
   have:=rv.str
   subst this
   exact .inr ⟨x,rfl,w.val zi (yW _)⟩
 . exact w.elim
def gR:List T->Res T
 |[.non,.ty n]=>if(n="int"\/n="bool"\/n="str"\/n="list"\/n="tuple")then .ok (.bl false)else .no
 |ts=>tI ts
theorem de0:uO K cn (cc5 K) gR:=λE As H Z ts xs A Q zi r w=>by
 unfold gR at w
 split at w
 . next n=>
   obtain⟨v,u,B,C,rfl,rfl,rv,ru⟩:=r.two2
   have:=rv.non
   subst this
   simp only[Rep]at ru
   obtain⟨rfl,rfl⟩:=ru
   split at w
   . next hn=>exact .inr ⟨n,rfl,hn,WpE.bl w zi⟩
   . exact w.elim
 . exact .inl (dr5 E As H Z _ xs A Q zi r w)
inductive TupR:List T->List Value->Prop
 |nil:TupR [] []
 |str {x:Str} {t:Tok} {ts:List T} {us:List Value}:TupR ts us->TupR (.str x::ts) (.str x t::us)
 |int {x:Int} {t:Tok} {ts:List T} {us:List Value}:TupR ts us->TupR (.int x::ts) (.int x t::us)
theorem TupR.vals(h:TupR ts us):∃vs,Vals vs us/\∀H Z,Reps K cn H Z ts vs []:=by
 induction h with
 |nil=>exact⟨[],.nil,λ_ _=>Reps.nil⟩
 |@str x t ts us _ ih=>
  obtain⟨vs,h1,h2⟩:=ih
  refine⟨.str x::vs,.cons ⟨t,rfl⟩ h1,λH Z=>?_⟩
  simp only[Reps]
  exact⟨_,_,[],[],rfl,rfl,yW x,h2 H Z⟩
 |@int x t ts us _ ih=>
  obtain⟨vs,h1,h2⟩:=ih
  refine⟨.int x::vs,.cons ⟨t,rfl⟩ h1,λH Z=>?_⟩
  simp only[Reps]
  exact⟨_,_,[],[],rfl,rfl,kR x,h2 H Z⟩
theorem lC(l:K.lookup a=some ⟨.type "tuple",oc,.seq us.toArray n,sl⟩)(r:TupR ts us)(hz:us.length<=sizeLine):
 (x,T.tup ts).1=(x,Value.ref a).1/\∃v,RelV v (x,Value.ref a).2/\∀H Z,Rep K cn H Z (x,T.tup ts).2 v []:=by
 obtain⟨vs,h1,h2⟩:=r.vals (K:=K) (cn:=cn)
 refine⟨rfl,.ref a,rfl,λH Z=>?_⟩
 simp only[Rep]
 exact⟨a,vs,rfl,.inr ⟨_,us.toArray,n,l,rfl,rfl,by simpa using hz,by simpa using h1⟩,h2 H Z⟩
theorem cJ{P:Program}{w:World}{mg:Str->Option Value}{base:Heap}{C:Addr}{m qual:Str}{st:Stmt}{N ps:List Str}{k:Nat}{d:Fr->bX}(F:iF K C m qual st)(c:Cls K C)(S:bF N ps (aM st))
 (hb:∀(kV doc pm:Value)(an:Option Addr)(cdv ct:Value)(us:List Value),us.length=ps.length->bindArgs (PySem.W.fnOf m qual (jZ st) (dS st) (aM st) .none kV doc pm an cdv ct) ⟨us,[]⟩=pure (ps.zip us))
 (hbody:∀(f:Addr)(cdv:Value)(A:Around)(outer:List Env)(s:Shared)(H:Hp)(E:XK),Room k (A.deeper (envOfC qual (aM st) s.heap.objs.size f cdv))->
  ∃t,PSs (mS lB P w K mg base N qual (aM st) f cdv A outer s H E).nox (dS st) t/\RS [] K cn E t d){n:Nat}{G:List T->Res T}(hn:ps.length=n)(hG:∀ts,G ts=bU (d (cN N.length ts))){k':Nat}(hk:k+1<=k'):iJ P w K mg base k' C m (bK K cn n G):=by
 obtain⟨f,fd,M,F⟩:=F.ex
 exact⟨f,fd,ps,c,M,(as4 F S (λcdv A outer s H E hr=>hbody f cdv A outer s H E hr) hn hG).mono hk,F.binds hb⟩
theorem kH{P:Program}{w:World}{mg:Str->Option Value}{base:Heap}{x c:Str}{C:Addr}{qual:Str}{st:Stmt}{N ps:List Str}{k:Nat}{d:Fr->bX}(F:sS K mg x C qual st)(S:bF N ps (aM st))
 (hb:∀(kV doc pm:Value)(an:Option Addr)(cdv ct:Value)(us:List Value),us.length=ps.length->bindArgs (PySem.W.fnOf "__init__" qual (jZ st) (dS st) (aM st) .none kV doc pm an cdv ct) ⟨us,[]⟩=pure (ps.zip us))
 (hbody:∀(f y:Addr)(cdv:Value)(A:Around)(outer:List Env)(s:Shared)(H:Hp)(E:XK),Room k (A.deeper (envOfC qual (aM st) s.heap.objs.size f cdv))->
  ∃t,PSs (mS lB P w K mg base N qual (aM st) f cdv A outer s H E).nox (dS st) t/\RS [(0,.ref y)] K cn E t d){n:Nat}{G:List T->Res T}(hn:ps.length=n+1)(hG:∀ts,G ts=jX (d (cN N.length (.ins true c [] []::ts)))):yP P w K mg base (k+1) x C (wV K cn c n G):=by
 obtain⟨f,fd,M,F'⟩:=F.ex
 exact⟨f,fd,ps,M,cf9 F' S (λy cdv A outer s H E hr=>hbody f y cdv A outer s H E hr) hn hG,F.mg,F'.binds hb⟩
end
end TL
namespace L2
open PySem PySem.Spec PyProof.Rows
theorem cx0:bootBuiltins "set"=some (.type "set"):=by decide+kernel
def ab3(ss:List Str):Nat:=(lS (λi=>ss.getD i Str.empty) ss.length).length
def ba3(K:PySem.W.Frag):List V->Hp->VK->Prop:=λxs H Q=>∃p ss,xs=[.ref p]/\SqL K H p (ss.map V.str)/\ss.length<=1000/\Q (.int (ab3 ss)) H
section
variable {X : Cx}
theorem bw8(K:PySem.W.Frag)(hm:X.mg "len"=none)(hm2:X.mg "set"=none)(ha:PA X [e] t)(hc:X.calm=true:=by rfl)(hg:Gl X "len":=by rfl)(hg2:Gl X "set":=by rfl)(he:starEach [e] X.env=[(false,eval e X.env)]:=by rfl)(hK:X.K=K:=by rfl):
 PE X (.Call (.Name "len" p) [.Call (.Name "set" p2) [e] [] pos2] [] pos) (tCB (ba3 K) t):=by
 subst hK
 intro pins s σ H Q I h
 refine wpAny_Call_Name_kw (rH I hg hm boot_len ?_)
 refine PyProof.Rows.callWith_builtin1 (PyProof.Rows.args_cons ?_) rfl rfl
 refine wpAny_Call_Name_kw (rH I hg2 hm2 cx0 ?_)
 refine PyProof.Rows.callWith_type1 (cD (ha pins s σ H _ I h) λus s1 ⟨vs,H1,I1,r1,q1⟩=>?_) he rfl
 obtain⟨l,ss,rfl,hq,hl,q⟩:=q1
 cases r1 with
 |cons r rr=>
  cases rr
  cases r
  obtain⟨its,rv,pl,_⟩:=I1.list hq
  have e1:its.length=ss.length:=by have:=rv.length;simpa using this.symm
  refine aj7 (val:=λi=>ss.getD i Str.empty) (I.ok.hd hc) pl.isList (λi v hv=>?_) (by rw[List.size_toArray,e1];unfold scanBound;omega) λh' tk hS kk=>PyProof.Rows.args_nil ?_
  . have hi:i<its.length:=by
     have:=(Array.getElem?_eq_some_iff.mp hv).1
     simpa using this
    obtain⟨x,ex,rx⟩:=gB rv hi
    have ev:v=its[i]:=by
     have:=(Array.getElem?_eq_some_iff.mp hv).2
     simpa using this.symm
    rw[List.getElem?_map]at ex
    cases eg:ss[i]? with
    |none=>rw[eg]at ex;cases ex
    |some z=>
     rw[eg]at ex
     cases ex
     obtain⟨t,et⟩:=rx
     refine⟨t,?_⟩
     rw[ev,et,List.getD_eq_getElem?_getD,eg]
     rfl
  . have I2:Inv X pins σ H1 {s1 with heap:=h',toks:=tk}:=I1.kept λb u eb=>kk b u (Heap.lt_size eb) eb
    obtain⟨o,es,ep,tb,ho,hx,hd,_,_,hs,hf,hn⟩:=hS
    refine call_len_set ho hx hd hf (by have:es.size<4096:=hs;omega) ?_
    refine⟨.int (ab3 ss),H1,I2.tok _,⟨tk+1,?_⟩,q⟩
    rw[hn,List.size_toArray,e1]
    rfl
end
end L2
namespace TL
open PySem PySem.Spec PyProof.Rows L2
section
variable {Jn : iE} {K : PySem.W.Frag} {cn : Str → Option Addr} {E : XK}
def vJ:List T->Res T
 |[.lst _ ts]=>match vX ts with
  |some ss=>if ss.length<=1000 then .ok (.int (ab3 ss))else .no
  |none=>.no
 |_=>.no
theorem cy3:uO K cn (ba3 K) vJ:=λE As H Z ts xs A Q zi r w=>by
 unfold vJ at w
 split at w
 . next o ts=>
   obtain⟨v,rfl,rv⟩:=r.one1
   obtain⟨a,vs,C,rfl,s,rs,_⟩:=rv.lstSq
   split at w
   . next ss hs=>
     split at w
     . next hl=>
       have:=ai4 ts rs hs
       subst this
       exact⟨a,ss,rfl,s.sq,hl,w.val zi (kR _)⟩
     . exact w.elim
   . exact w.elim
 . exact w.elim
theorem an2:∀(l acc:List Str),(acc++l).Nodup->l.foldl qS acc=acc++l
 |[],acc,_=>by simp
 |x::l,acc,h=>by
  have hx:x∉acc:=λhx=>by
   rw[List.nodup_append]at h
   exact h.2.2 x hx x List.mem_cons_self rfl
  have hs:qS acc x=acc++[x]:=by
   unfold qS
   rw[if_neg]
   intro q
   rw[List.any_eq_true]at q
   obtain⟨y,hy,e⟩:=q
   have:y=x:=by simpa using e
   subst this
   exact hx hy
  rw[List.foldl_cons,hs,an2 l (acc++[x]) (by simpa using h)]
  simp
theorem bi4(l:List Str):(List.range l.length).map (λi=>l.getD i Str.empty)=l:=by
 apply List.ext_getElem?
 intro i
 by_cases h:i<l.length
 . rw[List.getElem?_map,List.getElem?_range h,List.getElem?_eq_getElem h]
   simp[List.getD_eq_getElem?_getD,List.getElem?_eq_getElem h]
 . rw[List.getElem?_eq_none (by simpa using h),List.getElem?_eq_none (by omega)]
theorem ba2(h:ss.Nodup):ab3 ss=ss.length:=by
 unfold ab3 lS
 rw[bi4,an2 ss [] (by simpa using h)]
 simp
theorem cm0{ss:List Str}(o:Bool)(h:ss.Nodup)(hl:ss.length<=1000):vJ [.lst o (ss.map .str)]=.ok (.int ss.length):=by
 simp only[vJ,xU,if_pos hl,ba2 h]
end
end TL
namespace TL
open PySem PySem.Spec PyProof.Rows L2
section
variable {P : Program} {w : World} {K : PySem.W.Frag} {cn : Str → Option Addr} {mg : Str → Option Value} {base : Heap} {k n : Nat}
theorem jH:kG K cn [] f:=λ_ h=>nomatch h
theorem bH(h:cn c=some C)(k:Cls K C)(n:NoAttr K C f)(r:kG K cn cs f):kG K cn (c::cs) f:=λd hd D hD=>by
 rcases List.mem_cons.mp hd with rfl|hd
 . rw[h]at hD
   cases hD
   exact⟨k,n⟩
 . exact r d hd D hD
theorem vR:xW K cn n [] []:=λc G C h=>by cases h
theorem cL(h:cn c=some C)(r:xW K cn n tabs tab):xW K cn n ((c,G)::tabs) ((C,bK K cn n G)::tab):=λd G' D hl hD=>by
 rw[List.lookup_cons]at hl
 by_cases e:(d==c)=true
 . rw[e]at hl
   cases hl
   have:d=c:=by simpa using e
   subst this
   rw[h]at hD
   cases hD
   exact List.mem_cons_self
 . rw[Bool.not_eq_true]at e
   rw[e]at hl
   exact List.mem_cons_of_mem _ (r d G' D hl hD)
theorem wC:∀q∈([]:List (Addr×Sp)),iJ P w K mg base k q.1 m q.2:=eH
theorem cM(h:iJ P w K mg base k C m sp)(r:∀q∈tab,iJ P w K mg base k q.1 m q.2):∀q∈(C,sp)::tab,iJ P w K mg base k q.1 m q.2:=λq hq=>by
 rcases List.mem_cons.mp hq with rfl|hq
 . exact h
 . exact r q hq
def MD(P:Program)(w:World)(K:PySem.W.Frag)(mg:Str->Option Value)(base:Heap)(k:Nat)(kvs:List (Str×Value))(tab:List (Str×Sp)):Prop:=∀q∈tab,∃f fd ps,kvs.lookup q.1=some (.ref f)/\FnOk P w K mg base lB k f fd ps q.2/\Binds K fd ps []/\PySem.W.keepIn K (.ref f)=true
theorem bu9:MD P w K mg base k kvs []:=eH
theorem lO(e:kvs.lookup z=mg x)(d:fL P w K mg base j x ps sp)(h:j<=k)(r:MD P w K mg base k kvs tab):MD P w K mg base k kvs ((z,sp)::tab):=λq hq=>by
 rcases List.mem_cons.mp hq with rfl|hq
 . obtain⟨f,fd,F,hm,hk,hb⟩:=d.ex
   exact⟨f,fd,ps,e.trans hm,F.mono h,hb,hk⟩
 . exact r q hq
theorem cw8(D:wQ w K mg d kvs)(r:MD P w K mg base k kvs tab):ci1 P w K mg base k d tab:=⟨kvs,D,r⟩
end
end TL
namespace L2
open PySem PySem.Spec PyProof.Rows
theorem dc7{K:PySem.W.Frag}{h:Heap}{mg:Str->Option Value}{kvs:List (Str×Value)}{z x:Str}{u:Value}(X:K.In h)(G:h.Ns mainGlobals mg)(a:PySem.W.nsIn K mainGlobals x=some (some u))(e:kvs.lookup z=some u):kvs.lookup z=mg x:=e.trans (PySem.W.mg_of X G a).symm
end L2
namespace TL
open PySem PySem.Spec PyProof.Rows L2
theorem dn2(h1:-(2^64)<i)(h2:i<2^64):mulOk i j:=.inl ⟨h1,h2⟩
theorem dk9(h1:-(2^64)<j)(h2:j<2^64):mulOk i j:=.inr (.inl ⟨h1,h2⟩)
theorem ci6(i:Int):gR [.int i,.ty "int"]=.ok (.bl true):=cz4 i
theorem cc7(i:Int):gR [.int i,.ty "bool"]=.ok (.bl false):=bl8 i
theorem cf8(i:Bool):gR [.bl i,.ty "bool"]=.ok (.bl true):=cv4 i
theorem ck8(i:Bool):gR [.bl i,.ty "int"]=.ok (.bl true):=bl7 i
theorem cy8(i:List T):gR [.tup i,.ty "tuple"]=.ok (.bl true):=ci5 i
theorem cg8(o:Bool)(i:List T):gR [.lst o i,.ty "list"]=.ok (.bl true):=cu4 o i
theorem ct7:gR [.non,.ty "bool"]=.ok (.bl false):=by with_unfolding_all rfl
theorem cr6:gR [.non,.ty "int"]=.ok (.bl false):=by with_unfolding_all rfl
theorem ds4(i:Int):oX [.int i]=gate (i.natAbs.log2<1920) (.ok (.str (toString i))):=rfl
theorem do0(x:Str):oX [.str x]=.ok (.str x):=rfl
theorem cy9(i j:Int):oN (.int i) (.int j)=.ok (.bl (!(i==j))):=rfl
theorem dx3(i j:Str):oN (.str i) (.str j)=.ok (.bl (!(i==j))):=rfl
theorem cx9(i j:Bool):oN (.bl i) (.bl j)=.ok (.bl (!(i==j))):=rfl
theorem cc9(o:Bool)(ts:List T):dd4 [.lst o ts]=if aP ts=true then .ok (.tup ts)else .no:=rfl
end TL
namespace TL
open PySem L2
theorem cy0(h:n<=100000):(n<=sizeLine)=True:=eq_true (Nat.le_trans h (by decide))
theorem cc1(h:n<=100000):(n<sizeLine)=True:=eq_true (Nat.lt_of_le_of_lt h (by decide))
theorem lI{m:Int}(h:0<=m):∃k:Nat,m=k:=⟨m.toNat,by omega⟩
end TL
namespace TL
open PySem L2
theorem dl5(h1:0<j)(h2:j<1073741824):jU i j:=⟨h1,h2⟩
theorem ds6(h1:0<=j)(h2:j<=1000000)(h3:i.natAbs<2^64):yR i j:=⟨h1,h2,h3⟩
end TL
namespace L2
open PySem
theorem dk7(h:PySem.W.findIn K (.ref C) f=some none):NoAttr K C f:=h
end L2
namespace L2
open PySem PySem.Spec PyProof.Rows
section
variable {X : Cx}
theorem as6(r:Vals xs its):∀k:Nat,Vals (List.replicate k xs).flatten (List.replicate k its).flatten
 |0=>Paired.nil
 |k+1=>by
  rw[List.replicate_succ,List.replicate_succ,List.flatten_cons,List.flatten_cons]
  exact r.append (as6 r k)
theorem aq9(its:List Value):∀(k:Nat)(acc:List Value),List.foldl (λx1 x2=>x1++x2) acc.toArray (List.replicate k its.toArray)=(acc++(List.replicate k its).flatten).toArray
 |0,acc=>by simp
 |k+1,acc=>by
  rw[List.replicate_succ,List.foldl_cons,List.replicate_succ,List.flatten_cons]
  have e:acc.toArray++its.toArray=(acc++its).toArray:=by simp
  rw[e,aq9 its k,List.append_assoc]
theorem bs6(its:List Value)(k:Nat):List.foldl (λx1 x2=>x1++x2) #[] (List.replicate (if its.toArray.isEmpty=true then 0 else k) its.toArray)=((List.replicate k its).flatten).toArray:=by
 cases its with
 |nil=>
  have e:(List.replicate k ([]:List Value)).flatten=[]:=by
   induction k with
   |zero=>rfl
   |succ k ih=>rw[List.replicate_succ,List.flatten_cons,ih];rfl
  rw[e]
  simp
 |cons v its=>
  have e:=aq9 (v::its) k []
  simp only[List.nil_append]at e
  simpa using e
def cp4(K:PySem.W.Frag):R2:=λx y H Q=>∃l xs k,x=.ref l/\y=.int k/\SqS K H l xs/\-(2^63)<=k/\k<2^63/\xs.length*k.toNat<=2^24/\∀p,H p=none->Q (.ref p) (upd H p (.lst (List.replicate k.toNat xs).flatten))
theorem cx7(K:PySem.W.Frag)(hK:X.K=K:=by rfl):OpR X (binaryOp .Mult) (cp4 K):=by
 subst hK
 intro pins s σ H x y v u Q I rx ry h
 obtain⟨l,xs,k,rfl,rfl,hH,h1,h2,hz,q⟩:=h
 cases rx
 obtain⟨t,rfl⟩:=ry
 obtain⟨its,n,r,e,_⟩:=I.listS hH
 have hl:=r.length
 have hs:its.toArray.size*k.toNat<=2^24:=by rw[List.size_toArray,<-hl];exact hz
 refine wpAny_binaryOp_repeat_ref (T:="list") (U:="int") (by decide) ⟨_,e,rfl⟩ (λs'=>typeIs_int s' k t) noFill_list_mul F.fills_int_mul F.slot_int_rmul repeat_list F.slot_int_index.lookup
  (call_meets F.slot_int_rmul (typeIs_int s k t) F.entry_int_rmul (F.args_int_rmul_2 _ _) (int___rmul___int_list k t l its.toArray n) ⟨e,rfl,⟨_,e,rfl⟩,call_meets F.slot_list_mul ⟨_,e,rfl⟩ F.entry_list_mul (F.args_list_mul_2 _ _)
   (AutoListH.list___mul___list_int_3 l its.toArray n k t (by simp[Builtin.List.listFitsIndex];omega) (by omega) (by simp[Builtin.List.listTooLong,sizeLine];simpa using hs)) ⟨e,?_⟩⟩)
 rw[bs6]
 refine⟨.ref _,_,I.lnew (t':=s.toks) (as6 r k.toNat) ?_,rfl,q _ I.fresh⟩
 have hm:∀(m:Nat),(List.replicate m xs).flatten.length=m*xs.length:=by intro m;simp
 have hn:=sizeLine_eq
 rw[hm,Nat.mul_comm]
 omega
end
end L2
namespace TL
open PySem L2
section
variable {K : PySem.W.Frag} {cn : Str → Option Addr}
noncomputable def ag2:T->T->Res T
 |.lst _ xs,.int k=>gate (aP xs=true/\-(2^63)<=k/\k<2^63/\xs.length*k.toNat<=2^24) (.ok (.lst true (List.replicate k.toNat xs).flatten))
 |_,_=>.no
theorem ae7(r:Reps K cn H Z xs vs []):∀k:Nat,Reps K cn H Z (List.replicate k xs).flatten (List.replicate k vs).flatten []
 |0=>Reps.nil
 |k+1=>by
  rw[List.replicate_succ,List.replicate_succ,List.flatten_cons,List.flatten_cons]
  exact Reps.append xs r (ae7 r k)
theorem dz1:nS K cn (cp4 K) ag2:=λE As H Z t u x y A B Q zi rt ru w=>by
 unfold ag2 at w
 split at w
 . next o xs k=>
   obtain⟨h,w⟩:=w.gate
   obtain⟨a,vs,C,rfl,hs,r1,_⟩:=rt.lstSq
   rw[ru.int]
   exact⟨a,vs,k,rfl,rfl,hs,h.2.1,h.2.2.1,by rw[Reps.length xs r1];exact h.2.2.2,λp hp=>w.newL zi (ae7 (r1.bareE h.1) k.toNat) p hp⟩
 . exact w.elim
def dd9(us:List T):List T->Option (List T)
 |[.int i]=>if 0<=i/\i.toNat<us.length/\us.length<=sizeLine then some (us.eraseIdx i.toNat)else none
 |_=>none
end
end TL
namespace TL
open PySem PySem.Spec PyProof.Rows L2
section
variable {Jn : iE} {K : PySem.W.Frag} {cn : Str → Option Addr} {E : XK}
theorem dx5{mv mw L:List Nat}{te:TE}{tr:TA}{a:Fr->Res T}{r:Fr->Res (List T)}(ha:RE Jn K cn E mv te a)(hr:RA Jn K cn E mw tr r)(e:mv++mw=L)(hd:(mv.all λi=>!mw.contains i)=true):RA Jn K cn E L (tV te tr) (aD a r):=e▸cd9 ha hr hd
theorem co9{ks ls L:List Nat}{n:Nat}{g:TG}{gs:TGs}{b:T->Fr->Option Fr}{bs:List T->Fr->Option Fr}(h1:RG Jn K cn ks g b)(h2:RGs Jn K cn ls n gs bs)(e:ks++ls=L):RGs Jn K cn L (n+1) (bg5 g gs) (bA b bs):=e▸cb4 h1 h2
end
end TL
namespace TL
open PySem PySem.Spec PyProof.Rows L2
section
variable {Jn : iE} {K : PySem.W.Frag} {cn : Str → Option Addr} {E : XK}
def dx6(d:Fr->Res T):Fr->bX:=λρ=>match d ρ with
 |.ok t=>if cO t=true then .rm ρ t else .no
 |.ex x=>.ex x
 |.no=>.no
end
end TL
namespace L2
open PySem PySem.Spec PyProof.Rows
section
variable {X : Cx}
end
end L2
namespace TL
open PySem L2
section
variable {K : PySem.W.Frag} {cn : Str → Option Addr}
end
end TL
namespace L2
open PySem PySem.Spec PyProof.Rows
def bv0(K:PySem.W.Frag)(n:Nat):V->List V->Hp->VK->Prop:=λx vs H Q=>∃p ys y,x=.ref p/\vs=[y]/\SqL K H p ys/\∃(es:List Bool),es.length=ys.length/\(∀(j:Nat) z e,ys[j]?=some z->es[j]?=some e->EqD K H n z y e)/\Q (.int (es.countP id:Nat)) H
section
variable {X : Cx}
theorem cq3{n:Nat}(hu:X.A.units+n+1<cLine):MtR X "list.count" (bv0 X.K n):=by
 intro pins s σ H x vs v us Q I rx rv h
 obtain⟨p,ys,y,rfl,rfl,hq,es,hl,he,q⟩:=h
 cases rx
 obtain⟨u,rfl,ru⟩:=rv.one
 obtain⟨its,r,pl,hz⟩:=I.list hq
 have l1:=r.length
 obtain⟨f,hf,_⟩:=ar8 I r hl he
 have em:its.map f=es:=by
  apply List.ext_getElem (by rw[List.length_map];omega)
  intro m h1 h2
  rw[List.getElem_map]
  have hm:m<its.length:=by simpa using h1
  obtain⟨z,ez,rz⟩:=gB r hm
  obtain⟨z',rz',d⟩:=hf its[m] (List.getElem_mem hm)
  cases rz.inj rz'
  exact EqD.det I n _ _ _ _ d (he m z _ ez (List.getElem?_eq_getElem h2))
 have ec:es.countP id=its.countP f:=by
  rw[<-em,List.countP_map]
  rfl
 rw[ec]at q
 obtain⟨⟨oc,od,odt,osl⟩,n0,ho,hc,hd,hdt⟩:=pl
 simp only at hc hd hdt
 subst hc hd hdt
 refine call_meets F.slot_list_count ⟨_,ho,rfl⟩ F.entry_list_count (F.args_list_count_2 _ _) (SeqAt.list_countAt p its.toArray n0 none osl u f) ⟨ho,λy hy=>?_,⟨.int (its.countP f:Nat),H,I.tok _,⟨_,rfl⟩,q⟩⟩
 obtain⟨z,rz,d⟩:=hf y (by simpa using hy)
 exact nV I n (by show X.A.units+1+n<cLine;omega) rz ru d
theorem bv8(K:PySem.W.Frag){n:Nat}{k:Nat}(hr:Room k X.A)(hn:n<=60:=by decide)(hK:X.K=K:=by rfl):MtR X "list.count" (bv0 K n):=by
 subst hK
 exact cq3 (Nat.lt_of_le_of_lt (by omega) hr.units)
structure xJ (K:PySem.W.Frag) (C:Addr):Prop where
 ha:PySem.W.findIn K (.ref C) "__class__"=some (some (.builtin "object.__class__"))
 hn:PySem.W.specialIn K (.builtin "object.__class__") "__get__"=some (some (.builtin "getset_descriptor.__get__"))
 htk:PySem.W.takesIn K (.builtin "object.__class__")=some true
 hm:PySem.W.mroIn K C (.type "object")=some true
theorem dy2{K:PySem.W.Frag}{C:Addr}(a:PySem.W.findIn K (.ref C) "__class__"=some (some (.builtin "object.__class__")))(b:PySem.W.specialIn K (.builtin "object.__class__") "__get__"=some (some (.builtin "getset_descriptor.__get__")))(c:PySem.W.takesIn K (.builtin "object.__class__")=some true)
 (d:PySem.W.mroIn K C (.type "object")=some true):xJ K C:=⟨a,b,c,d⟩
def bL(K:PySem.W.Frag)(C D:Addr)(b:Bool):Prop:=PySem.W.kitOne K (.ref C) (.ref D)=some b
theorem cq1{K:PySem.W.Frag}{C D:Addr}{b:Bool}(h:PySem.W.kitOne K (.ref C) (.ref D)=some b):bL K C D b:=h
structure uT (K:PySem.W.Frag) (C D:Addr) (b:Bool):Prop where
 cl:Cls K C
 ic:xJ K C
 kit:bL K C D b
def cj5(tab:List (Addr×Bool))(D:Addr):List V->Hp->VK->Prop:=λxs H Q=>∃a C dx fs b,xs=[.ref a,.ref D]/\H a=some (.ins C dx fs)/\(C,b)∈tab/\Q (.bl b) H
theorem kJ{tab:List (Addr×Bool)}{D:Addr}(hT:∀q∈tab,uT X.K q.1 D q.2):CallR X (.builtin "isinstance") (cj5 tab D):=by
 intro pins s σ H xs us Q I r h
 obtain⟨a,C,dx,fs,b,rfl,ea,hq,q⟩:=h
 obtain⟨u,v,rfl,rx,rD⟩:=r.two
 obtain rfl:v=Value.ref D:=rD
 have o:=hT _ hq
 exact by7 I rx (TyOf.ins ea o.cl o.ic.ha o.ic.hn o.ic.htk o.ic.hm) o.kit λtk=>⟨.bl b,H,I.tok _,rfl,q⟩
theorem glc_mk{K:PySem.W.Frag}{h:Heap}{mg:Str->Option Value}(X:K.In h)(G:h.Ns mainGlobals mg){x:Str}{C:Addr}(a:PySem.W.nsIn K mainGlobals x=some (some (.ref C))):mP mg x (.ref C):=⟨_,PySem.W.mg_of X G a,rfl⟩
theorem lU{K:PySem.W.Frag}{D:Addr}:∀q∈([]:List (Addr×Bool)),uT K q.1 D q.2:=λ_ h=>nomatch h
theorem aQ{K:PySem.W.Frag}{C D:Addr}{b:Bool}{tab:List (Addr×Bool)}(cl:Cls K C)(ic:xJ K C)(k:bL K C D b)(h:∀q∈tab,uT K q.1 D q.2):∀q∈(C,b)::tab,uT K q.1 D q.2:=λq hq=>by
 rcases List.mem_cons.mp hq with rfl|hq
 . exact⟨cl,ic,k⟩
 . exact h q hq
end
end L2
namespace TL
open PySem PySem.Spec PyProof.Rows L2
section
variable {Jn : iE} {K : PySem.W.Frag} {cn : Str → Option Addr} {E : XK}
def xT:T->List T->Res T
 |.lst _ us,[t]=>match nQ t us with
  |some es=>.ok (.int (es.countP id:Nat))
  |none=>.no
 |_,_=>.no
theorem cp7:RMR K cn "list" (bv0 K bZ) xT:=λE As H Z t ts x xs A B Q zi rt r w=>by
 unfold xT at w
 split at w
 . next o us t=>
   obtain⟨a,vs,C,rfl,s,rs,_⟩:=rt.lstSq
   simp only[Reps]at r
   obtain⟨v,r',B1,C1,rfl,rfl,ra,rfl,rfl⟩:=r
   cases e:nQ t us with
   |none=>rw[e]at w;exact w.elim
   |some es=>
    rw[e]at w
    obtain⟨g1,g2⟩:=uX ra us rs e
    exact⟨a,vs,v,rfl,rfl,s.sq,es,g1,g2,w.val zi (kR _)⟩
 . exact w.elim
def nL(tabs:List (Str×Bool)):T->Res T
 |.ins _ c _ _=>match tabs.lookup c with
  |some b=>.ok (.bl b)
  |none=>.no
 |_=>.no
def qF(cn:Str->Option Addr)(tabs:List (Str×Bool))(tab:List (Addr×Bool)):Prop:=∀c b C,tabs.lookup c=some b->cn c=some C->(C,b)∈tab
theorem lW:qF cn [] []:=λ_ _ _ h=>by cases h
theorem aR{c:Str}{C:Addr}{b:Bool}{tabs:List (Str×Bool)}{tab:List (Addr×Bool)}(h:cn c=some C)(r:qF cn tabs tab):qF cn ((c,b)::tabs) ((C,b)::tab):=λc' b' C' hl hc=>by
 rw[List.lookup_cons]at hl
 by_cases e:c'=c
 . subst e
   rw[h]at hc
   cases hc
   simp at hl
   subst hl
   exact List.mem_cons_self
 . rw[show(c'==c)=false from by rw[beq_eq_false_iff_ne];exact e]at hl
   exact List.mem_cons_of_mem _ (r c' b' C' hl hc)
theorem cq8{tabs:List (Str×Bool)}{tab:List (Addr×Bool)}{D:Addr}{ta:TE}{d:Fr->Res T}(hT:qF cn tabs tab)(ha:RB Jn K cn E ta d):RE Jn K cn E [] (tCB (cj5 tab D) (tV ta (tV (tC (.ref D)) ap0))) (eR (nL tabs) d):=λAs H Z ρ σ F Q w=>by
 unfold eR at w
 refine ha As H Z ρ σ F _ ?_
 cases e:d ρ with
 |ok t=>
  rw[e]at w
  intro v H1 Z1 B p
  simp only[Res.bind,nL]at w
  split at w
  . next ow c ns us=>
    split at w
    . next b hb=>
      obtain⟨q,C,dx,vs,D2,rfl,hC,eq,_,r⟩:=p.rep.insS
      exact⟨q,C,dx,_,b,rfl,eq,hT c b C hb hC,w (.bl b) H1 Z1 [] ⟨p.same,p.zz,p.zn,p.zi,⟨rfl,rfl⟩,List.nodup_nil,eH,eH⟩⟩
    . exact w.elim
  . exact w.elim
 |ex x=>rw[e]at w;exact w
 |no=>rw[e]at w;exact w
end
end TL

set_option maxHeartbeats 4000000
open TL
local macro_rules | `(tactic| walk_at "gt") => `(tactic| first | assumption | exact dn2 (by decide) (by decide) | exact dk9 (by decide) (by decide) | exact dl5 (by decide) (by decide) | exact ds6 (by decide) (by decide) (by decide) | decide | omega | (refine And.intro ?_ ?_; omega; omega))
local macro_rules | `(tactic| walk_at "ev") => `(tactic| simp (disch := walk_at "gt") only [am0,cy0,cc1,aO,bM,bI,cW,ds5,mJ,bP,dz2,dy5,aB,dC,bE,aE,eR,rN,kZ,xI,tS,dIf,bG,jF,jL,bo5,rS,dF,kS,aD,aJ,bT,bS,pZ,nY,fX,iG,iQ,jR,dO,cZ,ay0,dy8,dz7,kills,aI,eF,bA,eI,bU,cN,kA,eQ,frz,frzs,cO,aP,fN,fB,xQ,jV,kP,tQ,nT,jN,xY,uH,mW,yG,mD,tT,zH,GoW,cs4,dv0,da3,de2,dw3,du3,dh4,da0,dx1,cn8,dn0,be7,dk6,da8,dc8,df6,dh6,dg5,dp6,dq7,dm5,dv7,dn5,ci2,ce1,ca3,cn3,cd1,dj6,dn8,di8,di6,dt5,dg7,de5,df8,bl5,df7,dv8,dp4,du9,du6,dj7,dj5,dc5,bd8,cz4,bl8,cv4,bl7,ci5,cu4,do8,dh0,ay2,dn3,dc3,dt6,dr7,co0,dm2,dw2,bv6,bj3,do6,dr8,dw6,dh7,du7,de7,de8,dc6,dl7,dr6,dl6,dv6,dm8,dg8,dj8,bf7,dq8,dd7,ca0,
 ci6,cc7,cf8,ck8,cy8,cg8,ct7,cr6,ds4,do0,cy9,dx3,cx9,eR,vP,cg1,az8,ea0,aa1,di5,dj1,jX,oE,da9,dx8,db9,dj9,dd9,dx6,rQ,ag9,sA,ac2,cc9,List.length_map,Option.map_some,Option.isSome_some,List.isEmpty_cons,List.isEmpty_nil,Option.isSome_none,List.map_cons,List.map_nil,List.length_cons,List.length_nil,List.replicate_succ,List.replicate_zero,List.cons_append,List.nil_append,List.set_cons_zero,List.set_cons_succ,List.getElem?_cons_zero,List.getElem?_cons_succ,Nat.reduceAdd,Nat.reduceSub,Bool.not_true,Bool.not_false,Bool.and_true,Bool.true_and,Bool.and_false,Bool.false_and,Bool.or_true,Bool.true_or,Bool.or_false,Bool.false_or,if_true,if_false,Bool.false_eq_true,reduceIte,reduceCtorEq,decide_true,decide_false,and_self,and_true,true_and,Bool.and_self, *])
namespace Nk12
open PySem L2 TL
noncomputable section
def eV(i:Nat):Stmt:=PySem.Challenge.pw_inkyears_k12_what_sayings_say.main.body.getD i (.Pass ⟨0,0,0,0⟩)
abbrev kt_NUMBERS:List (Str×T):=[("dark",.tup [.int 0,.int 1000000]),("place",.tup [.int 1,.int 100]),("year",.tup [.int (-4000),.int 4000]),("later",.tup [.int 0,.int 300]),("gap",.tup [.int (-300),.int 300])]
abbrev kt_PARTS:List (Str×T):=[("ink",.tup [.str "letter",.str "ink",.str "dark",.str "dark"]),("reign",.tup [.str "letter",.str "reign",.str "place"]),("under",.tup [.str "letter",.str "reign"]),("between",.tup [.str "letter",.str "year",.str "year"]),("after",.tup [.str "letter",.str "letter"]),("same",.tup [.str "letter",.str "letter"]),("within",.tup [.str "letter",.str "letter",.str "later"]),("apart",.tup [.str "letter",.str "letter",.str "gap",.str "gap"])]
abbrev ki_Saying:List (Str×Bool):=[("Ink",true),("Reign",true),("Under",true),("Between",true),("After",true),("Same",true),("Within",true),("Apart",true)]
abbrev ki_Ink:List (Str×Bool):=[("Ink",true),("Reign",false),("Under",false),("Between",false),("After",false),("Same",false),("Within",false),("Apart",false)]
abbrev ki_Reign:List (Str×Bool):=[("Ink",false),("Reign",true),("Under",false),("Between",false),("After",false),("Same",false),("Within",false),("Apart",false)]
abbrev ki_Under:List (Str×Bool):=[("Ink",false),("Reign",false),("Under",true),("Between",false),("After",false),("Same",false),("Within",false),("Apart",false)]
abbrev ki_Between:List (Str×Bool):=[("Ink",false),("Reign",false),("Under",false),("Between",true),("After",false),("Same",false),("Within",false),("Apart",false)]
abbrev ki_After:List (Str×Bool):=[("Ink",false),("Reign",false),("Under",false),("Between",false),("After",true),("Same",false),("Within",false),("Apart",false)]
abbrev ki_Same:List (Str×Bool):=[("Ink",false),("Reign",false),("Under",false),("Between",false),("After",false),("Same",true),("Within",false),("Apart",false)]
abbrev ki_Within:List (Str×Bool):=[("Ink",false),("Reign",false),("Under",false),("Between",false),("After",false),("Same",false),("Within",true),("Apart",false)]
abbrev ki_Apart:List (Str×Bool):=[("Ink",false),("Reign",false),("Under",false),("Between",false),("After",false),("Same",false),("Within",false),("Apart",true)]
def oB:Fr->bX:=
 (aO (bM [] (dC (.int 0)) (aI 2))
 (aO (bM [] (aE bQ (aE cC (aE bQ (aE cC (aB 0) (dC (.int 998244341))) (aE iU (dC (.int 7919)) (aB 1))) (dC (.int 998244353))) (dC (.int 3))) (aI 3))
 (aO (mJ (jR oS (aD (dC (.int 4)) aJ)) (aI 4) (aO (bM [] (bT sK (aD (aB 3) (aD (dC (.int 4099)) aJ))) (eF (bA (aI 5) (bA (aI 6) eI))))
 (aO (bM [] (aE cC (aE bQ (aE bQ (aE bQ (aE iU (aB 6) (dC (.int 240007))) (aE iU (aB 5) (dC (.int 89)))) (aE iU (dC (.int 1201)) (aB 4))) (dC (.int 11))) (dC (.int 998244353))) (aI 3))
 (bM [] (aE bQ (aE iU (aB 2) (dC (.int 998244353))) (aB 3)) (aI 2)))))
 (bI [] (bE (aB 2))))))
def oC:List T->Res T:=λts=>bU (oB (cN 7 ts))
def jG:Fr->bX:=
 (aO (bM [] (dF aJ) (aI 1))
 (aO (mJ (jR oS (aD (bT sR (aD (bT eN (aD (aB 0) aJ)) (aD (dC (.int 64)) aJ))) aJ)) (aI 2) (aO (bM [] (bT wB (aD (aE aS (aB 0) (aB 2)) aJ)) (aI 3))
 (aO (bM [] (dC (.int 1)) (aI 4))
 (aO (tE (bG (aE kW (aB 4) (aB 3))) (bM [] (aE iU (aB 4) (aE wG (dC (.int 10)) (dC (.int 6)))) (aI 4)))
 (mW 1 [] eQ (aE bQ (aB 3) (aE iU (aB 4) (bS 2 oC (aD (aB 3) (aD (aB 2) aJ))))))))))
 (bI [1] (aB 1))))
def jI:List T->Res T:=λts=>bU (jG (cN 5 ts))
def tL:Fr->bX:=
 (aO (mJ (iQ wU (ay0 (nY lZ (aB 0) (fX (aB 1)) (fX (aE bQ (aB 1) (dC (.int 1))))))) (aI 2) (bI [] (bT wB (aD (aB 2) aJ))))
 (bI [] (dC (.int 0))))
def oO:List T->Res T:=λts=>bU (tL (cN 3 ts))
def pO:Fr->bX:=
 (aO (bM [] (dF aJ) (aI 2))
 (aO (bM [] (aE kY (aB 0) (dC (.int 2))) (aI 3))
 (aO (mJ (jR oS (aD (aE iU (aB 1) (aE eA (dC (.int 1)) (aE cC (aB 0) (dC (.int 2))))) aJ)) (aI 4) (aO (bM [] (bT sK (aD (aB 3) (aD (aE wG (dC (.int 10)) (dC (.int 9))) aJ))) (eF (bA (aI 3) (bA (aI 5) eI))))
 (mW 2 [] eQ (bE (aB 5)))))
 (aO (bM [] (aE bQ (aE cC (aB 3) (dC (.int 998244341))) (dC (.int 5))) (aI 3))
 (aO (tE (bG (aE ltT (bT eN (aD (aB 2) aJ)) (aB 1))) (aO (mJ (jR oS (aD (dC (.int 2)) aJ)) (aI 6) (aO (bM [] (bT sK (aD (aB 3) (aD (dC (.int 4099)) aJ))) (eF (bA (aI 7) (bA (aI 8) eI))))
 (bM [] (aE cC (aE bQ (aE bQ (aE bQ (aE iU (aB 8) (dC (.int 240007))) (aE iU (aB 7) (dC (.int 89)))) (aE iU (dC (.int 1201)) (bT eN (aD (aB 2) aJ)))) (dC (.int 11))) (dC (.int 998244353))) (aI 3))))
 (mW 2 [] eQ (aE kY (aB 3) (dC (.int 5))))))
 (bI [2] (aB 2)))))))
def eP:List T->Res T:=λts=>bU (pO (cN 9 ts))
def qM:Fr->bX:=
 (aO (bM [] (dC (.str "qwertyuiopasdfghjklzxcvbnm")) (aI 2))
 (aO (bM [] (aE kY (aB 0) (dC (.int 3))) (aI 3))
 (aO (cW (bG (aE dZ (aE cC (aB 0) (dC (.int 3))) (dC (.int 0)))) (bI [] (dO [7] (jR oS (aD (aB 1) aJ)) (aI 7) cZ (aE iU (aE aS (aB 2) (aE cC (aB 3) (dC (.int 26)))) (aE bQ (aB 7) (dC (.int 1)))))) bP)
 (aO (cW (bG (aE dZ (aE cC (aB 0) (dC (.int 3))) (dC (.int 1)))) (aO (bM [] (dF (aD (dC (.str "letter")) (aD (dC (.str "years")) (aD (dC (.str "fades")) (aD (dC (.str "rules")) (aD (dC (.str "ink")) (aD (dC (.str "put")) (aD (dC (.str "after")) (aD (dC (.str "same")) aJ))))))))) (aI 4))
 (bI [] (nY lZ (aE bQ (nY lZ (aB 4) (fX (aE cC (aB 3) (dC (.int 8)))) iG) (nY lZ (aB 4) iG (fX (aE cC (aB 3) (dC (.int 8)))))) iG (fX (aB 1))))) bP)
 (aO (bM [] (aE bQ (dC (.int 1)) (aE cC (aB 3) (dC (.int 8)))) (aI 5))
 (aO (bM [] (aE cC (aE kY (aB 3) (dC (.int 8))) (aB 5)) (aI 6))
 (bI [] (dO [7] (jR oS (aD (aB 1) aJ)) (aI 7) cZ (aE bQ (aE bQ (aE iU (dC (.str "a")) (aB 6)) (aE aS (aB 2) (aE cC (aE bQ (aE kY (aB 3) (dC (.int 64))) (aB 7)) (dC (.int 26))))) (aE iU (dC (.str "b")) (aE eA (aE eA (aB 5) (dC (.int 1))) (aB 6))))))))))))
def qZ:List T->Res T:=λts=>bU (qM (cN 8 ts))
def qV:Fr->bX:=
 (aO (bM [] (bS 2 eP (aD (aB 0) (aD (dC (.int 4)) aJ))) (aI 2))
 (aO (bM [] (bE (aE aS (dF (aD (aE wG (dC (.int 10)) (dC (.int 6))) (aD (dC (.int 100)) (aD (aE cC (aE aS (aB 2) (dC (.int 0))) (aE bQ (aE wG (dC (.int 10)) (dC (.int 6))) (dC (.int 1)))) aJ)))) (aE cC (aE aS (aB 2) (dC (.int 1))) (dC (.int 3))))) (aI 3))
 (aO (bM [] (dF aJ) (aI 4))
 (aO (mJ (iQ wU (ay0 (bS 2 eP (aD (aE kY (aB 0) (dC (.int 7))) (aD (aE bQ (dC (.int 1)) (aE cC (aE aS (aB 2) (dC (.int 2))) (aB 1))) aJ))))) (aI 5) (aO (mW 4 [] eQ (bE (aB 3)))
 (bM [] (bT aw0 (aD (dC (.int 0)) (aD (aE eA (aB 3) (aE cC (aB 5) (aE aS (dF (aD (dC (.int 2)) (aD (dC (.int 9)) (aD (dC (.int 40)) (aD (dC (.int 30011)) (aD (aE bQ (aE wG (dC (.int 10)) (dC (.int 6))) (dC (.int 1))) aJ)))))) (aE cC (aE aS (aB 2) (dC (.int 3))) (dC (.int 5)))))) aJ))) (aI 3))))
 (bI [4] (aB 4))))))
def qN:List T->Res T:=λts=>bU (qV (cN 6 ts))
def pD:Fr->bX:=
 (aO (bM [] (dF (aD (dC (.str "rix")) (aD (dC (.str "r")) (aD (dC (.str "regina")) (aD (dC (.str "king")) (aD (dC (.str "kings")) (aD (dC (.str "imperium")) aJ))))))) (aI 3))
 (aO (bM [] (bS 2 eP (aD (aB 0) (aD (dC (.int 18)) aJ))) (aI 4))
 (aO (bM [] (dF aJ) (aI 5))
 (aO (mJ (jR oS (aD (aE aS (dF (aD (dC (.int 1)) (aD (dC (.int 6)) (aD (aE cC (aB 0) (dC (.int 7))) aJ)))) (aE cC (aB 0) (dC (.int 3)))) aJ)) (aI 6) (aO (bM [] (aE bQ (aE eA (aB 1) (dC (.int 5))) (aE cC (aE aS (aB 4) (aE iU (dC (.int 3)) (aB 6))) (aE bQ (aB 2) (dC (.int 10))))) (aI 7))
 (mW 5 [] eQ (kS (aD (bE (aE aS (aB 3) (aB 6))) (aD (bE (aB 7)) (aD (aE bQ (dC (.int 1)) (aE cC (aE aS (aB 4) (aE bQ (aE iU (dC (.int 3)) (aB 6)) (dC (.int 1)))) (aE aS (dF (aD (dC (.int 9)) (aD (dC (.int 100)) aJ))) (aE cC (aE aS (aB 4) (aE bQ (aE iU (dC (.int 3)) (aB 6)) (dC (.int 2)))) (dC (.int 2)))))) aJ)))))))
 (bI [5] (aB 5))))))
def pU:List T->Res T:=λts=>bU (pD (cN 8 ts))
def rY:Fr->bX:=
 (aO (bM [] (bS 2 eP (aD (aE kY (bS 2 oO (aD (aB 0) (aD (dC (.int 0)) aJ))) (dC (.int 12))) (aD (dC (.int 16)) aJ))) (aI 3))
 (aO (bM [] (bE (aE aS (dF (aD (aE eA (aE cC (aE aS (aB 3) (dC (.int 0))) (aE eA (dC (.int 6001)) (aB 1))) (dC (.int 3000))) (aD (eR uC (dC (.int 3000))) (aD (aE eA (dC (.int 3000)) (aB 1)) aJ)))) (aE cC (aE aS (aB 3) (dC (.int 1))) (dC (.int 3))))) (aI 4))
 (aO (bM [] (aE bQ (aB 4) (aE aS (dF (aD (aE cC (aE aS (aB 3) (dC (.int 2))) (aE bQ (aB 1) (dC (.int 1)))) (aD (bE (aB 1)) aJ))) (aE cC (aE kY (aE aS (aB 3) (dC (.int 1))) (dC (.int 3))) (dC (.int 2))))) (aI 5))
 (aO (bM [] (bS 2 qZ (aD (aE aS (aB 3) (dC (.int 3))) (aD (aE bQ (dC (.int 1)) (aE cC (aE aS (aB 3) (dC (.int 4))) (aB 2))) aJ))) (aI 6))
 (aO (bM [] (dF aJ) (aI 7))
 (aO (mJ (jR oS (aD (aE aS (dF (aD (aE bQ (dC (.int 1)) (aE cC (aE aS (aB 3) (dC (.int 5))) (dC (.int 3)))) (aD (dC (.int 5)) aJ))) (aE kY (aE cC (aE aS (aB 3) (dC (.int 13))) (dC (.int 3))) (dC (.int 2)))) aJ)) (aI 8) (aO (bM [] (bE (aE aS (dF (aD (dC (.str "gall")) (aD (dC (.str "gal")) (aD (dC (.str "soot")) (aD (dC (.str "galls")) (aD (dC (.str "sepiaink")) aJ)))))) (aB 8))) (aI 9))
 (mW 7 [] eQ (kS (aD (bE (aB 9)) (aD (bS 2 qN (aD (aE bQ (aE aS (aB 3) (aE bQ (dC (.int 6)) (aE cC (aB 8) (dC (.int 3))))) (aE iU (dC (.int 7919)) (aE kY (aB 8) (dC (.int 3))))) (aD (aE aS (dF (aD (dC (.int 60)) (aD (dC (.int 6)) aJ))) (aE cC (aE kY (aE aS (aB 3) (dC (.int 5))) (dC (.int 3))) (dC (.int 2)))) aJ))) aJ))))))
 (aO (bM [] (aE bQ (dF (aD (kS (aD (dC (.str "rex")) (aD (aE bQ (aE eA (aB 4) (dC (.int 3))) (aE cC (aE aS (aB 3) (dC (.int 9))) (dC (.int 7)))) (aD (aE bQ (dC (.int 1)) (aE cC (aE aS (aB 3) (dC (.int 10))) (dC (.int 12)))) aJ)))) aJ)) (bS 3 pU (aD (aE aS (aB 3) (dC (.int 14))) (aD (aB 4) (aD (aB 1) aJ))))) (aI 10))
 (aO (mW 10 [] eQ (kS (aD (dC (.str "re")) (aD (bT sR (aD (dC (.int 4000)) (aD (aE bQ (aB 4) (aE cC (aE aS (aB 3) (dC (.int 11))) (aE bQ (aB 1) (dC (.int 2))))) aJ))) (aD (aE bQ (dC (.int 1)) (aE cC (aE aS (aB 3) (dC (.int 12))) (dC (.int 100)))) aJ)))))
 (bI [6,7,10] (kS (aD (bE (aB 4)) (aD (bE (aB 5)) (aD (aB 6) (aD (aB 7) (aD (aB 10) aJ)))))))))))))))
def sF:List T->Res T:=λts=>bU (rY (cN 11 ts))
def rV:Fr->bX:=
 (bI [] (kZ (bT gR (aD (aB 0) (aD (dC (.ty "int")) aJ))) (tS (bT gR (aD (aB 0) (aD (dC (.ty "bool")) aJ))))))
def sB:List T->Res T:=λts=>bU (rV (cN 1 ts))
def mM:Fr->bX:=
 (bI [] (kZ (bS 1 sB (aD (aB 0) aJ)) (rN kW kW (aB 1) (aB 0) (aB 2))))
def dD:List T->Res T:=λts=>bU (mM (cN 3 ts))
def qT:Fr->bX:=
 (aO (cW (jL (jF (bS 3 dD (aD (aB 0) (aD (eR uC (dC (.int 3000))) (aD (dC (.int 3000)) aJ)))))) (bI [] (dC (.bl false))) bP)
 (aO (cW (jL (jF (bS 3 dD (aD (aB 1) (aD (eR uC (dC (.int 3000))) (aD (dC (.int 3000)) aJ)))))) (bI [] (dC (.bl false))) bP)
 (bI [] (rN kW kW (dC (.int 0)) (aE eA (aB 1) (aB 0)) (dC (.int 300))))))
def qX:List T->Res T:=λts=>bU (qT (cN 2 ts))
def pE:Fr->bX:=
 (bI [] (kZ (rN kW kW (dC (.int 1)) (bT eN (aD (aB 0) aJ)) (aB 2)) (bT (lP false) (aD (dO [3] (iQ jT (aB 0)) (aI 3) cZ (aE (gY false) (aB 3) (aB 1))) aJ))))
def pR:List T->Res T:=λts=>bU (pE (cN 4 ts))
def tY:Fr->bX:=
 (bI [] (bS 3 pR (aD (aB 0) (aD (dC (.str "abcdefghijklmnopqrstuvwxyz")) (aD (dC (.int 8)) aJ)))))
def rK:List T->Res T:=λts=>bU (tY (cN 1 ts))
def qO:Fr->bX:=
 (aO (cW (jL (bG (rN kW kW (aB 1) (bT eN (aD (aB 0) aJ)) (aB 2)))) (bI [] (dC (.bl false))) bP)
 (bI [] (kZ (bT (lP false) (aD (dO [3] (iQ jT (aB 0)) (aI 3) cZ (bS 1 rK (aD (aB 3) aJ))) aJ)) (aE dZ (bT vJ (aD (aB 0) aJ)) (bT eN (aD (aB 0) aJ))))))
def mI:List T->Res T:=λts=>bU (qO (cN 4 ts))
def sE:Fr->bX:=
 (aO (cW (jL (bG (rN kW kW (dC (.int 1)) (bT eN (aD (aB 0) aJ)) (dC (.int 60))))) (bI [] (dC (.bl false))) bP)
 (aO (cW (jL (jF (bT (lP false) (aD (dO [1] (iQ jT (aB 0)) (aI 1) cZ (bS 3 dD (aD (aB 1) (aD (dC (.int 0)) (aD (dC (.int 1000000)) aJ))))) aJ)))) (bI [] (dC (.bl false))) bP)
 (bI [] (bT (lP false) (aD (dO [2] (jR az4 (aD (dC (.int 1)) (aD (bT eN (aD (aB 0) aJ)) aJ))) (aI 2) cZ (aE kW (aE aS (aB 0) (aB 2)) (aE aS (aB 0) (aE eA (aB 2) (dC (.int 1)))))) aJ)))))
def oY:List T->Res T:=λts=>bU (sE (cN 3 ts))
def sD:Fr->bX:=
 (aO (cW (jL (jF (bS 3 mI (aD (dO [1,2] (iQ jT (aB 0)) (eF (bA (aI 1) (bA (aI 2) eI))) cZ (bE (aB 1))) (aD (dC (.int 0)) (aD (dC (.int 6)) aJ)))))) (bI [] (dC (.bl false))) bP)
 (bI [] (bT (lP false) (aD (dO [1,2] (iQ jT (aB 0)) (eF (bA (aI 1) (bA (aI 2) eI))) cZ (bS 1 oY (aD (aB 2) aJ))) aJ))))
def rX:List T->Res T:=λts=>bU (sD (cN 3 ts))
def sC:Fr->bX:=
 (bI [] (kZ (bS 3 dD (aD (aB 0) (aD (eR uC (dC (.int 4000))) (aD (dC (.int 4000)) aJ)))) (bS 3 dD (aD (aB 1) (aD (dC (.int 1)) (aD (dC (.int 100)) aJ))))))
def pF:List T->Res T:=λts=>bU (sC (cN 2 ts))
def pN:Fr->bX:=
 (aO (cW (jL (jF (bS 3 mI (aD (dO [1,2,3] (iQ jT (aB 0)) (eF (bA (aI 1) (bA (aI 2) (bA (aI 3) eI)))) cZ (bE (aB 1))) (aD (dC (.int 0)) (aD (dC (.int 8)) aJ)))))) (bI [] (dC (.bl false))) bP)
 (bI [] (bT (lP false) (aD (dO [1,2,3] (iQ jT (aB 0)) (eF (bA (aI 1) (bA (aI 2) (bA (aI 3) eI)))) cZ (bS 2 pF (aD (aB 2) (aD (aB 3) aJ)))) aJ))))
def pS:List T->Res T:=λts=>bU (pN (cN 4 ts))
def lL:Fr->bX:=
 (aO (cW (jL (jF (bS 2 qX (aD (aB 1) (aD (aB 2) aJ))))) oE bP)
 (aO (cW (jL (jF (bS 3 mI (aD (aB 3) (aD (dC (.int 1)) (aD (dC (.int 8)) aJ)))))) oE bP)
 (aO (cW (jL (jF (bS 1 rX (aD (aB 4) aJ)))) oE bP)
 (aO (cW (jL (jF (bS 1 pS (aD (aB 5) aJ)))) oE bP)
 (aO (rQ 0 [] ["Archive"] "first" (bE (aB 1)) eQ)
 (aO (rQ 0 [] ["Archive"] "present" (bE (aB 2)) eQ)
 (aO (rQ 0 [] ["Archive"] "letters" (bT jW (aD (aB 3) aJ)) eQ)
 (aO (rQ 0 [] ["Archive"] "inks" (dO [6,7] (iQ jT (aB 4)) (eF (bA (aI 6) (bA (aI 7) eI))) cZ (kS (aD (bE (aB 6)) (aD (bT jW (aD (aB 7) aJ)) aJ)))) eQ)
 (rQ 0 [] ["Archive"] "reigns" (dO [6,8,9] (iQ jT (aB 5)) (eF (bA (aI 6) (bA (aI 8) (bA (aI 9) eI)))) cZ (kS (aD (bE (aB 6)) (aD (bE (aB 8)) (aD (bE (aB 9)) aJ))))) eQ)))))))))
def oZ:Fr->bX:=
 (aO (bM [] (bE (aB 0)) (eF (bA (aI 3) (bA (aI 4) (bA (aI 5) (bA (aI 6) (bA (aI 7) eI)))))))
 (aO (cW (bG (aE dZ (aE cC (aE aS (aB 2) (dC (.int 1))) (dC (.int 4))) (dC (.int 0)))) (aO (bM [] (bE (aE aS (aB 6) (aE cC (aE aS (aB 2) (dC (.int 2))) (bT eN (aD (aB 6) aJ))))) (eF (bA (aI 8) (bA (aI 9) eI))))
 (aO (bM [] (bE (aE aS (aB 9) (bT sR (aD (aE cC (aE aS (aB 2) (dC (.int 3))) (aE bQ (aE eA (aB 4) (aB 3)) (dC (.int 1)))) (aD (aE eA (bT eN (aD (aB 9) aJ)) (dC (.int 1))) aJ))))) (aI 10))
 (aO (bM [] (bT aw0 (aD (dC (.int 0)) (aD (bT sR (aD (aE wG (dC (.int 10)) (dC (.int 6))) (aD (aE bQ (aB 10) (aE aS (dF (aD (dC (.int 0)) (aD (dC (.int 0)) (aD (dC (.int 1)) (aD (eR uC (dC (.int 1))) (aD (dC (.int 7)) (aD (eR uC (dC (.int 30))) aJ))))))) (aE cC (aE aS (aB 2) (dC (.int 4))) (dC (.int 6))))) aJ))) aJ))) (aI 11))
 (bI [] (dF (aD (dC (.str "ink")) (aD (bE (aB 1)) (aD (bE (aB 8)) (aD (bE (aB 11)) (aD (aE bQ (bT wB (aD (aE eA (aB 11) (aB 10)) aJ)) (aE cC (aE aS (aB 2) (dC (.int 5))) (aE aS (dF (aD (dC (.int 1)) (aD (dC (.int 1)) (aD (dC (.int 9)) aJ)))) (aE cC (aE kY (aE aS (aB 2) (dC (.int 4))) (dC (.int 6))) (dC (.int 3)))))) aJ)))))))))) bP)
 (aO (cW (bG (aE dZ (aE cC (aE aS (aB 2) (dC (.int 1))) (dC (.int 4))) (dC (.int 1)))) (aO (bM [] (bE (aE aS (aB 7) (aE cC (aE aS (aB 2) (dC (.int 2))) (bT eN (aD (aB 7) aJ))))) (eF (bA (aI 12) (bA (aI 13) (bA (aI 14) eI)))))
 (bI [] (dF (aD (dC (.str "reign")) (aD (bE (aB 1)) (aD (bE (aB 12)) (aD (aE bQ (dC (.int 1)) (aE cC (aE aS (aB 2) (dC (.int 3))) (aB 14))) aJ))))))) bP)
 (aO (cW (bG (aE dZ (aE cC (aE aS (aB 2) (dC (.int 1))) (dC (.int 4))) (dC (.int 2)))) (bI [] (dF (aD (dC (.str "under")) (aD (bE (aB 1)) (aD (bE (aE aS (aE aS (aB 7) (aE cC (aE aS (aB 2) (dC (.int 2))) (bT eN (aD (aB 7) aJ)))) (dC (.int 0)))) aJ))))) bP)
 (aO (bM [] (aE bQ (aE eA (aB 3) (dC (.int 1))) (aE cC (aE aS (aB 2) (dC (.int 3))) (aE bQ (aE eA (aB 4) (aB 3)) (dC (.int 3))))) (aI 15))
 (bI [] (dF (aD (dC (.str "between")) (aD (bE (aB 1)) (aD (bE (aB 15)) (aD (aE bQ (aB 15) (aE cC (aE aS (aB 2) (dC (.int 4))) (aE bQ (aE eA (aB 4) (aB 3)) (dC (.int 2))))) aJ)))))))))))
def pI:List T->Res T:=λts=>bU (oZ (cN 16 ts))
def oW:Fr->bX:=
 (aO (bM [] (bE (aB 0)) (eF (bA (aI 3) (bA (aI 4) (bA (aI 5) (bA (aI 6) (bA (aI 7) eI)))))))
 (aO (bM [] (bS 2 eP (aD (aB 1) (aD (dC (.int 7)) aJ))) (aI 8))
 (aO (bM [] (aE cC (aE aS (aB 8) (dC (.int 0))) (bT eN (aD (aB 5) aJ))) (aI 9))
 (aO (cW (rS (bG (aE dZ (bT eN (aD (aB 5) aJ)) (dC (.int 1)))) (bG (aE ltT (aE cC (aE aS (aB 8) (dC (.int 6))) (dC (.int 8))) (dC (.int 3))))) (bI [] (bS 3 pI (aD (aB 0) (aD (aE aS (aB 5) (aB 9)) (aD (aB 8) aJ))))) bP)
 (aO (bM [] (bE (aE aS (aB 5) (aE cC (aE bQ (aE bQ (aB 9) (dC (.int 1))) (aE cC (aE aS (aB 8) (dC (.int 2))) (aE eA (bT eN (aD (aB 5) aJ)) (dC (.int 1))))) (bT eN (aD (aB 5) aJ))))) (aI 10))
 (aO (cW (bG (aE dZ (aE cC (aE aS (aB 8) (dC (.int 1))) (dC (.int 4))) (dC (.int 0)))) (bI [] (dF (aD (dC (.str "after")) (aD (bE (aE aS (aB 5) (aB 9))) (aD (bE (aB 10)) aJ))))) bP)
 (aO (cW (bG (aE dZ (aE cC (aE aS (aB 8) (dC (.int 1))) (dC (.int 4))) (dC (.int 1)))) (bI [] (dF (aD (dC (.str "same")) (aD (bE (aE aS (aB 5) (aB 9))) (aD (bE (aB 10)) aJ))))) bP)
 (aO (cW (bG (aE dZ (aE cC (aE aS (aB 8) (dC (.int 1))) (dC (.int 4))) (dC (.int 2)))) (bI [] (dF (aD (dC (.str "within")) (aD (bE (aE aS (aB 5) (aB 9))) (aD (bE (aB 10)) (aD (aE cC (aE aS (aB 8) (dC (.int 3))) (aE bQ (aB 2) (dC (.int 1)))) aJ)))))) bP)
 (aO (bM [] (aE eA (aE cC (aE aS (aB 8) (dC (.int 3))) (aE bQ (aE iU (dC (.int 2)) (aB 2)) (dC (.int 1)))) (aB 2)) (aI 11))
 (bI [] (dF (aD (dC (.str "apart")) (aD (bE (aE aS (aB 5) (aB 9))) (aD (bE (aB 10)) (aD (bE (aB 11)) (aD (bT sR (aD (dC (.int 300)) (aD (aE bQ (aB 11) (aE cC (aE aS (aB 8) (dC (.int 4))) (aE bQ (aB 2) (dC (.int 1))))) aJ))) aJ))))))))))))))))
def pW:List T->Res T:=λts=>bU (oW (cN 12 ts))
def oH:Fr->bX:=
 (aO (cW (bG (aE dZ (aB 1) (dC (.str "letter")))) (bI [] (aE (gY false) (aB 2) (eR (iH ["Archive"] "letters") (aB 0)))) bP)
 (aO (cW (bG (aE dZ (aB 1) (dC (.str "ink")))) (bI [] (aE (gY false) (aB 2) (dO [3] (iQ jT (eR (iH ["Archive"] "inks") (aB 0))) (aI 3) cZ (bE (aE aS (aB 3) (dC (.int 0))))))) bP)
 (aO (cW (bG (aE dZ (aB 1) (dC (.str "reign")))) (bI [] (aE (gY false) (aB 2) (dO [4] (iQ jT (eR (iH ["Archive"] "reigns") (aB 0))) (aI 4) cZ (bE (aE aS (aB 4) (dC (.int 0))))))) bP)
 (bI [] (bS 3 dD (aD (aB 2) (aD (aE aS (eR (vP kt_NUMBERS) (aB 1)) (dC (.int 0))) (aD (aE aS (eR (vP kt_NUMBERS) (aB 1)) (dC (.int 1))) aJ))))))))
def gI:List T->Res T:=λts=>bU (oH (cN 5 ts))
def tP:Fr->bX:=
 (aO (cW (rS (bG (eR (cg1 true kt_PARTS) (aB 1))) (bG (aE oN (bT eN (aD (aB 2) aJ)) (bT eN (aD (eR (vP kt_PARTS) (aB 1)) aJ))))) (bI [] (dC (.bl false))) bP)
 (bI [] (bT (lP false) (aD (dO [3,4] (jR (az8 false) (aD (eR (vP kt_PARTS) (aB 1)) (aD (aB 2) aJ))) (eF (bA (aI 3) (bA (aI 4) eI))) cZ (bS 3 gI (aD (aB 0) (aD (aB 3) (aD (aB 4) aJ))))) aJ))))
def rG:List T->Res T:=λts=>bU (tP (cN 5 ts))
def kM:Fr->bX:=
 (aO (mJ (iQ wU (eR (iH ["Archive"] "inks") (aB 0))) (eF (bA (aI 2) (bA (aI 3) eI))) (cW (bG (aE dZ (aB 2) (aB 1))) (bI [] (bT jW (aD (aB 3) aJ))) bP))
 (bI [] (dC .non)))
def fW:List T->Res T:=λts=>bU (kM (cN 4 ts))
def tR:Fr->bX:=
 (aO (bM [] (aE eA (bT eN (aD (aB 0) aJ)) (dC (.int 1))) (aI 4))
 (aO (bM [] (dO [7] (jR oS (aD (aE bQ (bT sR (aD (aB 4) (aD (aB 3) aJ))) (dC (.int 1))) aJ)) (aI 7) (bG (aE kW (bT wB (aD (aE eA (aE aS (aB 0) (aB 7)) (aB 1)) aJ)) (aB 2))) (bE (aB 7))) (aI 5))
 (aO (cW (bG (aE dZ (bT eN (aD (aB 5) aJ)) (dC (.int 0)))) (bI [] (dC .non)) bP)
 (aO (bM [] (bE (aE aS (aB 5) (aE eA (bT eN (aD (aB 5) aJ)) (dC (.int 1))))) (aI 6))
 (bI [] (kS (aD (bE (aE aS (aB 5) (dC (.int 0)))) (aD (dIf (bG (aE dZ (aB 6) (aB 4))) (bE (aB 3)) (bE (aB 6))) aJ))))))))
def rA:List T->Res T:=λts=>bU (tR (cN 8 ts))
def wN:Fr->bX:=
 (bI [] (pZ xQ pM (dC (.str " ")) (aD (dO [1] (iQ jT (aB 0)) (aI 1) cZ (bT oX (aD (aB 1) aJ))) aJ)))
def wL:List T->Res T:=λts=>bU (wN (cN 2 ts))
def bV:Fr->bX:=
 (aO (bM [] (dO [7,8] (jR (az8 false) (aD (aB 3) (aD (eR (vP kt_PARTS) (aB 2)) aJ))) (eF (bA (aI 7) (bA (aI 8) eI))) (bG (aE dZ (aB 8) (dC (.str "letter")))) (bE (aB 7))) (aI 6))
 (aO (rQ 0 [] ["Ink","Reign","Under","Between","After","Same","Within","Apart"] "spoken" (dO [9] (iQ jT (aB 6)) (aI 9) cZ (pZ jV iC (eR (iH ["Archive"] "letters") (aB 1)) (aD (aB 9) aJ))) eQ)
 (aO (rQ 0 [] ["Ink","Reign","Under","Between","After","Same","Within","Apart"] "low" (bE (aB 4)) eQ)
 (aO (rQ 0 [] ["Ink","Reign","Under","Between","After","Same","Within","Apart"] "high" (bE (aB 5)) eQ)
 (rQ 0 [] ["Ink","Reign","Under","Between","After","Same","Within","Apart"] "text" (bS 1 wL (aD (aE bQ (dF (aD (bE (aB 2)) aJ)) (bT jW (aD (aB 3) aJ))) aJ)) eQ)))))
noncomputable abbrev tm_table:List (Str×(List T->Res T)):=[("Archive",fW)]
def aq0:List T->Res T:=λts=>jX (bV (cN 10 (.ins true "Ink" [] []::ts)))
def pJ:Fr->bX:=
 (aO (bM [] (bS 4 rA (aD (iN 2 "table" tm_table (aB 0) (aD (aE aS (aB 1) (dC (.int 1))) aJ)) (aD (aE aS (aB 1) (dC (.int 2))) (aD (aE aS (aB 1) (dC (.int 3))) (aD (aE eA (eR (iH ["Archive"] "present") (aB 0)) (eR (iH ["Archive"] "first") (aB 0))) aJ))))) (aI 2))
 (aO (cW (bG (aE tW (aB 2) (dC .non))) oE bP)
 (bI [] (bS 5 aq0 (aD (aB 0) (aD (dC (.str "ink")) (aD (aB 1) (aD (aE eA (eR (iH ["Archive"] "present") (aB 0)) (aE aS (aB 2) (dC (.int 1)))) (aD (aE eA (eR (iH ["Archive"] "present") (aB 0)) (aE aS (aB 2) (dC (.int 0)))) aJ)))))))))
def oR:List T->Res T:=λts=>bU (pJ (cN 3 ts))
def nE:Fr->bX:=
 (aO (mJ (iQ wU (eR (iH ["Archive"] "reigns") (aB 0))) (aI 2) (cW (bG (aE dZ (aE aS (aB 2) (dC (.int 0))) (aB 1))) (bI [] (bE (aB 2))) bP))
 (bI [] (dC .non)))
def lF:List T->Res T:=λts=>bU (nE (cN 3 ts))
def pH:Fr->bX:=
 (aO (cW (jL (jF (bS 3 dD (aD (aB 2) (aD (dC (.int 1)) (aD (aB 1) aJ)))))) (bI [] (dC .non)) bP)
 (bI [] (aE eA (aE bQ (aB 0) (aB 2)) (dC (.int 1)))))
def mV:List T->Res T:=λts=>bU (pH (cN 3 ts))
def wJ:List T->Res T:=λts=>jX (bV (cN 10 (.ins true "Reign" [] []::ts)))
def nI:Fr->bX:=
 (aO (bM [] (bS 2 lF (aD (aB 0) (aD (aE aS (aB 1) (dC (.int 1))) aJ))) (aI 2))
 (aO (bM [] (bS 3 mV (aD (aE aS (aB 2) (dC (.int 1))) (aD (aE aS (aB 2) (dC (.int 2))) (aD (aE aS (aB 1) (dC (.int 2))) aJ)))) (aI 3))
 (aO (cW (bG (aE tW (aB 3) (dC .non))) oE bP)
 (bI [] (bS 5 wJ (aD (aB 0) (aD (dC (.str "reign")) (aD (aB 1) (aD (aB 3) (aD (aB 3) aJ))))))))))
def nJ:List T->Res T:=λts=>bU (nI (cN 4 ts))
def wD:List T->Res T:=λts=>jX (bV (cN 10 (.ins true "Under" [] []::ts)))
def nG:Fr->bX:=
 (aO (bM [] (bS 2 lF (aD (aB 0) (aD (aE aS (aB 1) (dC (.int 1))) aJ))) (aI 2))
 (bI [] (bS 5 wD (aD (aB 0) (aD (dC (.str "under")) (aD (aB 1) (aD (aE aS (aB 2) (dC (.int 1))) (aD (bS 3 mV (aD (aE aS (aB 2) (dC (.int 1))) (aD (aE aS (aB 2) (dC (.int 2))) (aD (aE aS (aB 2) (dC (.int 2))) aJ)))) aJ))))))))
def nA:List T->Res T:=λts=>bU (nG (cN 3 ts))
def tG:List T->Res T:=λts=>jX (bV (cN 10 (.ins true "Between" [] []::ts)))
def lR:Fr->bX:=
 (aO (cW (bG (aE gtT (aE aS (aB 1) (dC (.int 1))) (aE aS (aB 1) (dC (.int 2))))) oE bP)
 (bI [] (bS 5 tG (aD (aB 0) (aD (dC (.str "between")) (aD (aB 1) (aD (aE aS (aB 1) (dC (.int 1))) (aD (aE aS (aB 1) (dC (.int 2))) aJ))))))))
def lV:List T->Res T:=λts=>bU (lR (cN 2 ts))
def vZ:List T->Res T:=λts=>jX (bV (cN 10 (.ins true "After" [] []::ts)))
def nC:Fr->bX:=
 (bI [] (bS 5 vZ (aD (aB 0) (aD (dC (.str "after")) (aD (aB 1) (aD (dC (.int 1)) (aD (dC .non) aJ)))))))
def nH:List T->Res T:=λts=>bU (nC (cN 2 ts))
def xE:List T->Res T:=λts=>jX (bV (cN 10 (.ins true "Same" [] []::ts)))
def oG:Fr->bX:=
 (bI [] (bS 5 xE (aD (aB 0) (aD (dC (.str "same")) (aD (aB 1) (aD (dC (.int 0)) (aD (dC (.int 0)) aJ)))))))
def oF:List T->Res T:=λts=>bU (oG (cN 2 ts))
def uJ:List T->Res T:=λts=>jX (bV (cN 10 (.ins true "Within" [] []::ts)))
def mL:Fr->bX:=
 (bI [] (bS 5 uJ (aD (aB 0) (aD (dC (.str "within")) (aD (aB 1) (aD (dC (.int 0)) (aD (aE aS (aB 1) (dC (.int 2))) aJ)))))))
def mK:List T->Res T:=λts=>bU (mL (cN 2 ts))
def vY:List T->Res T:=λts=>jX (bV (cN 10 (.ins true "Apart" [] []::ts)))
def nK:Fr->bX:=
 (aO (cW (bG (aE gtT (aE aS (aB 1) (dC (.int 2))) (aE aS (aB 1) (dC (.int 3))))) oE bP)
 (bI [] (bS 5 vY (aD (aB 0) (aD (dC (.str "apart")) (aD (aB 1) (aD (aE aS (aB 1) (dC (.int 2))) (aD (aE aS (aB 1) (dC (.int 3))) aJ))))))))
def nN:List T->Res T:=λts=>bU (nK (cN 2 ts))
noncomputable abbrev tb_MAKERS:List (Str×(List T->Res T)):=[("ink",oR),("reign",nJ),("under",nA),("between",lV),("after",nH),("same",oF),("within",mK),("apart",nN)]
def qY:Fr->bX:=
 (aO (cW (jL (jF (bS 3 rG (aD (aB 0) (aD (aB 1) (aD (aB 2) aJ)))))) oE bP)
 (aO (cW (bo5 (bG (aE dZ (aE aS (eR (vP kt_PARTS) (aB 1)) (dC (.int 1))) (dC (.str "letter")))) (bG (aE dZ (aE aS (aB 2) (dC (.int 0))) (aE aS (aB 2) (dC (.int 1)))))) oE bP)
 (bI [] (ac2 2 tb_MAKERS (aB 1) (aD (aB 0) (aD (aB 2) aJ))))))
def dH:List T->Res T:=λts=>bU (qY (cN 3 ts))
def qQ:Fr->bX:=
 (aO (bM [] (dF (aD (eR (nL ki_Ink) (aB 0)) (aD (eR (nL ki_Reign) (aB 0)) (aD (eR (nL ki_Under) (aB 0)) (aD (eR (nL ki_Between) (aB 0)) aJ))))) (aI 2))
 (aO (bM [] (aE bQ (aB 2) (dF (aD (eR (nL ki_After) (aB 0)) (aD (eR (nL ki_Same) (aB 0)) (aD (eR (nL ki_Within) (aB 0)) aJ))))) (aI 2))
 (aO (bM [] (aE bQ (aB 2) (dF (aD (eR (nL ki_Apart) (aB 0)) aJ))) (aI 2))
 (aO (bM [] (dF (aD (dC (.str "ink")) (aD (dC (.str "reign")) (aD (dC (.str "under")) (aD (dC (.str "between")) (aD (dC (.str "after")) (aD (dC (.str "same")) (aD (dC (.str "within")) (aD (dC (.str "apart")) aJ))))))))) (aI 3))
 (bI [] (kZ (eR (nL ki_Saying) (aB 0)) (kZ (aE dZ (pZ jV xT (aB 2) (aD (dC (.bl true)) aJ)) (dC (.int 1))) (aE dZ (aE aS (aB 3) (pZ jV iC (aB 2) (aD (dC (.bl true)) aJ))) (aB 1)))))))))
def mF:List T->Res T:=λts=>bU (qQ (cN 4 ts))
def dJ:Fr->bX:=
 (bI [] (bT jW (aD (eR (iH ["Ink","Reign","Under","Between","After","Same","Within","Apart"] "spoken") (aB 0)) aJ)))
def aY:List T->Res T:=λts=>bU (dJ (cN 1 ts))
def dI:Fr->bX:=
 (bI [] (bE (eR (iH ["Ink","Reign","Under","Between","After","Same","Within","Apart"] "text") (aB 0))))
def aX:List T->Res T:=λts=>bU (dI (cN 1 ts))
def dE:Fr->bX:=
 (bI [] (kS (aD (bE (eR (iH ["Ink","Reign","Under","Between","After","Same","Within","Apart"] "low") (aB 0))) (aD (bE (eR (iH ["Ink","Reign","Under","Between","After","Same","Within","Apart"] "high") (aB 0))) aJ))))
def aT:List T->Res T:=λts=>bU (dE (cN 1 ts))
def pX:Fr->bX:=
 (aO (cW (rS (jL (jF (bT gR (aD (aB 0) (aD (dC (.ty "tuple")) aJ))))) (rS (bG (aE oN (bT eN (aD (aB 0) aJ)) (dC (.int 2)))) (bG (aE tW (aE aS (aB 0) (dC (.int 0))) (dC .non))))) (bI [] (dC (.bl false))) bP)
 (aO (cW (bG (aE oN (aE tW (aE aS (aB 0) (dC (.int 1))) (dC .non)) (aE dZ (aB 1) (dC (.str "after"))))) (bI [] (dC (.bl false))) bP)
 (bI [] (tS (bT (lP true) (aD (dO [2] (iQ jT (aB 0)) (aI 2) (bG (aE nW (aB 2) (dC .non))) (xI (bT gR (aD (aB 2) (aD (dC (.ty "bool")) aJ))) (tS (bT gR (aD (aB 2) (aD (dC (.ty "int")) aJ)))))) aJ))))))
def pV:List T->Res T:=λts=>bU (pX (cN 3 ts))
def fO:Fr->bX:=
 (aO (bM [] (bE (aB 0)) (eF (bA (aI 3) (bA (aI 4) (bA (aI 5) (bA (aI 6) (bA (aI 7) eI)))))))
 (aO (cW (bG (aE dZ (aE aS (aB 1) (dC (.int 0))) (dC (.str "ink")))) (aO (bM [] (bE (aE aS (dO [13,14] (iQ jT (aB 6)) (eF (bA (aI 13) (bA (aI 14) eI))) (bG (aE dZ (aB 13) (aE aS (aB 1) (dC (.int 2))))) (bE (aB 14))) (dC (.int 0)))) (aI 8))
 (aO (bM [] (aE eA (aB 4) (aB 2)) (aI 9))
 (aO (bM [] (bE (aE aS (aB 8) (aE eA (bT eN (aD (aB 8) aJ)) (dC (.int 1))))) (aI 10))
 (aO (cW (bG (aE ltT (aB 9) (bT eN (aD (aB 8) aJ)))) (bM [] (bE (aE aS (aB 8) (aB 9))) (aI 10)) bP)
 (bI [] (kZ (aE kW (aE eA (aB 10) (aE aS (aB 1) (dC (.int 4)))) (aE aS (aB 1) (dC (.int 3)))) (aE kW (aE aS (aB 1) (dC (.int 3))) (aE bQ (aB 10) (aE aS (aB 1) (dC (.int 4))))))))))) bP)
 (aO (cW (bG (aE dZ (aE aS (aB 1) (dC (.int 0))) (dC (.str "between")))) (bI [] (kZ (aE kW (aE aS (aB 1) (dC (.int 2))) (aB 2)) (aE kW (aB 2) (aE aS (aB 1) (dC (.int 3)))))) bP)
 (aO (bM [] (bE (aE aS (dO [13,11,12] (iQ jT (aB 7)) (eF (bA (aI 13) (bA (aI 11) (bA (aI 12) eI)))) (bG (aE dZ (aB 13) (aE aS (aB 1) (dC (.int 2))))) (kS (aD (bE (aB 11)) (aD (bE (aB 12)) aJ)))) (dC (.int 0)))) (eF (bA (aI 11) (bA (aI 12) eI))))
 (aO (cW (bG (aE dZ (aE aS (aB 1) (dC (.int 0))) (dC (.str "reign")))) (bI [] (aE dZ (aB 2) (aE eA (aE bQ (aB 11) (aE aS (aB 1) (dC (.int 3)))) (dC (.int 1))))) bP)
 (bI [] (kZ (aE kW (aB 11) (aB 2)) (aE ltT (aB 2) (aE bQ (aB 11) (aB 12))))))))))
def cG:List T->Res T:=λts=>bU (fO (cN 15 ts))
def kO:Fr->bX:=
 (aO (bM [] (bE (aE aS (aB 0) (dC (.int 2)))) (aI 3))
 (aO (bM [] (bE (aE aS (aB 2) (pZ jV iC (aB 3) (aD (aE aS (aB 1) (dC (.int 1))) aJ)))) (aI 4))
 (aO (cW (bG (aE (gY false) (aE aS (aB 1) (dC (.int 0))) (dF (aD (dC (.str "ink")) (aD (dC (.str "reign")) (aD (dC (.str "under")) (aD (dC (.str "between")) aJ))))))) (bI [] (bS 3 cG (aD (aB 0) (aD (aB 1) (aD (aB 4) aJ))))) bP)
 (aO (bM [] (bE (aE aS (aB 2) (pZ jV iC (aB 3) (aD (aE aS (aB 1) (dC (.int 2))) aJ)))) (aI 5))
 (aO (cW (bG (aE dZ (aE aS (aB 1) (dC (.int 0))) (dC (.str "after")))) (bI [] (aE gtT (aB 4) (aB 5))) bP)
 (aO (cW (bG (aE dZ (aE aS (aB 1) (dC (.int 0))) (dC (.str "same")))) (bI [] (aE dZ (aB 4) (aB 5))) bP)
 (aO (cW (bG (aE dZ (aE aS (aB 1) (dC (.int 0))) (dC (.str "within")))) (bI [] (kZ (aE kW (aB 5) (aB 4)) (aE kW (aB 4) (aE bQ (aB 5) (aE aS (aB 1) (dC (.int 3))))))) bP)
 (bI [] (kZ (aE kW (aE bQ (aB 5) (aE aS (aB 1) (dC (.int 3)))) (aB 4)) (aE kW (aB 4) (aE bQ (aB 5) (aE aS (aB 1) (dC (.int 4))))))))))))))
def dG:List T->Res T:=λts=>bU (kO (cN 6 ts))
def rZ:Fr->bX:=
 (bI [] (kZ (xI (aE tW (aE aS (aB 0) (dC (.int 0))) (dC .non)) (aE kW (aE aS (aB 0) (dC (.int 0))) (aB 1))) (xI (aE tW (aE aS (aB 0) (dC (.int 1))) (dC .non)) (aE kW (aB 1) (aE aS (aB 0) (dC (.int 1)))))))
def nB:List T->Res T:=λts=>bU (rZ (cN 2 ts))
def eK:Fr->bX:=
 (aO (bM [] (bE (aB 0)) (eF (bA (aI 3) (bA (aI 4) (bA (aI 5) (bA (aI 6) (bA (aI 7) eI)))))))
 (aO (cW (jL (jF (bS 2 pV (aD (aB 2) (aD (aE aS (aB 1) (dC (.int 0))) aJ))))) (bI [] (dC (.bl false))) bP)
 (aO (bM [] (aE ag2 (dF (aD (bE (aB 3)) aJ)) (bT eN (aD (aB 5) aJ))) (aI 8))
 (aO (bM [] (pZ jV iC (aB 5) (aD (aE aS (aB 1) (dC (.int 1))) aJ)) (aI 9))
 (aO (cW (bG (aE (gY false) (aE aS (aB 1) (dC (.int 0))) (dF (aD (dC (.str "ink")) (aD (dC (.str "reign")) (aD (dC (.str "under")) (aD (dC (.str "between")) aJ))))))) (aO (mJ (jR az4 (aD (aB 3) (aD (aE bQ (aB 4) (dC (.int 1))) aJ))) (aI 10) (aO (yG 8 [] (bE (aB 10)) eQ (aB 9))
 (cW (bG (aE oN (bS 3 dG (aD (aB 0) (aD (aB 1) (aD (aB 8) aJ)))) (bS 2 nB (aD (aB 2) (aD (aB 10) aJ))))) (bI [] (dC (.bl false))) bP)))
 (aO (cW (bG (aE dZ (aE aS (aB 1) (dC (.int 0))) (dC (.str "ink")))) (bI [] (dC (.bl true))) bP)
 (aO (cW (bG (aE dZ (aE aS (aB 1) (dC (.int 0))) (dC (.str "between")))) (bI [] (aE dZ (aB 2) (kS (aD (bE (aE aS (aB 1) (dC (.int 2)))) (aD (bE (aE aS (aB 1) (dC (.int 3)))) aJ))))) bP)
 (aO (bM [] (bE (aE aS (dO [14] (iQ jT (aB 7)) (aI 14) (bG (aE dZ (aE aS (aB 14) (dC (.int 0))) (aE aS (aB 1) (dC (.int 2))))) (nY lZ (aB 14) (fX (dC (.int 1))) iG)) (dC (.int 0)))) (eF (bA (aI 11) (bA (aI 12) eI))))
 (aO (cW (bG (aE dZ (aE aS (aB 1) (dC (.int 0))) (dC (.str "reign")))) (bI [] (aE dZ (aB 2) (kS (aD (aE eA (aE bQ (aB 11) (aE aS (aB 1) (dC (.int 3)))) (dC (.int 1))) (aD (aE eA (aE bQ (aB 11) (aE aS (aB 1) (dC (.int 3)))) (dC (.int 1))) aJ))))) bP)
 (bI [] (aE dZ (aB 2) (kS (aD (bE (aB 11)) (aD (aE eA (aE bQ (aB 11) (aB 12)) (dC (.int 1))) aJ)))))))))) bP)
 (aO (mJ (jR az4 (aD (eR uC (dC (.int 305))) (aD (dC (.int 306)) aJ))) (aI 13) (aO (yG 8 [] (aE bQ (aB 3) (aB 13)) eQ (aB 9))
 (cW (bG (aE oN (bS 3 dG (aD (aB 0) (aD (aB 1) (aD (aB 8) aJ)))) (bS 2 nB (aD (aB 2) (aD (aB 13) aJ))))) (bI [] (dC (.bl false))) bP)))
 (bI [] (dC (.bl true)))))))))
def cB:List T->Res T:=λts=>bU (eK (cN 15 ts))
noncomputable abbrev tm_about:List (Str×(List T->Res T)):=[("Ink",aY),("Reign",aY),("Under",aY),("Between",aY),("After",aY),("Same",aY),("Within",aY),("Apart",aY)]
noncomputable abbrev tm_shown:List (Str×(List T->Res T)):=[("Ink",aX),("Reign",aX),("Under",aX),("Between",aX),("After",aX),("Same",aX),("Within",aX),("Apart",aX)]
noncomputable abbrev tm_bounds:List (Str×(List T->Res T)):=[("Ink",aT),("Reign",aT),("Under",aT),("Between",aT),("After",aT),("Same",aT),("Within",aT),("Apart",aT)]
def nX:Fr->bX:=
 (aO (bM [] (bT jW (aD (nY lZ (aB 2) (fX (dC (.int 1))) iG) aJ)) (aI 3))
 (aO (bM [] (bS 3 dH (aD (aB 1) (aD (aE aS (aB 2) (dC (.int 0))) (aD (aB 3) aJ)))) (aI 4))
 (aO (bM [] (dO [9] (iQ jT (nY lZ (aB 2) (fX (dC (.int 1))) (fX (dC (.int 3))))) (aI 9) (bG (aE (gY false) (aB 9) (aE aS (aB 0) (dC (.int 2))))) (bE (aB 9))) (aI 5))
 (aO (bM [] (dF (aD (pZ jV iC (aE aS (aB 0) (dC (.int 2))) (aD (aE aS (aB 2) (dC (.int 1))) aJ)) aJ)) (aI 6))
 (aO (cW (bG (aE (gY false) (aE aS (aB 2) (dC (.int 0))) (dF (aD (dC (.str "after")) (aD (dC (.str "same")) (aD (dC (.str "within")) (aD (dC (.str "apart")) aJ))))))) (mW 6 [] eQ (pZ jV iC (aE aS (aB 0) (dC (.int 2))) (aD (aE aS (aB 2) (dC (.int 2))) aJ))) bP)
 (aO (cW (rS (jL (jF (bS 2 mF (aD (aB 4) (aD (aE aS (aB 2) (dC (.int 0))) aJ))))) (bG (aE ltT (bT eN (aD (aB 5) aJ)) (bT eN (aD (aB 6) aJ))))) (bI [] (dC (.bl false))) bP)
 (aO (mJ (jR oS (aD (dC (.int 2)) aJ)) (aI 7) (aO (bM [] (iN 1 "about" tm_about (aB 4) aJ) (aI 8))
 (aO (cW (rS (jL (jF (bT gR (aD (aB 8) (aD (dC (.ty "list")) aJ))))) (rS (bG (aE oN (aB 8) (aB 6))) (jF (bT (lP true) (aD (dO [10] (iQ jT (aB 8)) (aI 10) cZ (bT gR (aD (aB 10) (aD (dC (.ty "bool")) aJ)))) aJ))))) (bI [] (dC (.bl false))) bP)
 (aO (mW 8 [] eQ (dC (.int 0)))
 (aO (cW (rS (bG (aE oN (iN 1 "shown" tm_shown (aB 4) aJ) (pZ xQ pM (dC (.str " ")) (aD (dO [11] (iQ jT (aB 2)) (aI 11) cZ (bT oX (aD (aB 11) aJ))) aJ)))) (bG (aE oN (nY lZ (aB 3) iG (fX (aE eA (bT eN (aD (aB 2) aJ)) (dC (.int 1))))) (nY lZ (aB 2) (fX (dC (.int 1))) iG)))) (bI [] (dC (.bl false))) bP)
 (mW 3 [] eQ (dC (.str "late"))))))))
 (bI [] (bS 3 cB (aD (aB 0) (aD (aB 2) (aD (iN 1 "bounds" tm_bounds (aB 4) aJ) aJ))))))))))))
def kQ:List T->Res T:=λts=>bU (nX (cN 12 ts))
def pL:List T->Res T:=λts=>jX (lL (cN 10 (.ins true "Archive" [] []::ts)))
def at8:Fr->bX:=
 (aO (bM [] (bS 1 jI (aD (aB 0) aJ)) (aI 0))
 (aO (bM [] (ay0 (bS 3 sF (aD (aB 0) (aD (aE aS (dF (aD (dC (.int 12)) (aD (dC (.int 300)) (aD (dC (.int 5)) aJ)))) (aE cC (bS 2 oO (aD (aB 0) (aD (dC (.int 0)) aJ))) (dC (.int 3)))) (aD (dC (.int 8)) aJ))))) (aI 1))
 (aO (bM [] (bE (aB 1)) (eF (bA (aI 2) (bA (aI 3) (bA (aI 4) (bA (aI 5) (bA (aI 6) eI)))))))
 (aO (bM [] (bS 5 pL (aD (aB 2) (aD (aB 3) (aD (bT jW (aD (aB 4) aJ)) (aD (dO [10,11] (iQ jT (aB 5)) (eF (bA (aI 10) (bA (aI 11) eI))) cZ (kS (aD (bE (aB 10)) (aD (bT jW (aD (aB 11) aJ)) aJ)))) (aD (bT jW (aD (aB 6) aJ)) aJ)))))) (aI 7))
 (aO (bM [] (bE (aE aS (dF (aD (aE eA (aB 3) (aB 2)) (aD (dC (.int 300)) (aD (dC (.int 3)) aJ)))) (aE cC (aE kY (bS 2 oO (aD (aB 0) (aD (dC (.int 0)) aJ))) (dC (.int 3))) (dC (.int 3))))) (aI 8))
 (aO (mJ (iQ wU (ay0 (aE bQ (nY lZ (aB 0) (fX (dC (.int 1))) (fX (dC (.int 25)))) (dF (aD (dC (.int 5)) aJ))))) (aI 9) (cW (jL (jF (bS 3 kQ (aD (aB 1) (aD (aB 7) (aD (bS 3 pW (aD (aB 1) (aD (bT wB (aD (aB 9) aJ)) (aD (aB 8) aJ)))) aJ)))))) (bI [] (dC (.bl false))) bP))
 (bI [] (dC (.bl true)))))))))
def aq8:List T->Res T:=λts=>bU (at8 (cN 12 ts))
abbrev wX:Stmt:=eV 74
abbrev oV:Stmt:=eV 75
abbrev az6:Stmt:=eV 59
abbrev xP:Stmt:=eV 60
abbrev ae0:Stmt:=eV 61
abbrev zY:Stmt:=eV 62
abbrev xL:Stmt:=eV 63
abbrev ad2:Stmt:=eV 64
abbrev ay1:Stmt:=eV 8
abbrev tK:Stmt:=eV 9
abbrev ad0:Stmt:=eV 53
abbrev yI:Stmt:=eV 10
abbrev aa7:Stmt:=eV 11
abbrev ab0:Stmt:=eV 54
abbrev as1:Stmt:=eV 18
abbrev av2:Stmt:=eV 55
abbrev ai2:Stmt:=eV 20
abbrev yD:Stmt:=eV 56
abbrev lA:Stmt:=sM (eV 57) 0
abbrev yH:Stmt:=eV 65
abbrev yQ:Stmt:=eV 66
abbrev aw9:Stmt:=eV 35
abbrev ag6:Stmt:=eV 36
abbrev kC:Stmt:=sM (eV 57) 1
abbrev af6:Stmt:=eV 19
abbrev ax8:Stmt:=eV 12
abbrev eD:Stmt:=sM (eV 25) 0
abbrev xK:Stmt:=eV 37
abbrev uY:Stmt:=eV 34
abbrev yO:Stmt:=eV 21
abbrev vO:Stmt:=eV 38
abbrev uQ:Stmt:=eV 39
abbrev sV:Stmt:=eV 40
abbrev vI:Stmt:=eV 41
abbrev wZ:Stmt:=eV 42
abbrev tJ:Stmt:=eV 43
abbrev vB:Stmt:=eV 44
abbrev aa0:Stmt:=eV 46
abbrev zX:Stmt:=eV 69
abbrev dL:Stmt:=sM (eV 25) 1
abbrev dN:Stmt:=sM (eV 25) 3
abbrev dA:Stmt:=sM (eV 25) 2
abbrev xN:Stmt:=eV 71
abbrev rR:Stmt:=eV 67
abbrev ah2:Stmt:=eV 68
abbrev av1:Stmt:=eV 70
abbrev rB:Stmt:=eV 72
abbrev zW:Stmt:=eV 73
abbrev rW:Stmt:=eV 76
end
structure Txt (w:World) (K:PySem.W.Frag) (cn:Str->Option Addr) (mg:Str->Option Value) (c_Ink c_Reign c_Under c_Between c_After c_Same c_Within c_Apart c_Archive c_Saying:Addr) (oQ sO iI:List (Str×Value)):Prop where
 ap3:mg "abs"=none
 wR:mg "all"=none
 cu5:mg "any"=none
 bl1:mg "bool"=none
 ak1:mg "divmod"=none
 cw5:mg "int"=none
 cY:mg "isinstance"=none
 eX:mg "len"=none
 nZ:mg "list"=none
 cy5:mg "max"=none
 zN:mg "min"=none
 jQ:mg "range"=none
 dt8:mg "set"=none
 cx5:mg "str"=none
 cl9:mg "tuple"=none
 cv5:mg "zip"=none
 g_DARKEST:mP mg "DARKEST" (.int 1000000)
 g_FARTHEST_END:mP mg "FARTHEST_END" (.int 3000)
 g_FARTHEST_YEAR:mP mg "FARTHEST_YEAR" (.int 4000)
 g_LETTERS:mP mg "LETTERS" (.str "abcdefghijklmnopqrstuvwxyz")
 g_LONGEST_REIGN:mP mg "LONGEST_REIGN" (.int 100)
 g_LONGEST_SPAN:mP mg "LONGEST_SPAN" (.int 300)
 g_MOST_AGES:mP mg "MOST_AGES" (.int 60)
 g_MOST_INKS:mP mg "MOST_INKS" (.int 6)
 g_MOST_LETTERS_archives:mP mg "MOST_LETTERS_archives" (.int 8)
 g_MOST_LETTERS_words:mP mg "MOST_LETTERS_words" (.int 8)
 g_MOST_REIGNS:mP mg "MOST_REIGNS" (.int 8)
 d_NUMBERS:wQ w K mg "NUMBERS" oQ
 g_NUMBERS:GD K cn kt_NUMBERS oQ
 d_PARTS:wQ w K mg "PARTS" sO
 g_PARTS:GD K cn kt_PARTS sO
 iX:cn "Ink"=some c_Ink
 jE:Cls K c_Ink
 fI:cn "Reign"=some c_Reign
 fR:Cls K c_Reign
 fF:cn "Under"=some c_Under
 fS:Cls K c_Under
 dP:cn "Between"=some c_Between
 eC:Cls K c_Between
 fG:cn "After"=some c_After
 fU:Cls K c_After
 gP:cn "Same"=some c_Same
 gW:Cls K c_Same
 eM:cn "Within"=some c_Within
 eS:Cls K c_Within
 fH:cn "Apart"=some c_Apart
 fT:Cls K c_Apart
 lX:cn "Archive"=some c_Archive
 nO:Cls K c_Archive
 af1:NoAttr K c_Archive "first"
 bx2:NoAttr K c_Ink "high"
 an8:NoAttr K c_Reign "high"
 ai8:NoAttr K c_Under "high"
 aq3:NoAttr K c_Between "high"
 ak8:NoAttr K c_After "high"
 bt1:NoAttr K c_Same "high"
 ar5:NoAttr K c_Within "high"
 am8:NoAttr K c_Apart "high"
 av3:NoAttr K c_Archive "inks"
 zF:NoAttr K c_Archive "letters"
 bk6:NoAttr K c_Ink "low"
 bn1:NoAttr K c_Reign "low"
 br1:NoAttr K c_Under "low"
 as5:NoAttr K c_Between "low"
 bi1:NoAttr K c_After "low"
 bp2:NoAttr K c_Same "low"
 ab8:NoAttr K c_Within "low"
 bv1:NoAttr K c_Apart "low"
 yY:NoAttr K c_Archive "present"
 zR:NoAttr K c_Archive "reigns"
 al8:NoAttr K c_Ink "spoken"
 az3:NoAttr K c_Reign "spoken"
 ai3:NoAttr K c_Under "spoken"
 zT:NoAttr K c_Between "spoken"
 au3:NoAttr K c_After "spoken"
 au5:NoAttr K c_Same "spoken"
 aj1:NoAttr K c_Within "spoken"
 ax3:NoAttr K c_Apart "spoken"
 bo2:NoAttr K c_Ink "text"
 aa8:NoAttr K c_Reign "text"
 ae8:NoAttr K c_Under "text"
 am3:NoAttr K c_Between "text"
 af8:NoAttr K c_After "text"
 bs1:NoAttr K c_Same "text"
 ax5:NoAttr K c_Within "text"
 aj8:NoAttr K c_Apart "text"
 ic_Ink:xJ K c_Ink
 ic_Reign:xJ K c_Reign
 ic_Under:xJ K c_Under
 ic_Between:xJ K c_Between
 ic_After:xJ K c_After
 ic_Same:xJ K c_Same
 ic_Within:xJ K c_Within
 ic_Apart:xJ K c_Apart
 gc_Saying:mP mg "Saying" (.ref c_Saying)
 kk_Ink_Saying:bL K c_Ink c_Saying true
 kk_Reign_Saying:bL K c_Reign c_Saying true
 kk_Under_Saying:bL K c_Under c_Saying true
 kk_Between_Saying:bL K c_Between c_Saying true
 kk_After_Saying:bL K c_After c_Saying true
 kk_Same_Saying:bL K c_Same c_Saying true
 kk_Within_Saying:bL K c_Within c_Saying true
 kk_Apart_Saying:bL K c_Apart c_Saying true
 gc_Ink:mP mg "Ink" (.ref c_Ink)
 kk_Ink_Ink:bL K c_Ink c_Ink true
 kk_Reign_Ink:bL K c_Reign c_Ink false
 kk_Under_Ink:bL K c_Under c_Ink false
 kk_Between_Ink:bL K c_Between c_Ink false
 kk_After_Ink:bL K c_After c_Ink false
 kk_Same_Ink:bL K c_Same c_Ink false
 kk_Within_Ink:bL K c_Within c_Ink false
 kk_Apart_Ink:bL K c_Apart c_Ink false
 gc_Reign:mP mg "Reign" (.ref c_Reign)
 kk_Ink_Reign:bL K c_Ink c_Reign false
 kk_Reign_Reign:bL K c_Reign c_Reign true
 kk_Under_Reign:bL K c_Under c_Reign false
 kk_Between_Reign:bL K c_Between c_Reign false
 kk_After_Reign:bL K c_After c_Reign false
 kk_Same_Reign:bL K c_Same c_Reign false
 kk_Within_Reign:bL K c_Within c_Reign false
 kk_Apart_Reign:bL K c_Apart c_Reign false
 gc_Under:mP mg "Under" (.ref c_Under)
 kk_Ink_Under:bL K c_Ink c_Under false
 kk_Reign_Under:bL K c_Reign c_Under false
 kk_Under_Under:bL K c_Under c_Under true
 kk_Between_Under:bL K c_Between c_Under false
 kk_After_Under:bL K c_After c_Under false
 kk_Same_Under:bL K c_Same c_Under false
 kk_Within_Under:bL K c_Within c_Under false
 kk_Apart_Under:bL K c_Apart c_Under false
 gc_Between:mP mg "Between" (.ref c_Between)
 kk_Ink_Between:bL K c_Ink c_Between false
 kk_Reign_Between:bL K c_Reign c_Between false
 kk_Under_Between:bL K c_Under c_Between false
 kk_Between_Between:bL K c_Between c_Between true
 kk_After_Between:bL K c_After c_Between false
 kk_Same_Between:bL K c_Same c_Between false
 kk_Within_Between:bL K c_Within c_Between false
 kk_Apart_Between:bL K c_Apart c_Between false
 gc_After:mP mg "After" (.ref c_After)
 kk_Ink_After:bL K c_Ink c_After false
 kk_Reign_After:bL K c_Reign c_After false
 kk_Under_After:bL K c_Under c_After false
 kk_Between_After:bL K c_Between c_After false
 kk_After_After:bL K c_After c_After true
 kk_Same_After:bL K c_Same c_After false
 kk_Within_After:bL K c_Within c_After false
 kk_Apart_After:bL K c_Apart c_After false
 gc_Same:mP mg "Same" (.ref c_Same)
 kk_Ink_Same:bL K c_Ink c_Same false
 kk_Reign_Same:bL K c_Reign c_Same false
 kk_Under_Same:bL K c_Under c_Same false
 kk_Between_Same:bL K c_Between c_Same false
 kk_After_Same:bL K c_After c_Same false
 kk_Same_Same:bL K c_Same c_Same true
 kk_Within_Same:bL K c_Within c_Same false
 kk_Apart_Same:bL K c_Apart c_Same false
 gc_Within:mP mg "Within" (.ref c_Within)
 kk_Ink_Within:bL K c_Ink c_Within false
 kk_Reign_Within:bL K c_Reign c_Within false
 kk_Under_Within:bL K c_Under c_Within false
 kk_Between_Within:bL K c_Between c_Within false
 kk_After_Within:bL K c_After c_Within false
 kk_Same_Within:bL K c_Same c_Within false
 kk_Within_Within:bL K c_Within c_Within true
 kk_Apart_Within:bL K c_Apart c_Within false
 gc_Apart:mP mg "Apart" (.ref c_Apart)
 kk_Ink_Apart:bL K c_Ink c_Apart false
 kk_Reign_Apart:bL K c_Reign c_Apart false
 kk_Under_Apart:bL K c_Under c_Apart false
 kk_Between_Apart:bL K c_Between c_Apart false
 kk_After_Apart:bL K c_After c_Apart false
 kk_Same_Apart:bL K c_Same c_Apart false
 kk_Within_Apart:bL K c_Within c_Apart false
 kk_Apart_Apart:bL K c_Apart c_Apart true
 ah8:fZ K mg "_law_stirred" wX
 wS:fZ K mg "_law_stirred_script" oV
 bo9:fZ K mg "_law_got" az6
 bw1:fZ K mg "_law_spread" xP
 br2:fZ K mg "_law_names" ae0
 bv2:fZ K mg "_law_table" zY
 bu1:fZ K mg "_law_reigns" xL
 bg6:fZ K mg "_law_base" ad2
 bm6:fZ K mg "is_whole" ay1
 aw3:fZ K mg "is_whole_from" tK
 bw2:fZ K mg "are_years" ad0
 by1:fZ K mg "is_made_of" yI
 br9:fZ K mg "is_name" aa7
 bt2:fZ K mg "are_names" ab0
 bf6:fZ K mg "is_table" as1
 bi6:fZ K mg "are_inks" av2
 bj6:fZ K mg "is_reign" ai2
 bj1:fZ K mg "are_reigns" yD
 bx1:fZ K mg "_law_of_one" yH
 bh1:fZ K mg "_law_saying" yQ
 ck4:fZ K mg "is_due" aw9
 bs9:fZ K mg "are_due" ag6
 bq9:fZ K mg "ages_of" af6
 cj4:fZ K mg "spaced" ax8
 bm1:fZ K mg "ink_saying" xK
 at5:fZ K mg "reign_called" uY
 bk1:fZ K mg "reign_year" yO
 am5:fZ K mg "reign_saying" vO
 aw5:fZ K mg "under_saying" uQ
 ae1:fZ K mg "between_saying" sV
 aq5:fZ K mg "after_saying" vI
 az7:fZ K mg "same_saying" wZ
 al3:fZ K mg "within_saying" tJ
 ac6:fZ K mg "apart_saying" vB
 bq2:fZ K mg "saying_of" aa0
 bu2:fZ K mg "_law_class" zX
 bq1:fZ K mg "_law_shaped" xN
 zQ:fZ K mg "_law_true_of_one" rR
 bh6:fZ K mg "_law_true" ah2
 bl6:fZ K mg "_law_lies" av1
 yZ:fZ K mg "_law_bounds_right" rB
 bs2:fZ K mg "_law_right" zW
 dy4:sS K mg "Ink" c_Ink "Saying.__init__" eD
 cl4:sS K mg "Reign" c_Reign "Saying.__init__" eD
 cm4:sS K mg "Under" c_Under "Saying.__init__" eD
 bd6:sS K mg "Between" c_Between "Saying.__init__" eD
 ch4:sS K mg "After" c_After "Saying.__init__" eD
 ck9:sS K mg "Same" c_Same "Saying.__init__" eD
 bp9:sS K mg "Within" c_Within "Saying.__init__" eD
 ci4:sS K mg "Apart" c_Apart "Saying.__init__" eD
 be6:sS K mg "Archive" c_Archive "Archive.__init__" lA
 am1:iF K c_Archive "table" "Archive.table" kC
 bp1:iF K c_Ink "about" "Saying.about" dL
 ay5:iF K c_Reign "about" "Saying.about" dL
 az5:iF K c_Under "about" "Saying.about" dL
 ag1:iF K c_Between "about" "Saying.about" dL
 ap5:iF K c_After "about" "Saying.about" dL
 ag8:iF K c_Same "about" "Saying.about" dL
 at3:iF K c_Within "about" "Saying.about" dL
 an5:iF K c_Apart "about" "Saying.about" dL
 bo1:iF K c_Ink "shown" "Saying.shown" dN
 ao5:iF K c_Reign "shown" "Saying.shown" dN
 ad6:iF K c_Under "shown" "Saying.shown" dN
 ad1:iF K c_Between "shown" "Saying.shown" dN
 aa6:iF K c_After "shown" "Saying.shown" dN
 ay7:iF K c_Same "shown" "Saying.shown" dN
 ao3:iF K c_Within "shown" "Saying.shown" dN
 av5:iF K c_Apart "shown" "Saying.shown" dN
 ad8:iF K c_Ink "bounds" "Saying.bounds" dA
 ak3:iF K c_Reign "bounds" "Saying.bounds" dA
 as3:iF K c_Under "bounds" "Saying.bounds" dA
 zS:iF K c_Between "bounds" "Saying.bounds" dA
 aa4:iF K c_After "bounds" "Saying.bounds" dA
 ab6:iF K c_Same "bounds" "Saying.bounds" dA
 ah1:iF K c_Within "bounds" "Saying.bounds" dA
 ar3:iF K c_Apart "bounds" "Saying.bounds" dA
 bn9:wQ w K mg "MAKERS" iI
 ac8:iI.lookup ("ink":Str)=mg "ink_saying"
 ay3:iI.lookup ("reign":Str)=mg "reign_saying"
 ah3:iI.lookup ("under":Str)=mg "under_saying"
 zU:iI.lookup ("between":Str)=mg "between_saying"
 aj3:iI.lookup ("after":Str)=mg "after_saying"
 al5:iI.lookup ("same":Str)=mg "same_saying"
 ai1:iI.lookup ("within":Str)=mg "within_saying"
 an3:iI.lookup ("apart":Str)=mg "apart_saying"
section
theorem l1{α:Type}:∀{us:List α},us.length=1->∃a,us=[a]
 |[a],_=>⟨a,rfl⟩
theorem l2{α:Type}:∀{us:List α},us.length=2->∃a b,us=[a,b]
 |[a,b],_=>⟨a,b,rfl⟩
theorem l3{α:Type}:∀{us:List α},us.length=3->∃a b c,us=[a,b,c]
 |[a,b,c],_=>⟨a,b,c,rfl⟩
theorem l4{α:Type}:∀{us:List α},us.length=4->∃a b c d,us=[a,b,c,d]
 |[a,b,c,d],_=>⟨a,b,c,d,rfl⟩
theorem l5{α:Type}:∀{us:List α},us.length=5->∃a b c d e,us=[a,b,c,d,e]
 |[a,b,c,d,e],_=>⟨a,b,c,d,e,rfl⟩
theorem l6{α:Type}:∀{us:List α},us.length=6->∃a b c d e f,us=[a,b,c,d,e,f]
 |[a,b,c,d,e,f],_=>⟨a,b,c,d,e,f,rfl⟩
variable {X : Cx}
theorem px(K:PySem.W.Frag){a b:Expr}{ta tb:TE}{pos:Pos}(ha:PE X a ta)(hb:PE X b tb)(hs:bn3 b:=by exact λ_ _=>rfl)(hK:X.K=K:=by rfl):PE X (.Subscript a b pos) (tOp (rIx K) ta tb):=de6 (di9 K hK) ha hb hs
theorem pz(i:Nat){x:Str}{e:Expr}{te:TE}{pos pos':Pos}{q:List Str}{c:Scope}(S:bF X.N q c)(he:PE X e te)(hi:X.N[i]?=some x:=by rfl)(hx:Loc X.env.scope x:=by first|exact .inl rfl|exact .inr rfl)(hs:swapsWith e (some (.Name x pos')) pos.line X.env=pure false:=by rfl)(hf:X.fn x=true\/X.env.scope.names.lookup x=some .local:=by first|exact .inl rfl|exact .inr rfl|assumption):PS X (.Assign [.Name x pos'] e pos) (af9 te (ao1 i)):=dt0 S.nd hi hx he hs hf
theorem pn(i:Nat){x:Str}{pos:Pos}{q:List Str}{c:Scope}(S:bF X.N q c)(hi:X.N[i]?=some x:=by rfl)(hx:Loc X.env.scope x:=by first|exact .inl rfl|exact .inr rfl)(hf:X.fn x=true\/X.env.scope.names.lookup x=some .local:=by first|exact .inl rfl|exact .inr rfl|assumption):PG X (.Name x pos) (ao1 i):=cb9 S.nd hi hx hf
theorem pf{k n:Nat}{x:Str}{ps:List Str}{sp:Sp}{p pos:Pos}{e:Expr}{es:List Expr}{t:TA}(d:fL X.prog X.w X.K X.mg X.base k x ps sp)(hr:Room n X.A)(ha:PA X (e::es) t)(hk:k<=n:=by decide)(hg:Gl X x:=by rfl)
 (hdb:(x==("__debug__":Str))=false:=by decide)(he:starEach (e::es) X.env=(false,eval e X.env)::starEach es X.env:=by rfl)(hpl:(backTo pos (starEach es X.env)).any (·.1)=false:=by rfl):PE X (.Call (.Name x p) (e::es) [] pos) (cm3 sp t):=dj0 d (hr.mono hk) ha hg hdb he hpl
theorem aN{e:Expr}{te:TE}(ha:PE X e te)(hs:starEach [e] X.env=[(false,eval e X.env)]:=by rfl):PA X [e] (tV te ap0):=aG ha vC hs
theorem pc{a b:Expr}{ta tb:TE}{pos:Pos}{op:CmpOp}{r:R2}(ho:OpR X (compareOp op) r)(ha:PE X a ta)(hb:PE X b tb)(h:op≠ .In:=by decide)(h2:op≠ .NotIn:=by decide):PT X (.Compare a [op] [b] pos) (ap8 (tOp r ta tb)):=uN ho ha hb (eE _ h h2)
theorem oe(K:PySem.W.Frag){k:Nat}(hr:Room k X.A)(hK:X.K=K:=by rfl):OpR X (compareOp .Eq) (bm5 K bZ):=dx4 K hr (by decide) hK
theorem pap(K:PySem.W.Frag){o e:Expr}{es:List Expr}{to:TE}{t:TA}{apos cpos:Pos}(ho:PE X o to)(ha:PA X (e::es) t)(hbase:attributeBase o "append" X.env (eval o X.env)=eval o X.env:=by rfl)
 (hfew:((backTo cpos (starEach (e::es) X.env)).all (λx=>!x.1)&&(backToKw cpos (keywordEach [] X.env)).all (λx=>x.1.isSome)
  &&decide ((e::es).length+([]:List Keyword).length+(if([]:List Keyword).isEmpty then 0 else 1)<30))=true:=by rfl)
 (hline:(apos.endLine==cpos.line)=true:=by rfl)(hs:starEach (e::es) X.env=(false,eval e X.env)::starEach es X.env:=by rfl)(hplain:(backTo cpos (starEach es X.env)).any (·.1)=false:=by rfl)(hK:X.K=K:=by rfl):
 PE X (.Call (.Attribute o "append" apos) (e::es) [] cpos) (tBM K "list" ar4 to t):=mQ K PySem.F.plainAttrs_list PySem.F.slot_list_append PySem.F.type_list_append bh8 ho ha hbase hfew hline hs hplain hK
theorem pm(ks:List Nat){tg iter elt:Expr}{ifs:List Expr}{scope:Scope}{pos:Pos}{wi:TI}{g:TG}{tc:TT}{te:TE}(hit:PI X tg iter wi)
 (hg:∀cl C s₀ H₀ ex,PG (mY X scope cl C s₀ H₀ ex) tg g)(hi:∀cl C s₀ H₀ ex,PIf (mY X scope cl C s₀ H₀ ex) ifs tc)(he:∀cl C s₀ H₀ ex,PE (mY X scope cl C s₀ H₀ ex) elt te)(S:CScope X ks scope:=by exact⟨rfl,by decide+kernel,by decide+kernel,by rfl,by rfl⟩)(hc:X.calm=true:=by rfl)
 (hs:∀x,foldedSetIterable iter X.env x=pure x:=by intro _;rfl):PE X (.ListComp elt [⟨tg,iter,ifs,0⟩] scope pos) (bf4 ks wi g tc te):=cq7 S hc hit hg hi he hs
theorem pk(i:Nat){y:Str}{py spos:Pos}{q:List Str}{c:Scope}(F:bF X.N q c)(ks:List Nat){tg iter elt:Expr}{ifs:List Expr}{scope:Scope}{pos:Pos}{wi:TI}{g:TG}{tc:TT}{te:TE}(hit:PI X tg iter wi)
 (hg:∀cl C s₀ H₀ ex,PG (mY X scope cl C s₀ H₀ ex) tg g)(hi:∀cl C s₀ H₀ ex,PIf (mY X scope cl C s₀ H₀ ex) ifs tc)(he:∀cl C s₀ H₀ ex,PE (mY X scope cl C s₀ H₀ ex) elt te)(hi':X.N[i]?=some y:=by rfl)(hy:Loc X.env.scope y:=by first|exact .inl rfl|exact .inr rfl)(S:CScope X ks scope:=by exact⟨rfl,by decide+kernel,by decide+kernel,by rfl,by rfl⟩)(hc:X.calm=true:=by rfl)
 (hsw:swapsWith (.ListComp elt [⟨tg,iter,ifs,0⟩] scope pos) (some (.Name y py)) spos.line X.env=pure true:=by rfl)
 (hs:∀x,foldedSetIterable iter X.env x=pure x:=by intro _;rfl)(hf:X.fn y=true\/X.env.scope.names.lookup y=some .local:=by first|exact .inl rfl|exact .inr rfl|assumption):PS X (.Assign [.Name y py] (.ListComp elt [⟨tg,iter,ifs,0⟩] scope pos) spos) (aj0 i ks wi g tc te):=bb6 F.nd hi' hy S hc hit hg hi he hsw hs hf
end
section
local macro_rules | `(tactic| walk_at "u") => `(tactic| (intro _ _ _ _ _ _ us hl; first | (obtain ⟨_, e⟩ := l1 hl; subst e; exact rfl) | (obtain ⟨_, _, e⟩ := l2 hl; subst e; exact rfl) | (obtain ⟨_, _, _, e⟩ := l3 hl; subst e; exact rfl) | (obtain ⟨_, _, _, _, e⟩ := l4 hl; subst e; exact rfl) | (obtain ⟨_, _, _, _, _, e⟩ := l5 hl; subst e; exact rfl) | (obtain ⟨_, _, _, _, _, _, e⟩ := l6 hl; subst e; exact rfl)))
local macro_rules | `(tactic| walk_at "s") => `(tactic| exact ⟨rfl, rfl, rfl, by decide +kernel, rfl, by decide +kernel, by decide +kernel⟩)
theorem gN:bF ["_law_cell","_law_place","_law_found","_law_rest","_law_turn","_law_upper","_law_lower"] ["_law_cell","_law_place"] (aM wX):=by walk_at "s"
theorem eY:bF ["_law_script","_law_found","_law_k","_law_cell","_law_power"] ["_law_script"] (aM oV):=by walk_at "s"
theorem aw2:bF ["_law_script","_law_place","_law_cell"] ["_law_script","_law_place"] (aM az6):=by walk_at "s"
theorem eO:bF ["_law_number","_law_many","_law_found","_law_rest","_law_k","_law_digits","_law_turn","_law_upper","_law_lower"] ["_law_number","_law_many"] (aM xP):=by walk_at "s"
theorem iO:bF ["_law_number","_law_many","_law_signs","_law_rest","_law_some","_law_size","_law_at","_law_k"] ["_law_number","_law_many"] (aM ae0):=by walk_at "s"
theorem lM:bF ["_law_number","_law_most","_law_xs","_law_dark","_law_found","_law_fall"] ["_law_number","_law_most"] (aM zY):=by walk_at "s"
theorem jY:bF ["_law_number","_law_first","_law_wide","_law_names_here","_law_xs","_law_found","_law_k","_law_begin"] ["_law_number","_law_first","_law_wide"] (aM xL):=by walk_at "s"
theorem iL:bF ["_law_script","_law_wide","_law_many","_law_xs","_law_first","_law_present","_law_letters","_law_inks","_law_k","_law_name","_law_reigns_here"] ["_law_script","_law_wide","_law_many"] (aM ad2):=by walk_at "s"
theorem bm2:bF ["some"] ["some"] (aM ay1):=by walk_at "s"
theorem ac1:bF ["some","low","high"] ["some","low","high"] (aM tK):=by walk_at "s"
theorem ao9:bF ["first","present"] ["first","present"] (aM ad0):=by walk_at "s"
theorem xA:bF ["word","signs","most","sign"] ["word","signs","most"] (aM yI):=by walk_at "s"
theorem bj5:bF ["word"] ["word"] (aM aa7):=by walk_at "s"
theorem yE:bF ["names","least","most","name"] ["names","least","most"] (aM ab0):=by walk_at "s"
theorem uB:bF ["some","dark","age"] ["some"] (aM as1):=by walk_at "s"
theorem nU:bF ["inks","name","table"] ["inks"] (aM av2):=by walk_at "s"
theorem bi2:bF ["begin","length"] ["begin","length"] (aM ai2):=by walk_at "s"
theorem jB:bF ["reigns","name","begin","length"] ["reigns"] (aM yD):=by walk_at "s"
theorem iY:bF ["self","first","present","letters","inks","reigns","name","table","begin","length"] ["self","first","present","letters","inks","reigns"] (aM lA):=by walk_at "s"
theorem dB:bF ["_law_base_here","_law_name","_law_xs","_law_first","_law_present","_law_letters","_law_inks","_law_reigns_here","_law_ink","_law_table_here","_law_real","_law_dark","_law_reign","_law_begin","_law_length","_law_low"] ["_law_base_here","_law_name","_law_xs"] (aM yH):=by walk_at "s"
theorem fJ:bF ["_law_base_here","_law_number","_law_far","_law_first","_law_present","_law_letters","_law_inks","_law_reigns_here","_law_xs","_law_a","_law_b","_law_low"] ["_law_base_here","_law_number","_law_far"] (aM yQ):=by walk_at "s"
theorem yS:bF ["archive","due","part","ink","reign"] ["archive","due","part"] (aM aw9):=by walk_at "s"
theorem vW:bF ["archive","word","parts","due","part"] ["archive","word","parts"] (aM ag6):=by walk_at "s"
theorem oK:bF ["self","name","other","table"] ["self","name"] (aM kC):=by walk_at "s"
theorem pP:bF ["table","dark","error","greatest","last","ages","most","age"] ["table","dark","error","greatest"] (aM af6):=by walk_at "s"
theorem ao6:bF ["parts","part"] ["parts"] (aM ax8):=by walk_at "s"
theorem dM:bF ["self","archive","word","parts","low","high","names","part","due","name"] ["self","archive","word","parts","low","high"] (aM eD):=by walk_at "s"
theorem xC:bF ["archive","parts","ages"] ["archive","parts"] (aM xK):=by walk_at "s"
theorem tN:bF ["archive","name","reign"] ["archive","name"] (aM uY):=by walk_at "s"
theorem au7:bF ["begin","length","k"] ["begin","length","k"] (aM yO):=by walk_at "s"
theorem pT:bF ["archive","parts","reign","year"] ["archive","parts"] (aM vO):=by walk_at "s"
theorem tU:bF ["archive","parts","reign"] ["archive","parts"] (aM uQ):=by walk_at "s"
theorem zO:bF ["archive","parts"] ["archive","parts"] (aM sV):=by walk_at "s"
theorem ax2:bF ["archive","parts"] ["archive","parts"] (aM vI):=by walk_at "s"
theorem ae4:bF ["archive","parts"] ["archive","parts"] (aM wZ):=by walk_at "s"
theorem ax0:bF ["archive","parts"] ["archive","parts"] (aM tJ):=by walk_at "s"
theorem at2:bF ["archive","parts"] ["archive","parts"] (aM vB):=by walk_at "s"
theorem bf1:bF ["archive","word","parts"] ["archive","word","parts"] (aM aa0):=by walk_at "s"
theorem mR:bF ["_law_saying_here","_law_word","_law_found","_law_some"] ["_law_saying_here","_law_word"] (aM zX):=by walk_at "s"
theorem gA:bF ["self"] ["self"] (aM dL):=by walk_at "s"
theorem fV:bF ["self"] ["self"] (aM dN):=by walk_at "s"
theorem fE:bF ["self"] ["self"] (aM dA):=by walk_at "s"
theorem wT:bF ["_law_bounds","_law_word","_law_bound"] ["_law_bounds","_law_word"] (aM xN):=by walk_at "s"
theorem bR:bF ["_law_base_here","_law_words","_law_year","_law_first","_law_present","_law_letters","_law_inks","_law_reigns_here","_law_table_here","_law_age","_law_dark","_law_begin","_law_length","_law_name","_law_some"] ["_law_base_here","_law_words","_law_year"] (aM rR):=by walk_at "s"
theorem qR:bF ["_law_base_here","_law_words","_law_years","_law_letters","_law_one","_law_other"] ["_law_base_here","_law_words","_law_years"] (aM ah2):=by walk_at "s"
theorem be2:bF ["_law_bounds","_law_number"] ["_law_bounds","_law_number"] (aM av1):=by walk_at "s"
theorem cE:bF ["_law_base_here","_law_words","_law_bounds","_law_first","_law_present","_law_letters","_law_inks","_law_reigns_here","_law_years","_law_at","_law_year","_law_begin","_law_length","_law_gap","_law_reign"] ["_law_base_here","_law_words","_law_bounds"] (aM rB):=by walk_at "s"
theorem gE:bF ["_law_base_here","_law_archive","_law_words","_law_parts","_law_saying_here","_law_names_here","_law_due","_law_k","_law_told","_law_part","_law_letter","_law_word"] ["_law_base_here","_law_archive","_law_words"] (aM zW):=by walk_at "s"
theorem lD:bF ["_law_script","_law_base_here","_law_first","_law_present","_law_letters","_law_inks","_law_reigns_here","_law_archive","_law_far","_law_cell","_law_name","_law_table_here"] ["_law_script"] (aM rW):=by walk_at "s"
variable {P : Program} {w : World} {K : PySem.W.Frag} {cn : Str → Option Addr} {mg : Str → Option Value} {base : Heap} {c_Ink c_Reign c_Under c_Between c_After c_Same c_Within c_Apart c_Archive c_Saying : Addr} {oQ sO iI : List (Str × Value)} (T : Txt w K cn mg c_Ink c_Reign c_Under c_Between c_After c_Same c_Within c_Apart c_Archive c_Saying oQ sO iI)
include T
theorem cq0:kG K cn ["Archive"] "first":=bH T.lX T.nO T.af1 (jH)
theorem cs7:kG K cn ["Ink","Reign","Under","Between","After","Same","Within","Apart"] "high":=bH T.iX T.jE T.bx2 (bH T.fI T.fR T.an8 (bH T.fF T.fS T.ai8 (bH T.dP T.eC T.aq3 (bH T.fG T.fU T.ak8 (bH T.gP T.gW T.bt1 (bH T.eM T.eS T.ar5 (bH T.fH T.fT T.am8 (jH))))))))
theorem ck7:kG K cn ["Archive"] "inks":=bH T.lX T.nO T.av3 (jH)
theorem bc5:kG K cn ["Archive"] "letters":=bH T.lX T.nO T.zF (jH)
theorem dq0:kG K cn ["Ink","Reign","Under","Between","After","Same","Within","Apart"] "low":=bH T.iX T.jE T.bk6 (bH T.fI T.fR T.bn1 (bH T.fF T.fS T.br1 (bH T.dP T.eC T.as5 (bH T.fG T.fU T.bi1 (bH T.gP T.gW T.bp2 (bH T.eM T.eS T.ab8 (bH T.fH T.fT T.bv1 (jH))))))))
theorem bc6:kG K cn ["Archive"] "present":=bH T.lX T.nO T.yY (jH)
theorem bk8:kG K cn ["Archive"] "reigns":=bH T.lX T.nO T.zR (jH)
theorem bm7:kG K cn ["Ink","Reign","Under","Between","After","Same","Within","Apart"] "spoken":=bH T.iX T.jE T.al8 (bH T.fI T.fR T.az3 (bH T.fF T.fS T.ai3 (bH T.dP T.eC T.zT (bH T.fG T.fU T.au3 (bH T.gP T.gW T.au5 (bH T.eM T.eS T.aj1 (bH T.fH T.fT T.ax3 (jH))))))))
theorem cw6:kG K cn ["Ink","Reign","Under","Between","After","Same","Within","Apart"] "text":=bH T.iX T.jE T.bo2 (bH T.fI T.fR T.aa8 (bH T.fF T.fS T.ae8 (bH T.dP T.eC T.am3 (bH T.fG T.fU T.af8 (bH T.gP T.gW T.bs1 (bH T.eM T.eS T.ax5 (bH T.fH T.fT T.aj8 (jH))))))))
theorem bp8:∀q∈[(c_Ink,true),(c_Reign,true),(c_Under,true),(c_Between,true),(c_After,true),(c_Same,true),(c_Within,true),(c_Apart,true)],uT K q.1 c_Saying q.2:=aQ T.jE T.ic_Ink T.kk_Ink_Saying (aQ T.fR T.ic_Reign T.kk_Reign_Saying (aQ T.fS T.ic_Under T.kk_Under_Saying (aQ T.eC T.ic_Between T.kk_Between_Saying (aQ T.fU T.ic_After T.kk_After_Saying (aQ T.gW T.ic_Same T.kk_Same_Saying (aQ T.eS T.ic_Within T.kk_Within_Saying (aQ T.fT T.ic_Apart T.kk_Apart_Saying (lU))))))))
theorem bu7:qF cn ki_Saying [(c_Ink,true),(c_Reign,true),(c_Under,true),(c_Between,true),(c_After,true),(c_Same,true),(c_Within,true),(c_Apart,true)]:=aR T.iX (aR T.fI (aR T.fF (aR T.dP (aR T.fG (aR T.gP (aR T.eM (aR T.fH (lW))))))))
theorem dq1:∀q∈[(c_Ink,true),(c_Reign,false),(c_Under,false),(c_Between,false),(c_After,false),(c_Same,false),(c_Within,false),(c_Apart,false)],uT K q.1 c_Ink q.2:=aQ T.jE T.ic_Ink T.kk_Ink_Ink (aQ T.fR T.ic_Reign T.kk_Reign_Ink (aQ T.fS T.ic_Under T.kk_Under_Ink (aQ T.eC T.ic_Between T.kk_Between_Ink (aQ T.fU T.ic_After T.kk_After_Ink (aQ T.gW T.ic_Same T.kk_Same_Ink (aQ T.eS T.ic_Within T.kk_Within_Ink (aQ T.fT T.ic_Apart T.kk_Apart_Ink (lU))))))))
theorem do4:qF cn ki_Ink [(c_Ink,true),(c_Reign,false),(c_Under,false),(c_Between,false),(c_After,false),(c_Same,false),(c_Within,false),(c_Apart,false)]:=aR T.iX (aR T.fI (aR T.fF (aR T.dP (aR T.fG (aR T.gP (aR T.eM (aR T.fH (lW))))))))
theorem cs2:∀q∈[(c_Ink,false),(c_Reign,true),(c_Under,false),(c_Between,false),(c_After,false),(c_Same,false),(c_Within,false),(c_Apart,false)],uT K q.1 c_Reign q.2:=aQ T.jE T.ic_Ink T.kk_Ink_Reign (aQ T.fR T.ic_Reign T.kk_Reign_Reign (aQ T.fS T.ic_Under T.kk_Under_Reign (aQ T.eC T.ic_Between T.kk_Between_Reign (aQ T.fU T.ic_After T.kk_After_Reign (aQ T.gW T.ic_Same T.kk_Same_Reign (aQ T.eS T.ic_Within T.kk_Within_Reign (aQ T.fT T.ic_Apart T.kk_Apart_Reign (lU))))))))
theorem cs3:qF cn ki_Reign [(c_Ink,false),(c_Reign,true),(c_Under,false),(c_Between,false),(c_After,false),(c_Same,false),(c_Within,false),(c_Apart,false)]:=aR T.iX (aR T.fI (aR T.fF (aR T.dP (aR T.fG (aR T.gP (aR T.eM (aR T.fH (lW))))))))
theorem cg4:∀q∈[(c_Ink,false),(c_Reign,false),(c_Under,true),(c_Between,false),(c_After,false),(c_Same,false),(c_Within,false),(c_Apart,false)],uT K q.1 c_Under q.2:=aQ T.jE T.ic_Ink T.kk_Ink_Under (aQ T.fR T.ic_Reign T.kk_Reign_Under (aQ T.fS T.ic_Under T.kk_Under_Under (aQ T.eC T.ic_Between T.kk_Between_Under (aQ T.fU T.ic_After T.kk_After_Under (aQ T.gW T.ic_Same T.kk_Same_Under (aQ T.eS T.ic_Within T.kk_Within_Under (aQ T.fT T.ic_Apart T.kk_Apart_Under (lU))))))))
theorem cy2:qF cn ki_Under [(c_Ink,false),(c_Reign,false),(c_Under,true),(c_Between,false),(c_After,false),(c_Same,false),(c_Within,false),(c_Apart,false)]:=aR T.iX (aR T.fI (aR T.fF (aR T.dP (aR T.fG (aR T.gP (aR T.eM (aR T.fH (lW))))))))
theorem bp4:∀q∈[(c_Ink,false),(c_Reign,false),(c_Under,false),(c_Between,true),(c_After,false),(c_Same,false),(c_Within,false),(c_Apart,false)],uT K q.1 c_Between q.2:=aQ T.jE T.ic_Ink T.kk_Ink_Between (aQ T.fR T.ic_Reign T.kk_Reign_Between (aQ T.fS T.ic_Under T.kk_Under_Between (aQ T.eC T.ic_Between T.kk_Between_Between (aQ T.fU T.ic_After T.kk_After_Between (aQ T.gW T.ic_Same T.kk_Same_Between (aQ T.eS T.ic_Within T.kk_Within_Between (aQ T.fT T.ic_Apart T.kk_Apart_Between (lU))))))))
theorem br5:qF cn ki_Between [(c_Ink,false),(c_Reign,false),(c_Under,false),(c_Between,true),(c_After,false),(c_Same,false),(c_Within,false),(c_Apart,false)]:=aR T.iX (aR T.fI (aR T.fF (aR T.dP (aR T.fG (aR T.gP (aR T.eM (aR T.fH (lW))))))))
theorem cr3:∀q∈[(c_Ink,false),(c_Reign,false),(c_Under,false),(c_Between,false),(c_After,true),(c_Same,false),(c_Within,false),(c_Apart,false)],uT K q.1 c_After q.2:=aQ T.jE T.ic_Ink T.kk_Ink_After (aQ T.fR T.ic_Reign T.kk_Reign_After (aQ T.fS T.ic_Under T.kk_Under_After (aQ T.eC T.ic_Between T.kk_Between_After (aQ T.fU T.ic_After T.kk_After_After (aQ T.gW T.ic_Same T.kk_Same_After (aQ T.eS T.ic_Within T.kk_Within_After (aQ T.fT T.ic_Apart T.kk_Apart_After (lU))))))))
theorem cv2:qF cn ki_After [(c_Ink,false),(c_Reign,false),(c_Under,false),(c_Between,false),(c_After,true),(c_Same,false),(c_Within,false),(c_Apart,false)]:=aR T.iX (aR T.fI (aR T.fF (aR T.dP (aR T.fG (aR T.gP (aR T.eM (aR T.fH (lW))))))))
theorem ci8:∀q∈[(c_Ink,false),(c_Reign,false),(c_Under,false),(c_Between,false),(c_After,false),(c_Same,true),(c_Within,false),(c_Apart,false)],uT K q.1 c_Same q.2:=aQ T.jE T.ic_Ink T.kk_Ink_Same (aQ T.fR T.ic_Reign T.kk_Reign_Same (aQ T.fS T.ic_Under T.kk_Under_Same (aQ T.eC T.ic_Between T.kk_Between_Same (aQ T.fU T.ic_After T.kk_After_Same (aQ T.gW T.ic_Same T.kk_Same_Same (aQ T.eS T.ic_Within T.kk_Within_Same (aQ T.fT T.ic_Apart T.kk_Apart_Same (lU))))))))
theorem cj7:qF cn ki_Same [(c_Ink,false),(c_Reign,false),(c_Under,false),(c_Between,false),(c_After,false),(c_Same,true),(c_Within,false),(c_Apart,false)]:=aR T.iX (aR T.fI (aR T.fF (aR T.dP (aR T.fG (aR T.gP (aR T.eM (aR T.fH (lW))))))))
theorem bs8:∀q∈[(c_Ink,false),(c_Reign,false),(c_Under,false),(c_Between,false),(c_After,false),(c_Same,false),(c_Within,true),(c_Apart,false)],uT K q.1 c_Within q.2:=aQ T.jE T.ic_Ink T.kk_Ink_Within (aQ T.fR T.ic_Reign T.kk_Reign_Within (aQ T.fS T.ic_Under T.kk_Under_Within (aQ T.eC T.ic_Between T.kk_Between_Within (aQ T.fU T.ic_After T.kk_After_Within (aQ T.gW T.ic_Same T.kk_Same_Within (aQ T.eS T.ic_Within T.kk_Within_Within (aQ T.fT T.ic_Apart T.kk_Apart_Within (lU))))))))
theorem be8:qF cn ki_Within [(c_Ink,false),(c_Reign,false),(c_Under,false),(c_Between,false),(c_After,false),(c_Same,false),(c_Within,true),(c_Apart,false)]:=aR T.iX (aR T.fI (aR T.fF (aR T.dP (aR T.fG (aR T.gP (aR T.eM (aR T.fH (lW))))))))
theorem cp0:∀q∈[(c_Ink,false),(c_Reign,false),(c_Under,false),(c_Between,false),(c_After,false),(c_Same,false),(c_Within,false),(c_Apart,true)],uT K q.1 c_Apart q.2:=aQ T.jE T.ic_Ink T.kk_Ink_Apart (aQ T.fR T.ic_Reign T.kk_Reign_Apart (aQ T.fS T.ic_Under T.kk_Under_Apart (aQ T.eC T.ic_Between T.kk_Between_Apart (aQ T.fU T.ic_After T.kk_After_Apart (aQ T.gW T.ic_Same T.kk_Same_Apart (aQ T.eS T.ic_Within T.kk_Within_Apart (aQ T.fT T.ic_Apart T.kk_Apart_Apart (lU))))))))
theorem ce0:qF cn ki_Apart [(c_Ink,false),(c_Reign,false),(c_Under,false),(c_Between,false),(c_After,false),(c_Same,false),(c_Within,false),(c_Apart,true)]:=aR T.iX (aR T.fI (aR T.fF (aR T.dP (aR T.fG (aR T.gP (aR T.eM (aR T.fH (lW))))))))
theorem cf3:xW K cn 2 tm_table [(c_Archive,bK K cn 2 fW)]:=cL T.lX (vR)
theorem cp2:xW K cn 1 tm_about [(c_Ink,bK K cn 1 aY),(c_Reign,bK K cn 1 aY),(c_Under,bK K cn 1 aY),(c_Between,bK K cn 1 aY),(c_After,bK K cn 1 aY),(c_Same,bK K cn 1 aY),(c_Within,bK K cn 1 aY),(c_Apart,bK K cn 1 aY)]:=cL T.iX (cL T.fI (cL T.fF (cL T.dP (cL T.fG (cL T.gP (cL T.eM (cL T.fH (vR))))))))
theorem co1:xW K cn 1 tm_shown [(c_Ink,bK K cn 1 aX),(c_Reign,bK K cn 1 aX),(c_Under,bK K cn 1 aX),(c_Between,bK K cn 1 aX),(c_After,bK K cn 1 aX),(c_Same,bK K cn 1 aX),(c_Within,bK K cn 1 aX),(c_Apart,bK K cn 1 aX)]:=cL T.iX (cL T.fI (cL T.fF (cL T.dP (cL T.fG (cL T.gP (cL T.eM (cL T.fH (vR))))))))
theorem bx7:xW K cn 1 tm_bounds [(c_Ink,bK K cn 1 aT),(c_Reign,bK K cn 1 aT),(c_Under,bK K cn 1 aT),(c_Between,bK K cn 1 aT),(c_After,bK K cn 1 aT),(c_Same,bK K cn 1 aT),(c_Within,bK K cn 1 aT),(c_Apart,bK K cn 1 aT)]:=cL T.iX (cL T.fI (cL T.fF (cL T.dP (cL T.fG (cL T.gP (cL T.eM (cL T.fH (vR))))))))
local macro_rules | `(tactic| walk_at "b") => `(tactic| first | exact .inl rfl | exact .inr rfl)
local macro_rules | `(tactic| walk_at "rr") => `(tactic| first | exact db6 | exact dn6 | exact di7 | exact dd1 | exact dn9 | exact dx9 | exact dg6 | exact dc9 | exact dl8 | exact cj9 | exact dr9 | exact do7 | exact dm9 | exact dw9 | exact dz1)
local macro_rules | `(tactic| walk_at "rc") => `(tactic| first | exact da7 | exact dp3 | exact dd5 | exact dm6 | exact dy6 | exact de0 | exact dz5 | exact cj0 | exact cy3 | exact dl3 | exact dq5)
local macro_rules | `(tactic| walk_at "rf") => `(tactic| first | exact cq0 ‹_› | exact cs7 ‹_› | exact ck7 ‹_› | exact bc5 ‹_› | exact dq0 ‹_› | exact bc6 ‹_› | exact bk8 ‹_› | exact bm7 ‹_› | exact cw6 ‹_›)
local macro_rules | `(tactic| walk_at "r") => `(tactic| with_reducible first
 | exact dk3 _
 | exact du2
 | exact ce8
 | (refine db5 ?_ ?_ <;> walk_at "r")
 | (refine dv1 ?_ ?_; walk_at "rf"; walk_at "r")
 | (refine RE.rb (mv := []) ?_; walk_at "r")
 | (refine ch3 ?_ ?_ <;> walk_at "r")
 | (refine dn7 ?_ ?_ ?_; walk_at "rr"; walk_at "r"; walk_at "r")
 | (apply dx5; walk_at "r"; walk_at "r"; with_unfolding_all exact rfl; with_unfolding_all exact rfl)
 | exact df4
 | exact db4
 | (refine RB.chk ?_; walk_at "r")
 | (refine df3 ?_ ?_ <;> walk_at "r")
 | (refine bm4 ?_ ?_ ?_ ?_ ?_ ?_; walk_at "r"; walk_at "r"; walk_at "r"; walk_at "r"; with_unfolding_all exact rfl; with_unfolding_all exact rfl)
 | (apply bh7 <;> walk_at "r")
 | (refine bb4 _ ?_; with_unfolding_all exact rfl)
 | (refine dg4 ?_; walk_at "r")
 | (refine dh8 ?_ ?_; walk_at "rc"; walk_at "r")
 | (refine dd0 ?_; walk_at "r")
 | (refine ds8 ?_ ?_ ?_ <;> walk_at "r")
 | exact co7
 | exact cd6
 | exact do3
 | exact cq9
 | exact dq6
 | exact dx7
 | (refine bq3 ?_; walk_at "r")
 | (refine dj2 ?_; walk_at "r")
 | (refine dg0 ?_; walk_at "r")
 | (refine dj3 ?_ ?_ <;> walk_at "r")
 | (refine da6 ?_ ?_ <;> walk_at "r")
 | (apply dy1; walk_at "r")
 | (apply cn9; walk_at "r")
 | exact dp7 _
 | (apply dk1; walk_at "r")
 | exact ct6
 | (apply co9; walk_at "r"; walk_at "r"; with_unfolding_all exact rfl)
 | (apply dl4 <;> walk_at "r")
 | (refine cb3 ?_ ?_ <;> walk_at "r")
 | (refine cz7 ?_; walk_at "r")
 | (refine dv9 ?_; walk_at "r")
 | (refine dz9 ?_; walk_at "r")
 | (refine cv7 ?_; walk_at "r")
 | (refine cp9 ?_; walk_at "r")
 | exact du4 _
 | (refine dt1 ?_ ?_ ?_; walk_at "r"; walk_at "r"; with_unfolding_all exact rfl)
 | (refine dk4 ?_ ?_ ?_; walk_at "rf"; walk_at "r"; walk_at "r")
 | (refine dp0 ?_ ?_ ?_ <;> walk_at "r")
 | (refine be3 ?_ ?_ ?_ ?_ ?_; walk_at "r"; walk_at "r"; walk_at "r"; walk_at "r"; with_unfolding_all exact rfl)
 | (refine dh5 dq9 ?_ ?_ ?_ <;> walk_at "r")
 | exact cv6
 | (refine cu6 ?_; walk_at "r")
 | (refine dp8 dz4 ?_; walk_at "r")
 | (refine cf2 ?_ ?_ ?_ ?_ ?_; walk_at "rr"; walk_at "rr"; walk_at "r"; walk_at "r"; walk_at "r")
 | (refine cf6 ?_ ?_ <;> walk_at "r")
 | (refine do1 ?_ ?_ <;> walk_at "r")
 | (refine cm8 ?_; walk_at "r")
 | (refine dd6 ?_ ?_ ?_ <;> walk_at "r")
 | (refine RE.frz ?_; walk_at "r")
 | (refine cb1 ?_ ?_ ?_; (first | exact cp2 ‹_› | exact bx7 ‹_› | exact co1 ‹_› | exact cf3 ‹_›); walk_at "r"; walk_at "r")
 | (refine cc6 ?_ ?_; (first | exact Txt.fG ‹_› | exact Txt.fH ‹_› | exact Txt.lX ‹_› | exact Txt.dP ‹_› | exact Txt.iX ‹_› | exact Txt.fI ‹_› | exact Txt.gP ‹_› | exact Txt.fF ‹_› | exact Txt.eM ‹_›); walk_at "r")
 | (refine cu7 ?_ ?_; (first | exact Txt.g_NUMBERS ‹_› | exact Txt.g_PARTS ‹_›); walk_at "r")
 | (refine ch7 ?_ ?_; (first | exact Txt.g_NUMBERS ‹_› | exact Txt.g_PARTS ‹_›); walk_at "r")
 | (refine be4 aq6 cw7 ?_ ?_ <;> walk_at "r")
 | (refine be4 bc9 da4 ?_ ?_ <;> walk_at "r")
 | (refine be4 aq6 cp7 ?_ ?_ <;> walk_at "r")
 | (refine cq8 ?_ ?_; (first | exact cv2 ‹_› | exact ce0 ‹_› | exact br5 ‹_› | exact do4 ‹_› | exact cs3 ‹_› | exact cj7 ‹_› | exact bu7 ‹_› | exact cy2 ‹_› | exact be8 ‹_›); walk_at "r")
 | (with_unfolding_all refine bq3 ?_; walk_at "r")
 | (refine ck3 ?_ ?_ <;> walk_at "r"))
theorem al7:fL P w K mg base 1 "_law_stirred" ["_law_cell","_law_place"] (bK K cn 2 oC):=by
 refine bO (d:=oB) T.ah8 gN (by walk_at "u") (λf cdv A outer s H E hr=>⟨_,(aH (pz 2 gN aF)
 (aH (pz 3 gN (aK (bB K) (aK bN (aK (bB K) (aK bN (pv 0) aF) (aK fM aF (pv 1))) aF) aF))
 (aH (kK PassesOwn.never rfl (jM rfl T.jQ (aN aF)) (pn 4 gN) (aH (kD (aU (tF K) rfl T.ak1 xR (aG (pv 3) (aN aF))) (dX K 2 rfl (aW (pn 5 gN) (aW (pn 6 gN) dW))))
 (aH (pz 3 gN (aK bN (aK (bB K) (aK (bB K) (aK (bB K) (aK fM (pv 6) aF) (aK fM (pv 5) aF)) (aK fM aF (pv 4))) aF) aF))
 (aL (pz 2 gN (aK (bB K) (aK fM (pv 2) aF) (pv 3)))))))
 (aL (aV (pv 2)))))),by unfold oB;walk_at "r"⟩) rfl (λ_=>rfl)
theorem vV:fL P w K mg base 2 "_law_stirred_script" ["_law_script"] (bK K cn 1 jI):=by
 refine bO (d:=jG) T.wS eY (by walk_at "u") (λf cdv A outer s H E hr=>⟨_,(aH (pz 1 eY (cI vC))
 (aH (kK PassesOwn.never rfl (jM rfl T.jQ (aN (aU (oM K) rfl T.zN vG (aG (aU (cF K) rfl T.eX dY (aN (pv 0))) (aN aF))))) (pn 2 eY) (aH (pz 3 eY (aU (rC K) rfl T.ap3 xF (aN (px K (pv 0) (pv 2)))))
 (aH (pz 4 eY aF)
 (aH (by0 PassesOwn.never (pc gQ (pv 4) (pv 3)) (aL (pz 4 eY (aK fM (pv 4) (aK vF aF aF)))))
 (aL (mH (pap K (pv 1) (aN (aK (bB K) (pv 3) (aK fM (pv 4) (pf (al7 T:) hr (aG (pv 3) (aN (pv 2))))))))))))))
 (aL (aV (pv 1))))),by unfold jG;walk_at "r"⟩) rfl (λ_=>rfl)
theorem yM:fL P w K mg base 1 "_law_got" ["_law_script","_law_place"] (bK K cn 2 oO):=by
 refine bO (d:=tL) T.bo9 aw2 (by walk_at "u") (λf cdv A outer s H E hr=>⟨_,(aH (kK PassesOwn.never rfl (iW K (kT (tZ K) (pv 0) (jO (pv 1)) (jO (aK (bB K) (pv 1) aF)))) (pn 2 aw2) (aL (aV (aU (rC K) rfl T.ap3 xF (aN (pv 2))))))
 (aL (aV aF))),by unfold tL;walk_at "r"⟩) rfl (λ_=>rfl)
theorem mT:fL P w K mg base 1 "_law_spread" ["_law_number","_law_many"] (bK K cn 2 eP):=by
 refine bO (d:=pO) T.bw1 eO (by walk_at "u") (λf cdv A outer s H E hr=>⟨_,(aH (pz 2 eO (cI vC))
 (aH (pz 3 eO (aK jP (pv 0) aF))
 (aH (kK PassesOwn.never rfl (jM rfl T.jQ (aN (aK fM (pv 1) (aK cT aF (aK bN (pv 0) aF))))) (pn 4 eO) (aH (kD (aU (tF K) rfl T.ak1 xR (aG (pv 3) (aN (aK vF aF aF)))) (dX K 2 rfl (aW (pn 3 eO) (aW (pn 5 eO) dW))))
 (aL (mH (pap K (pv 2) (aN (pv 5)))))))
 (aH (pz 3 eO (aK (bB K) (aK bN (pv 3) aF) aF))
 (aH (by0 PassesOwn.never (pc ag3 (aU (cF K) rfl T.eX dY (aN (pv 2))) (pv 1)) (aH (kK PassesOwn.never rfl (jM rfl T.jQ (aN aF)) (pn 6 eO) (aH (kD (aU (tF K) rfl T.ak1 xR (aG (pv 3) (aN aF))) (dX K 2 rfl (aW (pn 7 eO) (aW (pn 8 eO) dW))))
 (aL (pz 3 eO (aK bN (aK (bB K) (aK (bB K) (aK (bB K) (aK fM (pv 8) aF) (aK fM (pv 7) aF)) (aK fM aF (aU (cF K) rfl T.eX dY (aN (pv 2))))) aF) aF)))))
 (aL (mH (pap K (pv 2) (aN (aK jP (pv 3) aF)))))))
 (aL (aV (pv 2)))))))),by unfold pO;walk_at "r"⟩) rfl (λ_=>rfl)
theorem bf2:fL P w K mg base 1 "_law_names" ["_law_number","_law_many"] (bK K cn 2 qZ):=by
 refine bO (d:=qM) T.br2 iO (by walk_at "u") (λf cdv A outer s H E hr=>⟨_,(aH (pz 2 iO bC)
 (aH (pz 3 iO (aK jP (pv 0) aF))
 (aH (bW (pc (oe K hr) (aK bN (pv 0) aF) aF) (aL (aV (pm [7] (jM rfl T.jQ (aN (pv 1))) (λ_ _ _ _ _=>(pn 7 iO)) (λ_ _ _ _ _=>eZ) (λ_ _ _ _ _=>(aK fM (px K (pv 2) (aK bN (pv 3) aF)) (aK (bB K) (pv 7) aF)))))) bJ)
 (aH (bW (pc (oe K hr) (aK bN (pv 0) aF) aF) (aH (pz 4 iO (cI (aG bC (aG bC (aG bC (aG bC (aG bC (aG bC (aG bC (aN bC))))))))))
 (aL (aV (kT (tZ K) (aK (bB K) (kT (tZ K) (pv 4) (jO (aK bN (pv 3) aF)) qE) (kT (tZ K) (pv 4) qE (jO (aK bN (pv 3) aF)))) qE (jO (pv 1)))))) bJ)
 (aH (pz 5 iO (aK (bB K) aF (aK bN (pv 3) aF)))
 (aH (pz 6 iO (aK bN (aK jP (pv 3) aF) (pv 5)))
 (aL (aV (pm [7] (jM rfl T.jQ (aN (pv 1))) (λ_ _ _ _ _=>(pn 7 iO)) (λ_ _ _ _ _=>eZ) (λ_ _ _ _ _=>(aK (bB K) (aK (bB K) (aK fM bC (pv 6)) (px K (pv 2) (aK bN (aK (bB K) (aK jP (pv 3) aF) (pv 7)) aF))) (aK fM bC (aK cT (aK cT (pv 5) aF) (pv 6)))))))))))))),by unfold qM;walk_at "r"⟩) rfl (λ_=>rfl)
theorem bk2:fL P w K mg base 2 "_law_table" ["_law_number","_law_most"] (bK K cn 2 qN):=by
 refine bO (d:=qV) T.bv2 lM (by walk_at "u") (λf cdv A outer s H E hr=>⟨_,(aH (pz 2 lM (pf (mT T:) hr (aG (pv 0) (aN aF))))
 (aH (pz 3 lM (px K (cI (aG (aK vF aF aF) (aG aF (aN (aK bN (px K (pv 2) aF) (aK (bB K) (aK vF aF aF) aF)))))) (aK bN (px K (pv 2) aF) aF)))
 (aH (pz 4 lM (cI vC))
 (aH (kK PassesOwn.never rfl (iW K (pf (mT T:) hr (aG (aK jP (pv 0) aF) (aN (aK (bB K) aF (aK bN (px K (pv 2) aF) (pv 1))))))) (pn 5 lM) (aH (mH (pap K (pv 4) (aN (pv 3))))
 (aL (pz 3 lM (aU (ae6 K) rfl T.cy5 bg8 (aG aF (aN (aK cT (pv 3) (aK bN (pv 5) (px K (cI (aG aF (aG aF (aG aF (aG aF (aN (aK (bB K) (aK vF aF aF) aF))))))) (aK bN (px K (pv 2) aF) aF)))))))))))
 (aL (aV (pv 4))))))),by unfold qV;walk_at "r"⟩) rfl (λ_=>rfl)
theorem al9:fL P w K mg base 2 "_law_reigns" ["_law_number","_law_first","_law_wide"] (bK K cn 3 pU):=by
 refine bO (d:=pD) T.bu1 jY (by walk_at "u") (λf cdv A outer s H E hr=>⟨_,(aH (pz 3 jY (cI (aG bC (aG bC (aG bC (aG bC (aG bC (aN bC))))))))
 (aH (pz 4 jY (pf (mT T:) hr (aG (pv 0) (aN aF))))
 (aH (pz 5 jY (cI vC))
 (aH (kK PassesOwn.never rfl (jM rfl T.jQ (aN (px K (cI (aG aF (aG aF (aN (aK bN (pv 0) aF))))) (aK bN (pv 0) aF)))) (pn 6 jY) (aH (pz 7 jY (aK (bB K) (aK cT (pv 1) aF) (aK bN (px K (pv 4) (aK fM aF (pv 6))) (aK (bB K) (pv 2) aF))))
 (aL (mH (pap K (pv 5) (aN (kN (aG (px K (pv 3) (pv 6)) (aG (pv 7) (aN (aK (bB K) aF (aK bN (px K (pv 4) (aK (bB K) (aK fM aF (pv 6)) aF)) (px K (cI (aG aF (aN aF))) (aK bN (px K (pv 4) (aK (bB K) (aK fM aF (pv 6)) aF)) aF))))))))))))))
 (aL (aV (pv 5))))))),by unfold pD;walk_at "r"⟩) rfl (λ_=>rfl)
theorem bd5:fL P w K mg base 3 "_law_base" ["_law_script","_law_wide","_law_many"] (bK K cn 3 sF):=by
 refine bO (d:=rY) T.bg6 iL (by walk_at "u") (λf cdv A outer s H E hr=>⟨_,(aH (pz 3 iL (pf (mT T:) hr (aG (aK jP (pf (yM T:) hr (aG (pv 0) (aN aF))) aF) (aN aF))))
 (aH (pz 4 iL (px K (cI (aG (aK cT (aK bN (px K (pv 3) aF) (aK cT aF (pv 1))) aF) (aG (vS sY aF) (aN (aK cT aF (pv 1)))))) (aK bN (px K (pv 3) aF) aF)))
 (aH (pz 5 iL (aK (bB K) (pv 4) (px K (cI (aG (aK bN (px K (pv 3) aF) (aK (bB K) (pv 1) aF)) (aN (pv 1)))) (aK bN (aK jP (px K (pv 3) aF) aF) aF))))
 (aH (pz 6 iL (pf (bf2 T:) hr (aG (px K (pv 3) aF) (aN (aK (bB K) aF (aK bN (px K (pv 3) aF) (pv 2)))))))
 (aH (pz 7 iL (cI vC))
 (aH (kK PassesOwn.never rfl (jM rfl T.jQ (aN (px K (cI (aG (aK (bB K) aF (aK bN (px K (pv 3) aF) aF)) (aN aF))) (aK jP (aK bN (px K (pv 3) aF) aF) aF)))) (pn 8 iL) (aH (pz 9 iL (px K (cI (aG bC (aG bC (aG bC (aG bC (aN bC)))))) (pv 8)))
 (aL (mH (pap K (pv 7) (aN (kN (aG (pv 9) (aN (pf (bk2 T:) hr (aG (aK (bB K) (px K (pv 3) (aK (bB K) aF (aK bN (pv 8) aF))) (aK fM aF (aK jP (pv 8) aF))) (aN (px K (cI (aG aF (aN aF))) (aK bN (aK jP (px K (pv 3) aF) aF) aF))))))))))))))
 (aH (pz 10 iL (aK (bB K) (cI (aN (kN (aG bC (aG (aK (bB K) (aK cT (pv 4) aF) (aK bN (px K (pv 3) aF) aF)) (aN (aK (bB K) aF (aK bN (px K (pv 3) aF) aF)))))))) (pf (al9 T:) hr (aG (px K (pv 3) aF) (aG (pv 4) (aN (pv 1)))))))
 (aH (mH (pap K (pv 10) (aN (kN (aG bC (aG (aU (oM K) rfl T.zN vG (aG aF (aN (aK (bB K) (pv 4) (aK bN (px K (pv 3) aF) (aK (bB K) (pv 1) aF)))))) (aN (aK (bB K) aF (aK bN (px K (pv 3) aF) aF)))))))))
 (aL (aV (kN (aG (pv 4) (aG (pv 5) (aG (pv 6) (aG (pv 7) (aN (pv 10))))))))))))))))),by unfold rY;walk_at "r"⟩) rfl (λ_=>rfl)
theorem bf5:fL P w K mg base 1 "is_whole" ["some"] (bK K cn 1 sB):=by
 refine bO (d:=rV) T.bm6 bm2 (by walk_at "u") (λf cdv A outer s H E hr=>⟨_,(aL (aV (lK (aU (mX K) rfl T.cY cQ (aG (pv 0) (aN (wF T.cw5 bg9)))) (jS (bf0 (aU (mX K) rfl T.cY cQ (aG (pv 0) (aN (wF T.bl1 at4))))))))),by unfold rV;walk_at "r"⟩) rfl (λ_=>rfl)
theorem gT:fL P w K mg base 2 "is_whole_from" ["some","low","high"] (bK K cn 3 dD):=by
 refine bO (d:=mM) T.aw3 ac1 (by walk_at "u") (λf cdv A outer s H E hr=>⟨_,(aL (aV (lK (pf (bf5 T:) hr (aN (pv 0))) (jS (ak0 gQ gQ (pv 1) (pv 0) (pv 2)))))),by unfold mM;walk_at "r"⟩) rfl (λ_=>rfl)
theorem bh2:fL P w K mg base 3 "are_years" ["first","present"] (bK K cn 2 qX):=by
 refine bO (d:=qT) T.bw2 ao9 (by walk_at "u") (λf cdv A outer s H E hr=>⟨_,(aH (bW (iD (eJ K (pf (gT T:) hr (aG (pv 0) (aG (vS sY (eU T.g_FARTHEST_END)) (aN (eU T.g_FARTHEST_END))))) (λ_=>rfl))) (aL (aV iA)) bJ)
 (aH (bW (iD (eJ K (pf (gT T:) hr (aG (pv 1) (aG (vS sY (eU T.g_FARTHEST_END)) (aN (eU T.g_FARTHEST_END))))) (λ_=>rfl))) (aL (aV iA)) bJ)
 (aL (aV (ak0 gQ gQ aF (aK cT (pv 1) (pv 0)) (eU T.g_LONGEST_SPAN)))))),by unfold qT;walk_at "r"⟩) rfl (λ_=>rfl)
theorem am9:fL P w K mg base 1 "is_made_of" ["word","signs","most"] (bK K cn 3 pR):=by
 refine bO (d:=pE) T.by1 xA (by walk_at "u") (λf cdv A outer s H E hr=>⟨_,(aL (aV (lK (ak0 gQ gQ aF (aU (cF K) rfl T.eX dY (aN (pv 0))) (pv 2)) (jS (aU (mU K) rfl T.wR tH (aN (pm [3] (iW K (pv 0)) (λ_ _ _ _ _=>(pn 3 xA)) (λ_ _ _ _ _=>eZ) (λ_ _ _ _ _=>(cS (rO K (n:=bZ) hr) (pv 3) (pv 1) (by with_unfolding_all rfl)))))))))),by unfold pE;walk_at "r"⟩) rfl (λ_=>rfl)
theorem bd9:fL P w K mg base 2 "is_name" ["word"] (bK K cn 1 rK):=by
 refine bO (d:=tY) T.br9 bj5 (by walk_at "u") (λf cdv A outer s H E hr=>⟨_,(aL (aV (pf (am9 T:) hr (aG (pv 0) (aG (eU T.g_LETTERS) (aN (eU T.g_MOST_LETTERS_words))))))),by unfold tY;walk_at "r"⟩) rfl (λ_=>rfl)
theorem uE:fL P w K mg base 3 "are_names" ["names","least","most"] (bK K cn 3 mI):=by
 refine bO (d:=qO) T.bt2 yE (by walk_at "u") (λf cdv A outer s H E hr=>⟨_,(aH (bW (iD (ap9 gQ gQ (pv 1) (aU (cF K) rfl T.eX dY (aN (pv 0))) (pv 2))) (aL (aV iA)) bJ)
 (aL (aV (lK (aU (mU K) rfl T.wR tH (aN (pm [3] (iW K (pv 0)) (λ_ _ _ _ _=>(pn 3 yE)) (λ_ _ _ _ _=>eZ) (λ_ _ _ _ _=>(pf (bd9 T:) hr (aN (pv 3))))))) (jS (cS (oe K hr) (bw8 K T.eX T.dt8 (aN (pv 0))) (aU (cF K) rfl T.eX dY (aN (pv 0))) (eE _))))))),by unfold qO;walk_at "r"⟩) rfl (λ_=>rfl)
theorem bu5:fL P w K mg base 3 "is_table" ["some"] (bK K cn 1 oY):=by
 refine bO (d:=sE) T.bf6 uB (by walk_at "u") (λf cdv A outer s H E hr=>⟨_,(aH (bW (iD (ap9 gQ gQ aF (aU (cF K) rfl T.eX dY (aN (pv 0))) (eU T.g_MOST_AGES))) (aL (aV iA)) bJ)
 (aH (bW (iD (eJ K (aU (mU K) rfl T.wR tH (aN (pm [1] (iW K (pv 0)) (λ_ _ _ _ _=>(pn 1 uB)) (λ_ _ _ _ _=>eZ) (λ_ _ _ _ _=>(pf (gT T:) hr (aG (pv 1) (aG aF (aN (eU T.g_DARKEST))))))))) (λ_=>rfl))) (aL (aV iA)) bJ)
 (aL (aV (aU (mU K) rfl T.wR tH (aN (pm [2] (xM rfl T.jQ (aG aF (aN (aU (cF K) rfl T.eX dY (aN (pv 0)))))) (λ_ _ _ _ _=>(pn 2 uB)) (λ_ _ _ _ _=>eZ) (λ_ _ _ _ _=>(cS gQ (px K (pv 0) (pv 2)) (px K (pv 0) (aK cT (pv 2) aF)) (eE _)))))))))),by unfold sE;walk_at "r"⟩) rfl (λ_=>rfl)
theorem bq5:fL P w K mg base 4 "are_inks" ["inks"] (bK K cn 1 rX):=by
 refine bO (d:=sD) T.bi6 nU (by walk_at "u") (λf cdv A outer s H E hr=>⟨_,(aH (bW (iD (eJ K (pf (uE T:) hr (aG (pm [1,2] (iW K (pv 0)) (λ_ _ _ _ _=>(dX K 2 rfl (aW (pn 1 nU) (aW (pn 2 nU) dW)))) (λ_ _ _ _ _=>eZ) (λ_ _ _ _ _=>(pv 1))) (aG aF (aN (eU T.g_MOST_INKS))))) (λ_=>rfl))) (aL (aV iA)) bJ)
 (aL (aV (aU (mU K) rfl T.wR tH (aN (pm [1,2] (iW K (pv 0)) (λ_ _ _ _ _=>(dX K 2 rfl (aW (pn 1 nU) (aW (pn 2 nU) dW)))) (λ_ _ _ _ _=>eZ) (λ_ _ _ _ _=>(pf (bu5 T:) hr (aN (pv 2)))))))))),by unfold sD;walk_at "r"⟩) rfl (λ_=>rfl)
theorem bh5:fL P w K mg base 3 "is_reign" ["begin","length"] (bK K cn 2 pF):=by
 refine bO (d:=sC) T.bj6 bi2 (by walk_at "u") (λf cdv A outer s H E hr=>⟨_,(aL (aV (lK (pf (gT T:) hr (aG (pv 0) (aG (vS sY (eU T.g_FARTHEST_YEAR)) (aN (eU T.g_FARTHEST_YEAR))))) (jS (pf (gT T:) hr (aG (pv 1) (aG aF (aN (eU T.g_LONGEST_REIGN))))))))),by unfold sC;walk_at "r"⟩) rfl (λ_=>rfl)
theorem av8:fL P w K mg base 4 "are_reigns" ["reigns"] (bK K cn 1 pS):=by
 refine bO (d:=pN) T.bj1 jB (by walk_at "u") (λf cdv A outer s H E hr=>⟨_,(aH (bW (iD (eJ K (pf (uE T:) hr (aG (pm [1,2,3] (iW K (pv 0)) (λ_ _ _ _ _=>(dX K 3 rfl (aW (pn 1 jB) (aW (pn 2 jB) (aW (pn 3 jB) dW))))) (λ_ _ _ _ _=>eZ) (λ_ _ _ _ _=>(pv 1))) (aG aF (aN (eU T.g_MOST_REIGNS))))) (λ_=>rfl))) (aL (aV iA)) bJ)
 (aL (aV (aU (mU K) rfl T.wR tH (aN (pm [1,2,3] (iW K (pv 0)) (λ_ _ _ _ _=>(dX K 3 rfl (aW (pn 1 jB) (aW (pn 2 jB) (aW (pn 3 jB) dW))))) (λ_ _ _ _ _=>eZ) (λ_ _ _ _ _=>(pf (bh5 T:) hr (aG (pv 2) (aN (pv 3))))))))))),by unfold pN;walk_at "r"⟩) rfl (λ_=>rfl)
theorem ag4(f y:Addr)(cdv:Value)(A:Around)(outer:List Env)(s:Shared)(H:Hp)(E:XK)(hr:Room 4 (A.deeper (PyProof.Rows.envOfC "Archive.__init__" (aM lA) s.heap.objs.size f cdv))):
 ∃t,PSs (mS lB P w K mg base ["self","first","present","letters","inks","reigns","name","table","begin","length"] "Archive.__init__" (aM lA) f cdv A outer s H E).nox (dS lA) t/\RS [(0,.ref y)] K cn E t lL:=
 ⟨_,(aH (bW (iD (eJ K (pf (bh2 T:) hr (aG (pv 1) (aN (pv 2)))) (λ_=>rfl))) (aL mE) bJ)
 (aH (bW (iD (eJ K (pf (uE T:) hr (aG (pv 3) (aG aF (aN (eU T.g_MOST_LETTERS_archives))))) (λ_=>rfl))) (aL mE) bJ)
 (aH (bW (iD (eJ K (pf (bq5 T:) hr (aN (pv 4))) (λ_=>rfl))) (aL mE) bJ)
 (aH (bW (iD (eJ K (pf (av8 T:) hr (aN (pv 5))) (λ_=>rfl))) (aL mE) bJ)
 (aH (nF K (pv 0) (pv 1))
 (aH (nF K (pv 0) (pv 2))
 (aH (nF K (pv 0) (iP (jK K) rfl T.nZ mG (aN (pv 3))))
 (aH (nF K (pv 0) (pm [6,7] (iW K (pv 4)) (λ_ _ _ _ _=>(dX K 2 rfl (aW (pn 6 iY) (aW (pn 7 iY) dW)))) (λ_ _ _ _ _=>eZ) (λ_ _ _ _ _=>(kN (aG (pv 6) (aN (iP (jK K) rfl T.nZ mG (aN (pv 7)))))))))
 (aL (nF K (pv 0) (pm [6,8,9] (iW K (pv 5)) (λ_ _ _ _ _=>(dX K 3 rfl (aW (pn 6 iY) (aW (pn 8 iY) (aW (pn 9 iY) dW))))) (λ_ _ _ _ _=>eZ) (λ_ _ _ _ _=>(kN (aG (pv 6) (aG (pv 8) (aN (pv 9))))))))))))))))),by unfold lL;walk_at "r"⟩
theorem bu8:yP P w K mg base 5 "Archive" c_Archive (wV K cn "Archive" 5 pL):=
 kH (d:=lL) T.be6 iY (by walk_at "u") (ag4 T) rfl (λ_=>rfl)
theorem bw0:fL P w K mg base 1 "_law_of_one" ["_law_base_here","_law_name","_law_xs"] (bK K cn 3 pI):=by
 refine bO (d:=oZ) T.bx1 dB (by walk_at "u") (λf cdv A outer s H E hr=>⟨_,(aH (kD (pv 0) (dX K 5 rfl (aW (pn 3 dB) (aW (pn 4 dB) (aW (pn 5 dB) (aW (pn 6 dB) (aW (pn 7 dB) dW)))))))
 (aH (bW (pc (oe K hr) (aK bN (px K (pv 2) aF) aF) aF) (aH (kD (px K (pv 6) (aK bN (px K (pv 2) aF) (aU (cF K) rfl T.eX dY (aN (pv 6))))) (dX K 2 rfl (aW (pn 8 dB) (aW (pn 9 dB) dW))))
 (aH (pz 10 dB (px K (pv 9) (aU (oM K) rfl T.zN vG (aG (aK bN (px K (pv 2) aF) (aK (bB K) (aK cT (pv 4) (pv 3)) aF)) (aN (aK cT (aU (cF K) rfl T.eX dY (aN (pv 9))) aF))))))
 (aH (pz 11 dB (aU (ae6 K) rfl T.cy5 bg8 (aG aF (aN (aU (oM K) rfl T.zN vG (aG (aK vF aF aF) (aN (aK (bB K) (pv 10) (px K (cI (aG aF (aG aF (aG aF (aG (vS sY aF) (aG aF (aN (vS sY aF)))))))) (aK bN (px K (pv 2) aF) aF))))))))))
 (aL (aV (cI (aG bC (aG (pv 1) (aG (pv 8) (aG (pv 11) (aN (aK (bB K) (aU (rC K) rfl T.ap3 xF (aN (aK cT (pv 11) (pv 10)))) (aK bN (px K (pv 2) aF) (px K (cI (aG aF (aG aF (aN aF)))) (aK bN (aK jP (px K (pv 2) aF) aF) aF))))))))))))))) bJ)
 (aH (bW (pc (oe K hr) (aK bN (px K (pv 2) aF) aF) aF) (aH (kD (px K (pv 7) (aK bN (px K (pv 2) aF) (aU (cF K) rfl T.eX dY (aN (pv 7))))) (dX K 3 rfl (aW (pn 12 dB) (aW (pn 13 dB) (aW (pn 14 dB) dW)))))
 (aL (aV (cI (aG bC (aG (pv 1) (aG (pv 12) (aN (aK (bB K) aF (aK bN (px K (pv 2) aF) (pv 14))))))))))) bJ)
 (aH (bW (pc (oe K hr) (aK bN (px K (pv 2) aF) aF) aF) (aL (aV (cI (aG bC (aG (pv 1) (aN (px K (px K (pv 7) (aK bN (px K (pv 2) aF) (aU (cF K) rfl T.eX dY (aN (pv 7))))) aF))))))) bJ)
 (aH (pz 15 dB (aK (bB K) (aK cT (pv 3) aF) (aK bN (px K (pv 2) aF) (aK (bB K) (aK cT (pv 4) (pv 3)) aF))))
 (aL (aV (cI (aG bC (aG (pv 1) (aG (pv 15) (aN (aK (bB K) (pv 15) (aK bN (px K (pv 2) aF) (aK (bB K) (aK cT (pv 4) (pv 3)) aF))))))))))))))),by unfold oZ;walk_at "r"⟩) rfl (λ_=>rfl)
theorem ae9:fL P w K mg base 2 "_law_saying" ["_law_base_here","_law_number","_law_far"] (bK K cn 3 pW):=by
 refine bO (d:=oW) T.bh1 fJ (by walk_at "u") (λf cdv A outer s H E hr=>⟨_,(aH (kD (pv 0) (dX K 5 rfl (aW (pn 3 fJ) (aW (pn 4 fJ) (aW (pn 5 fJ) (aW (pn 6 fJ) (aW (pn 7 fJ) dW)))))))
 (aH (pz 8 fJ (pf (mT T:) hr (aG (pv 1) (aN aF))))
 (aH (pz 9 fJ (aK bN (px K (pv 8) aF) (aU (cF K) rfl T.eX dY (aN (pv 5)))))
 (aH (bW (PW.pt (tO (pc (oe K hr) (aU (cF K) rfl T.eX dY (aN (pv 5))) aF) (vL (pc ag3 (aK bN (px K (pv 8) aF) aF) aF)))) (aL (aV (pf (bw0 T:) hr (aG (pv 0) (aG (px K (pv 5) (pv 9)) (aN (pv 8))))))) bJ)
 (aH (pz 10 fJ (px K (pv 5) (aK bN (aK (bB K) (aK (bB K) (pv 9) aF) (aK bN (px K (pv 8) aF) (aK cT (aU (cF K) rfl T.eX dY (aN (pv 5))) aF))) (aU (cF K) rfl T.eX dY (aN (pv 5))))))
 (aH (bW (pc (oe K hr) (aK bN (px K (pv 8) aF) aF) aF) (aL (aV (cI (aG bC (aG (px K (pv 5) (pv 9)) (aN (pv 10))))))) bJ)
 (aH (bW (pc (oe K hr) (aK bN (px K (pv 8) aF) aF) aF) (aL (aV (cI (aG bC (aG (px K (pv 5) (pv 9)) (aN (pv 10))))))) bJ)
 (aH (bW (pc (oe K hr) (aK bN (px K (pv 8) aF) aF) aF) (aL (aV (cI (aG bC (aG (px K (pv 5) (pv 9)) (aG (pv 10) (aN (aK bN (px K (pv 8) aF) (aK (bB K) (pv 2) aF))))))))) bJ)
 (aH (pz 11 fJ (aK cT (aK bN (px K (pv 8) aF) (aK (bB K) (aK fM aF (pv 2)) aF)) (pv 2)))
 (aL (aV (cI (aG bC (aG (px K (pv 5) (pv 9)) (aG (pv 10) (aG (pv 11) (aN (aU (oM K) rfl T.zN vG (aG aF (aN (aK (bB K) (pv 11) (aK bN (px K (pv 8) aF) (aK (bB K) (pv 2) aF))))))))))))))))))))))),by unfold oW;walk_at "r"⟩) rfl (λ_=>rfl)
theorem ck0:fL P w K mg base 3 "is_due" ["archive","due","part"] (bK K cn 3 gI):=by
 refine bO (d:=oH) T.ck4 yS (by walk_at "u") (λf cdv A outer s H E hr=>⟨_,(aH (bW (pc (oe K hr) (pv 1) bC) (aL (aV (cS (rO K (n:=bZ) hr) (pv 2) (iZ K (pv 0)) (by with_unfolding_all rfl)))) bJ)
 (aH (bW (pc (oe K hr) (pv 1) bC) (aL (aV (cS (rO K (n:=bZ) hr) (pv 2) (pm [3] (iW K (iZ K (pv 0))) (λ_ _ _ _ _=>(pn 3 yS)) (λ_ _ _ _ _=>eZ) (λ_ _ _ _ _=>(px K (pv 3) aF))) (by with_unfolding_all rfl)))) bJ)
 (aH (bW (pc (oe K hr) (pv 1) bC) (aL (aV (cS (rO K (n:=bZ) hr) (pv 2) (pm [4] (iW K (iZ K (pv 0))) (λ_ _ _ _ _=>(pn 4 yS)) (λ_ _ _ _ _=>eZ) (λ_ _ _ _ _=>(px K (pv 4) aF))) (by with_unfolding_all rfl)))) bJ)
 (aL (aV (pf (gT T:) hr (aG (pv 2) (aG (px K (sL T.d_NUMBERS (pv 1)) aF) (aN (px K (sL T.d_NUMBERS (pv 1)) aF)))))))))),by unfold oH;walk_at "r"⟩) rfl (λ_=>rfl)
theorem bf9:fL P w K mg base 4 "are_due" ["archive","word","parts"] (bK K cn 3 rG):=by
 refine bO (d:=tP) T.bs9 vW (by walk_at "u") (λf cdv A outer s H E hr=>⟨_,(aH (bW (PW.pt (tO (cu9 (bs7 T.d_PARTS (pv 1)) (by with_unfolding_all rfl)) (vL (pc (rF K (n:=bZ) hr) (aU (cF K) rfl T.eX dY (aN (pv 2))) (aU (cF K) rfl T.eX dY (aN (sL T.d_PARTS (pv 1)))))))) (aL (aV iA)) bJ)
 (aL (aV (aU (mU K) rfl T.wR tH (aN (pm [3,4] (bd3 K T.cv5 (aG (sL T.d_PARTS (pv 1)) (aN (pv 2)))) (λ_ _ _ _ _=>(dX K 2 rfl (aW (pn 3 vW) (aW (pn 4 vW) dW)))) (λ_ _ _ _ _=>eZ) (λ_ _ _ _ _=>(pf (ck0 T:) hr (aG (pv 0) (aG (pv 3) (aN (pv 4)))))))))))),by unfold tP;walk_at "r"⟩) rfl (λ_=>rfl)
theorem af3(f:Addr)(cdv:Value)(A:Around)(outer:List Env)(s:Shared)(H:Hp)(E:XK)(hr:Room 0 (A.deeper (PyProof.Rows.envOfC "Archive.table" (aM kC) s.heap.objs.size f cdv))):
 ∃t,PSs (mS lB P w K mg base ["self","name","other","table"] "Archive.table" (aM kC) f cdv A outer s H E).nox (dS kC) t/\RS [] K cn E t kM:=
 ⟨_,(aH (kK PassesOwn.never rfl (iW K (iZ K (pv 0))) (dX K 2 rfl (aW (pn 2 oK) (aW (pn 3 oK) dW))) (aL (bW (pc (oe K hr) (pv 2) (pv 1)) (aL (aV (iP (jK K) rfl T.nZ mG (aN (pv 3))))) bJ)))
 (aL (aV mB))),by unfold kM;walk_at "r"⟩
theorem aq2:iJ P w K mg base 1 c_Archive "table" (bK K cn 2 fW):=
 cJ (d:=kM) T.am1 T.nO oK (by walk_at "u") (af3 T) rfl (λ_=>rfl) (by decide)
theorem cd7:∀q∈[(c_Archive,bK K cn 2 fW)],iJ P w K mg base 1 q.1 "table" q.2:=cM (aq2 T) (wC)
theorem bk7:fL P w K mg base 1 "ages_of" ["table","dark","error","greatest"] (bK K cn 4 rA):=by
 refine bO (d:=tR) T.bq9 pP (by walk_at "u") (λf cdv A outer s H E hr=>⟨_,(aH (pz 4 pP (aK cT (aU (cF K) rfl T.eX dY (aN (pv 0))) aF))
 (aH (pk 5 pP [7] (jM rfl T.jQ (aN (aK (bB K) (aU (oM K) rfl T.zN vG (aG (pv 4) (aN (pv 3)))) aF))) (λ_ _ _ _ _=>(pn 7 pP)) (λ_ _ _ _ _=>(qK (pc gQ (aU (rC K) rfl T.ap3 xF (aN (aK cT (px K (pv 0) (pv 7)) (pv 1)))) (pv 2)))) (λ_ _ _ _ _=>(pv 7)))
 (aH (bW (pc (oe K hr) (aU (cF K) rfl T.eX dY (aN (pv 5))) aF) (aL (aV mB)) bJ)
 (aH (pz 6 pP (px K (pv 5) (aK cT (aU (cF K) rfl T.eX dY (aN (pv 5))) aF)))
 (aL (aV (kN (aG (px K (pv 5) aF) (aN (cv3 (pc (oe K hr) (pv 6) (pv 4)) (pv 3) (pv 6))))))))))),by unfold tR;walk_at "r"⟩) rfl (λ_=>rfl)
theorem ch1:fL P w K mg base 1 "spaced" ["parts"] (bK K cn 1 wL):=by
 refine bO (d:=wN) T.cj4 ao6 (by walk_at "u") (λf cdv A outer s H E hr=>⟨_,(aL (aV (mQ K PySem.F.plainAttrs_str PySem.F.slot_str_join PySem.F.type_str_join (bi0 K) bC (aN (pm [1] (iW K (pv 0)) (λ_ _ _ _ _=>(pn 1 ao6)) (λ_ _ _ _ _=>eZ) (λ_ _ _ _ _=>(iP ad7 rfl T.cx5 bp7 (aN (pv 1))))))))),by unfold wN;walk_at "r"⟩) rfl (λ_=>rfl)
theorem hU(f y:Addr)(cdv:Value)(A:Around)(outer:List Env)(s:Shared)(H:Hp)(E:XK)(hr:Room 1 (A.deeper (PyProof.Rows.envOfC "Saying.__init__" (aM eD) s.heap.objs.size f cdv))):
 ∃t,PSs (mS lB P w K mg base ["self","archive","word","parts","low","high","names","part","due","name"] "Saying.__init__" (aM eD) f cdv A outer s H E).nox (dS eD) t/\RS [(0,.ref y)] K cn E t bV:=
 ⟨_,(aH (pk 6 dM [7,8] (bd3 K T.cv5 (aG (pv 3) (aN (sL T.d_PARTS (pv 2))))) (λ_ _ _ _ _=>(dX K 2 rfl (aW (pn 7 dM) (aW (pn 8 dM) dW)))) (λ_ _ _ _ _=>(qK (pc (oe K hr) (pv 8) bC))) (λ_ _ _ _ _=>(pv 7)))
 (aH (nF K (pv 0) (pm [9] (iW K (pv 6)) (λ_ _ _ _ _=>(pn 9 dM)) (λ_ _ _ _ _=>eZ) (λ_ _ _ _ _=>(mQ K PySem.F.plainAttrs_list PySem.F.slot_list_index PySem.F.type_list_index (mZ K (n:=bZ) hr) (iZ K (pv 1)) (aN (pv 9))))))
 (aH (nF K (pv 0) (pv 4))
 (aH (nF K (pv 0) (pv 5))
 (aL (nF K (pv 0) (pf (ch1 T:) hr (aN (aK (bB K) (cI (aN (pv 2))) (iP (jK K) rfl T.nZ mG (aN (pv 3)))))))))))),by unfold bV;walk_at "r"⟩
theorem dv5:yP P w K mg base 2 "Ink" c_Ink (wV K cn "Ink" 5 aq0):=
 kH (d:=bV) T.dy4 dM (by walk_at "u") (hU T) rfl (λ_=>rfl)
theorem vN:fL P w K mg base 1 "reign_called" ["archive","name"] (bK K cn 2 lF):=by
 refine bO (d:=nE) T.at5 tN (by walk_at "u") (λf cdv A outer s H E hr=>⟨_,(aH (kK PassesOwn.never rfl (iW K (iZ K (pv 0))) (pn 2 tN) (aL (bW (pc (oe K hr) (px K (pv 2) aF) (pv 1)) (aL (aV (pv 2))) bJ)))
 (aL (aV mB))),by unfold nE;walk_at "r"⟩) rfl (λ_=>rfl)
theorem xZ:fL P w K mg base 3 "reign_year" ["begin","length","k"] (bK K cn 3 mV):=by
 refine bO (d:=pH) T.bk1 au7 (by walk_at "u") (λf cdv A outer s H E hr=>⟨_,(aH (bW (iD (eJ K (pf (gT T:) hr (aG (pv 2) (aG aF (aN (pv 1))))) (λ_=>rfl))) (aL (aV mB)) bJ)
 (aL (aV (aK cT (aK (bB K) (pv 0) (pv 2)) aF)))),by unfold pH;walk_at "r"⟩) rfl (λ_=>rfl)
theorem cj6:yP P w K mg base 2 "Reign" c_Reign (wV K cn "Reign" 5 wJ):=
 kH (d:=bV) T.cl4 dM (by walk_at "u") (hU T) rfl (λ_=>rfl)
theorem ca7:yP P w K mg base 2 "Under" c_Under (wV K cn "Under" 5 wD):=
 kH (d:=bV) T.cm4 dM (by walk_at "u") (hU T) rfl (λ_=>rfl)
theorem bc8:yP P w K mg base 2 "Between" c_Between (wV K cn "Between" 5 tG):=
 kH (d:=bV) T.bd6 dM (by walk_at "u") (hU T) rfl (λ_=>rfl)
theorem ca8:yP P w K mg base 2 "After" c_After (wV K cn "After" 5 vZ):=
 kH (d:=bV) T.ch4 dM (by walk_at "u") (hU T) rfl (λ_=>rfl)
theorem dg3:yP P w K mg base 2 "Same" c_Same (wV K cn "Same" 5 xE):=
 kH (d:=bV) T.ck9 dM (by walk_at "u") (hU T) rfl (λ_=>rfl)
theorem cl0:yP P w K mg base 2 "Within" c_Within (wV K cn "Within" 5 uJ):=
 kH (d:=bV) T.bp9 dM (by walk_at "u") (hU T) rfl (λ_=>rfl)
theorem cr7:yP P w K mg base 2 "Apart" c_Apart (wV K cn "Apart" 5 vY):=
 kH (d:=bV) T.ci4 dM (by walk_at "u") (hU T) rfl (λ_=>rfl)
theorem br0:fL P w K mg base 4 "ink_saying" ["archive","parts"] (bK K cn 2 oR):=by
 refine bO (d:=pJ) T.bm1 xC (by walk_at "u") (λf cdv A outer s H E hr=>⟨_,(aH (pz 2 xC (pf (bk7 T:) hr (aG (cx1 (pv 0) (cd7 T:) (hr.mono (by decide)) (aN (px K (pv 1) aF))) (aG (px K (pv 1) aF) (aG (px K (pv 1) aF) (aN (aK cT (iZ K (pv 0)) (iZ K (pv 0)))))))))
 (aH (bW (pc uZ (pv 2) mB) (aL mE) bJ)
 (aL (aV (pC (dv5 T:) (hr.mono (by decide)) (aG (pv 0) (aG bC (aG (pv 1) (aG (aK cT (iZ K (pv 0)) (px K (pv 2) aF)) (aN (aK cT (iZ K (pv 0)) (px K (pv 2) aF)))))))))))),by unfold pJ;walk_at "r"⟩) rfl (λ_=>rfl)
theorem ab4:fL P w K mg base 4 "reign_saying" ["archive","parts"] (bK K cn 2 nJ):=by
 refine bO (d:=nI) T.am5 pT (by walk_at "u") (λf cdv A outer s H E hr=>⟨_,(aH (pz 2 pT (pf (vN T:) hr (aG (pv 0) (aN (px K (pv 1) aF)))))
 (aH (pz 3 pT (pf (xZ T:) hr (aG (px K (pv 2) aF) (aG (px K (pv 2) aF) (aN (px K (pv 1) aF))))))
 (aH (bW (pc uZ (pv 3) mB) (aL mE) bJ)
 (aL (aV (pC (cj6 T:) (hr.mono (by decide)) (aG (pv 0) (aG bC (aG (pv 1) (aG (pv 3) (aN (pv 3)))))))))))),by unfold nI;walk_at "r"⟩) rfl (λ_=>rfl)
theorem ac5:fL P w K mg base 4 "under_saying" ["archive","parts"] (bK K cn 2 nA):=by
 refine bO (d:=nG) T.aw5 tU (by walk_at "u") (λf cdv A outer s H E hr=>⟨_,(aH (pz 2 tU (pf (vN T:) hr (aG (pv 0) (aN (px K (pv 1) aF)))))
 (aL (aV (pC (ca7 T:) (hr.mono (by decide)) (aG (pv 0) (aG bC (aG (pv 1) (aG (px K (pv 2) aF) (aN (pf (xZ T:) hr (aG (px K (pv 2) aF) (aG (px K (pv 2) aF) (aN (px K (pv 2) aF)))))))))))))),by unfold nG;walk_at "r"⟩) rfl (λ_=>rfl)
theorem as0:fL P w K mg base 4 "between_saying" ["archive","parts"] (bK K cn 2 lV):=by
 refine bO (d:=lR) T.ae1 zO (by walk_at "u") (λf cdv A outer s H E hr=>⟨_,(aH (bW (pc bq4 (px K (pv 1) aF) (px K (pv 1) aF)) (aL mE) bJ)
 (aL (aV (pC (bc8 T:) (hr.mono (by decide)) (aG (pv 0) (aG bC (aG (pv 1) (aG (px K (pv 1) aF) (aN (px K (pv 1) aF)))))))))),by unfold lR;walk_at "r"⟩) rfl (λ_=>rfl)
theorem ah4:fL P w K mg base 4 "after_saying" ["archive","parts"] (bK K cn 2 nH):=by
 refine bO (d:=nC) T.aq5 ax2 (by walk_at "u") (λf cdv A outer s H E hr=>⟨_,(aL (aV (pC (ca8 T:) (hr.mono (by decide)) (aG (pv 0) (aG bC (aG (pv 1) (aG aF (aN mB)))))))),by unfold nC;walk_at "r"⟩) rfl (λ_=>rfl)
theorem ar7:fL P w K mg base 4 "same_saying" ["archive","parts"] (bK K cn 2 oF):=by
 refine bO (d:=oG) T.az7 ae4 (by walk_at "u") (λf cdv A outer s H E hr=>⟨_,(aL (aV (pC (dg3 T:) (hr.mono (by decide)) (aG (pv 0) (aG bC (aG (pv 1) (aG aF (aN aF)))))))),by unfold oG;walk_at "r"⟩) rfl (λ_=>rfl)
theorem am2:fL P w K mg base 4 "within_saying" ["archive","parts"] (bK K cn 2 mK):=by
 refine bO (d:=mL) T.al3 ax0 (by walk_at "u") (λf cdv A outer s H E hr=>⟨_,(aL (aV (pC (cl0 T:) (hr.mono (by decide)) (aG (pv 0) (aG bC (aG (pv 1) (aG aF (aN (px K (pv 1) aF))))))))),by unfold mL;walk_at "r"⟩) rfl (λ_=>rfl)
theorem ag5:fL P w K mg base 4 "apart_saying" ["archive","parts"] (bK K cn 2 nN):=by
 refine bO (d:=nK) T.ac6 at2 (by walk_at "u") (λf cdv A outer s H E hr=>⟨_,(aH (bW (pc bq4 (px K (pv 1) aF) (px K (pv 1) aF)) (aL mE) bJ)
 (aL (aV (pC (cr7 T:) (hr.mono (by decide)) (aG (pv 0) (aG bC (aG (pv 1) (aG (px K (pv 1) aF) (aN (px K (pv 1) aF)))))))))),by unfold nK;walk_at "r"⟩) rfl (λ_=>rfl)
theorem cj2:ci1 P w K mg base 4 "MAKERS" (cd5 K cn 2 tb_MAKERS):=cw8 T.bn9 (lO T.ac8 (br0 T) (by decide) (lO T.ay3 (ab4 T) (by decide) (lO T.ah3 (ac5 T) (by decide) (lO T.zU (as0 T) (by decide) (lO T.aj3 (ah4 T) (by decide) (lO T.al5 (ar7 T) (by decide) (lO T.ai1 (am2 T) (by decide) (lO T.an3 (ag5 T) (by decide) (bu9)))))))))
theorem bn2:fL P w K mg base 5 "saying_of" ["archive","word","parts"] (bK K cn 3 dH):=by
 refine bO (d:=qY) T.bq2 bf1 (by walk_at "u") (λf cdv A outer s H E hr=>⟨_,(aH (bW (iD (eJ K (pf (bf9 T:) hr (aG (pv 0) (aG (pv 1) (aN (pv 2))))) (λ_=>rfl))) (aL mE) bJ)
 (aH (bW (PW.pt (di0 (pc (oe K hr) (px K (sL T.d_PARTS (pv 1)) aF) bC) (ce6 (pc (oe K hr) (px K (pv 2) aF) (px K (pv 2) aF))))) (aL mE) bJ)
 (aL (aV (cs1 (cj2 T:) (hr.mono (by decide)) (pv 1) (aG (pv 0) (aN (pv 2)))))))),by unfold qY;walk_at "r"⟩) rfl (λ_=>rfl)
theorem bb2:fL P w K mg base 1 "_law_class" ["_law_saying_here","_law_word"] (bK K cn 2 mF):=by
 refine bO (d:=qQ) T.bu2 mR (by walk_at "u") (λf cdv A outer s H E hr=>⟨_,(aH (pz 2 mR (cI (aG (aU (kJ (dq1 T)) rfl T.cY cQ (aG (pv 0) (aN (eU T.gc_Ink)))) (aG (aU (kJ (cs2 T)) rfl T.cY cQ (aG (pv 0) (aN (eU T.gc_Reign)))) (aG (aU (kJ (cg4 T)) rfl T.cY cQ (aG (pv 0) (aN (eU T.gc_Under)))) (aN (aU (kJ (bp4 T)) rfl T.cY cQ (aG (pv 0) (aN (eU T.gc_Between))))))))))
 (aH (pz 2 mR (aK (bB K) (pv 2) (cI (aG (aU (kJ (cr3 T)) rfl T.cY cQ (aG (pv 0) (aN (eU T.gc_After)))) (aG (aU (kJ (ci8 T)) rfl T.cY cQ (aG (pv 0) (aN (eU T.gc_Same)))) (aN (aU (kJ (bs8 T)) rfl T.cY cQ (aG (pv 0) (aN (eU T.gc_Within))))))))))
 (aH (pz 2 mR (aK (bB K) (pv 2) (cI (aN (aU (kJ (cp0 T)) rfl T.cY cQ (aG (pv 0) (aN (eU T.gc_Apart))))))))
 (aH (pz 3 mR (cI (aG bC (aG bC (aG bC (aG bC (aG bC (aG bC (aG bC (aN bC))))))))))
 (aL (aV (lK (aU (kJ (bp8 T)) rfl T.cY cQ (aG (pv 0) (aN (eU T.gc_Saying)))) (lK (cS (oe K hr) (mQ K PySem.F.plainAttrs_list PySem.F.slot_list_count PySem.F.type_list_count (bv8 K (n:=bZ) hr) (pv 2) (aN iA)) aF (eE _)) (jS (cS (oe K hr) (px K (pv 3) (mQ K PySem.F.plainAttrs_list PySem.F.slot_list_index PySem.F.type_list_index (mZ K (n:=bZ) hr) (pv 2) (aN iA))) (pv 1) (eE _))))))))))),by unfold qQ;walk_at "r"⟩) rfl (λ_=>rfl)
theorem gJ(f:Addr)(cdv:Value)(A:Around)(outer:List Env)(s:Shared)(H:Hp)(E:XK)(hr:Room 0 (A.deeper (PyProof.Rows.envOfC "Saying.about" (aM dL) s.heap.objs.size f cdv))):
 ∃t,PSs (mS lB P w K mg base ["self"] "Saying.about" (aM dL) f cdv A outer s H E).nox (dS dL) t/\RS [] K cn E t dJ:=
 ⟨_,(aL (aV (iP (jK K) rfl T.nZ mG (aN (iZ K (pv 0)))))),by unfold dJ;walk_at "r"⟩
theorem ar1:iJ P w K mg base 1 c_Between "about" (bK K cn 1 aY):=
 cJ (d:=dJ) T.ag1 T.eC gA (by walk_at "u") (gJ T) rfl (λ_=>rfl) (by decide)
theorem as7:iJ P w K mg base 1 c_Under "about" (bK K cn 1 aY):=
 cJ (d:=dJ) T.az5 T.fS gA (by walk_at "u") (gJ T) rfl (λ_=>rfl) (by decide)
theorem aw7:iJ P w K mg base 1 c_Reign "about" (bK K cn 1 aY):=
 cJ (d:=dJ) T.ay5 T.fR gA (by walk_at "u") (gJ T) rfl (λ_=>rfl) (by decide)
theorem at7:iJ P w K mg base 1 c_After "about" (bK K cn 1 aY):=
 cJ (d:=dJ) T.ap5 T.fU gA (by walk_at "u") (gJ T) rfl (λ_=>rfl) (by decide)
theorem bz1:iJ P w K mg base 1 c_Ink "about" (bK K cn 1 aY):=
 cJ (d:=dJ) T.bp1 T.jE gA (by walk_at "u") (gJ T) rfl (λ_=>rfl) (by decide)
theorem af5:iJ P w K mg base 1 c_Within "about" (bK K cn 1 aY):=
 cJ (d:=dJ) T.at3 T.eS gA (by walk_at "u") (gJ T) rfl (λ_=>rfl) (by decide)
theorem ao7:iJ P w K mg base 1 c_Apart "about" (bK K cn 1 aY):=
 cJ (d:=dJ) T.an5 T.fT gA (by walk_at "u") (gJ T) rfl (λ_=>rfl) (by decide)
theorem ar9:iJ P w K mg base 1 c_Same "about" (bK K cn 1 aY):=
 cJ (d:=dJ) T.ag8 T.gW gA (by walk_at "u") (gJ T) rfl (λ_=>rfl) (by decide)
theorem ch6:∀q∈[(c_Ink,bK K cn 1 aY),(c_Reign,bK K cn 1 aY),(c_Under,bK K cn 1 aY),(c_Between,bK K cn 1 aY),(c_After,bK K cn 1 aY),(c_Same,bK K cn 1 aY),(c_Within,bK K cn 1 aY),(c_Apart,bK K cn 1 aY)],iJ P w K mg base 1 q.1 "about" q.2:=cM (bz1 T) (cM (aw7 T) (cM (as7 T) (cM (ar1 T) (cM (at7 T) (cM (ar9 T) (cM (af5 T) (cM (ao7 T) (wC))))))))
theorem gL(f:Addr)(cdv:Value)(A:Around)(outer:List Env)(s:Shared)(H:Hp)(E:XK)(hr:Room 0 (A.deeper (PyProof.Rows.envOfC "Saying.shown" (aM dN) s.heap.objs.size f cdv))):
 ∃t,PSs (mS lB P w K mg base ["self"] "Saying.shown" (aM dN) f cdv A outer s H E).nox (dS dN) t/\RS [] K cn E t dI:=
 ⟨_,(aL (aV (iZ K (pv 0)))),by unfold dI;walk_at "r"⟩
theorem aq7:iJ P w K mg base 1 c_Under "shown" (bK K cn 1 aX):=
 cJ (d:=dI) T.ad6 T.fS fV (by walk_at "u") (gL T) rfl (λ_=>rfl) (by decide)
theorem aj2:iJ P w K mg base 1 c_Between "shown" (bK K cn 1 aX):=
 cJ (d:=dI) T.ad1 T.eC fV (by walk_at "u") (gL T) rfl (λ_=>rfl) (by decide)
theorem ao4:iJ P w K mg base 1 c_Within "shown" (bK K cn 1 aX):=
 cJ (d:=dI) T.ao3 T.eS fV (by walk_at "u") (gL T) rfl (λ_=>rfl) (by decide)
theorem ap7:iJ P w K mg base 1 c_Reign "shown" (bK K cn 1 aX):=
 cJ (d:=dI) T.ao5 T.fR fV (by walk_at "u") (gL T) rfl (λ_=>rfl) (by decide)
theorem ax7:iJ P w K mg base 1 c_After "shown" (bK K cn 1 aX):=
 cJ (d:=dI) T.aa6 T.fU fV (by walk_at "u") (gL T) rfl (λ_=>rfl) (by decide)
theorem bc2:iJ P w K mg base 1 c_Ink "shown" (bK K cn 1 aX):=
 cJ (d:=dI) T.bo1 T.jE fV (by walk_at "u") (gL T) rfl (λ_=>rfl) (by decide)
theorem ak7:iJ P w K mg base 1 c_Apart "shown" (bK K cn 1 aX):=
 cJ (d:=dI) T.av5 T.fT fV (by walk_at "u") (gL T) rfl (λ_=>rfl) (by decide)
theorem bj0:iJ P w K mg base 1 c_Same "shown" (bK K cn 1 aX):=
 cJ (d:=dI) T.ay7 T.gW fV (by walk_at "u") (gL T) rfl (λ_=>rfl) (by decide)
theorem cv8:∀q∈[(c_Ink,bK K cn 1 aX),(c_Reign,bK K cn 1 aX),(c_Under,bK K cn 1 aX),(c_Between,bK K cn 1 aX),(c_After,bK K cn 1 aX),(c_Same,bK K cn 1 aX),(c_Within,bK K cn 1 aX),(c_Apart,bK K cn 1 aX)],iJ P w K mg base 1 q.1 "shown" q.2:=cM (bc2 T) (cM (ap7 T) (cM (aq7 T) (cM (aj2 T) (cM (ax7 T) (cM (bj0 T) (cM (ao4 T) (cM (ak7 T) (wC))))))))
theorem fY(f:Addr)(cdv:Value)(A:Around)(outer:List Env)(s:Shared)(H:Hp)(E:XK)(hr:Room 0 (A.deeper (PyProof.Rows.envOfC "Saying.bounds" (aM dA) s.heap.objs.size f cdv))):
 ∃t,PSs (mS lB P w K mg base ["self"] "Saying.bounds" (aM dA) f cdv A outer s H E).nox (dS dA) t/\RS [] K cn E t dE:=
 ⟨_,(aL (aV (kN (aG (iZ K (pv 0)) (aN (iZ K (pv 0))))))),by unfold dE;walk_at "r"⟩
theorem al0:iJ P w K mg base 1 c_Between "bounds" (bK K cn 1 aT):=
 cJ (d:=dE) T.zS T.eC fE (by walk_at "u") (fY T) rfl (λ_=>rfl) (by decide)
theorem au9:iJ P w K mg base 1 c_Ink "bounds" (bK K cn 1 aT):=
 cJ (d:=dE) T.ad8 T.jE fE (by walk_at "u") (fY T) rfl (λ_=>rfl) (by decide)
theorem aw4:iJ P w K mg base 1 c_Reign "bounds" (bK K cn 1 aT):=
 cJ (d:=dE) T.ak3 T.fR fE (by walk_at "u") (fY T) rfl (λ_=>rfl) (by decide)
theorem aj5:iJ P w K mg base 1 c_After "bounds" (bK K cn 1 aT):=
 cJ (d:=dE) T.aa4 T.fU fE (by walk_at "u") (fY T) rfl (λ_=>rfl) (by decide)
theorem af2:iJ P w K mg base 1 c_Within "bounds" (bK K cn 1 aT):=
 cJ (d:=dE) T.ah1 T.eS fE (by walk_at "u") (fY T) rfl (λ_=>rfl) (by decide)
theorem au4:iJ P w K mg base 1 c_Under "bounds" (bK K cn 1 aT):=
 cJ (d:=dE) T.as3 T.fS fE (by walk_at "u") (fY T) rfl (λ_=>rfl) (by decide)
theorem ad5:iJ P w K mg base 1 c_Apart "bounds" (bK K cn 1 aT):=
 cJ (d:=dE) T.ar3 T.fT fE (by walk_at "u") (fY T) rfl (λ_=>rfl) (by decide)
theorem an7:iJ P w K mg base 1 c_Same "bounds" (bK K cn 1 aT):=
 cJ (d:=dE) T.ab6 T.gW fE (by walk_at "u") (fY T) rfl (λ_=>rfl) (by decide)
theorem cc3:∀q∈[(c_Ink,bK K cn 1 aT),(c_Reign,bK K cn 1 aT),(c_Under,bK K cn 1 aT),(c_Between,bK K cn 1 aT),(c_After,bK K cn 1 aT),(c_Same,bK K cn 1 aT),(c_Within,bK K cn 1 aT),(c_Apart,bK K cn 1 aT)],iJ P w K mg base 1 q.1 "bounds" q.2:=cM (au9 T) (cM (aw4 T) (cM (au4 T) (cM (al0 T) (cM (aj5 T) (cM (an7 T) (cM (af2 T) (cM (ad5 T) (wC))))))))
theorem az9:fL P w K mg base 1 "_law_shaped" ["_law_bounds","_law_word"] (bK K cn 2 pV):=by
 refine bO (d:=pX) T.bq1 wT (by walk_at "u") (λf cdv A outer s H E hr=>⟨_,(aH (bW (PW.pt (tO (iD (eJ K (aU (mX K) rfl T.cY cQ (aG (pv 0) (aN (wF T.cl9 cq2)))) (λ_=>rfl))) (tO (pc (rF K (n:=bZ) hr) (aU (cF K) rfl T.eX dY (aN (pv 0))) aF) (vL (pc uZ (px K (pv 0) aF) mB))))) (aL (aV iA)) bJ)
 (aH (bW (pc (rF K (n:=bZ) hr) (cS uZ (px K (pv 0) aF) mB (eE _)) (cS (oe K hr) (pv 1) bC (eE _))) (aL (aV iA)) bJ)
 (aL (aV (bf0 (aU (at6 K) rfl T.cu5 ba7 (aN (pm [2] (iW K (pv 0)) (λ_ _ _ _ _=>(pn 2 wT)) (λ_ _ _ _ _=>(qK (pc cj8 (pv 2) mB))) (λ_ _ _ _ _=>(bb5 (aU (mX K) rfl T.cY cQ (aG (pv 2) (aN (wF T.bl1 at4)))) (jS (bf0 (aU (mX K) rfl T.cY cQ (aG (pv 2) (aN (wF T.cw5 bg9)))))))))))))))),by unfold pX;walk_at "r"⟩) rfl (λ_=>rfl)
theorem zP:fL P w K mg base 1 "_law_true_of_one" ["_law_base_here","_law_words","_law_year"] (bK K cn 3 cG):=by
 refine bO (d:=fO) T.zQ bR (by walk_at "u") (λf cdv A outer s H E hr=>⟨_,(aH (kD (pv 0) (dX K 5 rfl (aW (pn 3 bR) (aW (pn 4 bR) (aW (pn 5 bR) (aW (pn 6 bR) (aW (pn 7 bR) dW)))))))
 (aH (bW (pc (oe K hr) (px K (pv 1) aF) bC) (aH (pz 8 bR (px K (pm [13,14] (iW K (pv 6)) (λ_ _ _ _ _=>(dX K 2 rfl (aW (pn 13 bR) (aW (pn 14 bR) dW)))) (λ_ _ _ _ _=>(qK (pc (oe K hr) (pv 13) (px K (pv 1) aF)))) (λ_ _ _ _ _=>(pv 14))) aF))
 (aH (pz 9 bR (aK cT (pv 4) (pv 2)))
 (aH (pz 10 bR (px K (pv 8) (aK cT (aU (cF K) rfl T.eX dY (aN (pv 8))) aF)))
 (aH (bW (pc ag3 (pv 9) (aU (cF K) rfl T.eX dY (aN (pv 8)))) (aL (pz 10 bR (px K (pv 8) (pv 9)))) bJ)
 (aL (aV (lK (cS gQ (aK cT (pv 10) (px K (pv 1) aF)) (px K (pv 1) aF) (eE _)) (jS (cS gQ (px K (pv 1) aF) (aK (bB K) (pv 10) (px K (pv 1) aF)) (eE _)))))))))) bJ)
 (aH (bW (pc (oe K hr) (px K (pv 1) aF) bC) (aL (aV (lK (cS gQ (px K (pv 1) aF) (pv 2) (eE _)) (jS (cS gQ (pv 2) (px K (pv 1) aF) (eE _)))))) bJ)
 (aH (kD (px K (pm [13,11,12] (iW K (pv 7)) (λ_ _ _ _ _=>(dX K 3 rfl (aW (pn 13 bR) (aW (pn 11 bR) (aW (pn 12 bR) dW))))) (λ_ _ _ _ _=>(qK (pc (oe K hr) (pv 13) (px K (pv 1) aF)))) (λ_ _ _ _ _=>(kN (aG (pv 11) (aN (pv 12)))))) aF) (dX K 2 rfl (aW (pn 11 bR) (aW (pn 12 bR) dW))))
 (aH (bW (pc (oe K hr) (px K (pv 1) aF) bC) (aL (aV (cS (oe K hr) (pv 2) (aK cT (aK (bB K) (pv 11) (px K (pv 1) aF)) aF) (eE _)))) bJ)
 (aL (aV (lK (cS gQ (pv 11) (pv 2) (eE _)) (jS (cS ag3 (pv 2) (aK (bB K) (pv 11) (pv 12)) (eE _))))))))))),by unfold fO;walk_at "r"⟩) rfl (λ_=>rfl)
theorem ac3:fL P w K mg base 2 "_law_true" ["_law_base_here","_law_words","_law_years"] (bK K cn 3 dG):=by
 refine bO (d:=kO) T.bh6 qR (by walk_at "u") (λf cdv A outer s H E hr=>⟨_,(aH (pz 3 qR (px K (pv 0) aF))
 (aH (pz 4 qR (px K (pv 2) (mQ K PySem.F.plainAttrs_list PySem.F.slot_list_index PySem.F.type_list_index (mZ K (n:=bZ) hr) (pv 3) (aN (px K (pv 1) aF)))))
 (aH (bW (uN (rO K (n:=bZ) hr) (px K (pv 1) aF) (cI (aG bC (aG bC (aG bC (aN bC))))) (by with_unfolding_all rfl)) (aL (aV (pf (zP T:) hr (aG (pv 0) (aG (pv 1) (aN (pv 4))))))) bJ)
 (aH (pz 5 qR (px K (pv 2) (mQ K PySem.F.plainAttrs_list PySem.F.slot_list_index PySem.F.type_list_index (mZ K (n:=bZ) hr) (pv 3) (aN (px K (pv 1) aF)))))
 (aH (bW (pc (oe K hr) (px K (pv 1) aF) bC) (aL (aV (cS bq4 (pv 4) (pv 5) (eE _)))) bJ)
 (aH (bW (pc (oe K hr) (px K (pv 1) aF) bC) (aL (aV (cS (oe K hr) (pv 4) (pv 5) (eE _)))) bJ)
 (aH (bW (pc (oe K hr) (px K (pv 1) aF) bC) (aL (aV (lK (cS gQ (pv 5) (pv 4) (eE _)) (jS (cS gQ (pv 4) (aK (bB K) (pv 5) (px K (pv 1) aF)) (eE _)))))) bJ)
 (aL (aV (lK (cS gQ (aK (bB K) (pv 5) (px K (pv 1) aF)) (pv 4) (eE _)) (jS (cS gQ (pv 4) (aK (bB K) (pv 5) (px K (pv 1) aF)) (eE _))))))))))))),by unfold kO;walk_at "r"⟩) rfl (λ_=>rfl)
theorem ax1:fL P w K mg base 1 "_law_lies" ["_law_bounds","_law_number"] (bK K cn 2 nB):=by
 refine bO (d:=rZ) T.bl6 be2 (by walk_at "u") (λf cdv A outer s H E hr=>⟨_,(aL (aV (lK (bb5 (cS uZ (px K (pv 0) aF) mB (eE _)) (jS (cS gQ (px K (pv 0) aF) (pv 1) (eE _)))) (jS (bb5 (cS uZ (px K (pv 0) aF) mB (eE _)) (jS (cS gQ (pv 1) (px K (pv 0) aF) (eE _)))))))),by unfold rZ;walk_at "r"⟩) rfl (λ_=>rfl)
theorem yL:fL P w K mg base 3 "_law_bounds_right" ["_law_base_here","_law_words","_law_bounds"] (bK K cn 3 cB):=by
 refine bO (d:=eK) T.yZ cE (by walk_at "u") (λf cdv A outer s H E hr=>⟨_,(aH (kD (pv 0) (dX K 5 rfl (aW (pn 3 cE) (aW (pn 4 cE) (aW (pn 5 cE) (aW (pn 6 cE) (aW (pn 7 cE) dW)))))))
 (aH (bW (iD (eJ K (pf (az9 T:) hr (aG (pv 2) (aN (px K (pv 1) aF)))) (λ_=>rfl))) (aL (aV iA)) bJ)
 (aH (pz 8 cE (aK (cx7 K) (cI (aN (pv 3))) (aU (cF K) rfl T.eX dY (aN (pv 5)))))
 (aH (pz 9 cE (mQ K PySem.F.plainAttrs_list PySem.F.slot_list_index PySem.F.type_list_index (mZ K (n:=bZ) hr) (pv 5) (aN (px K (pv 1) aF))))
 (aH (bW (uN (rO K (n:=bZ) hr) (px K (pv 1) aF) (cI (aG bC (aG bC (aG bC (aN bC))))) (by with_unfolding_all rfl)) (aH (kK PassesOwn.never rfl (xM rfl T.jQ (aG (pv 3) (aN (aK (bB K) (pv 4) aF)))) (pn 10 cE) (aH (kD (pv 10) (bb9 (pv 8) (pv 9) ai9))
 (aL (bW (pc (rF K (n:=bZ) hr) (pf (ac3 T:) hr (aG (pv 0) (aG (pv 1) (aN (pv 8))))) (pf (ax1 T:) hr (aG (pv 2) (aN (pv 10))))) (aL (aV iA)) bJ))))
 (aH (bW (pc (oe K hr) (px K (pv 1) aF) bC) (aL (aV iA)) bJ)
 (aH (bW (pc (oe K hr) (px K (pv 1) aF) bC) (aL (aV (cS (oe K hr) (pv 2) (kN (aG (px K (pv 1) aF) (aN (px K (pv 1) aF)))) (eE _)))) bJ)
 (aH (kD (px K (pm [14] (iW K (pv 7)) (λ_ _ _ _ _=>(pn 14 cE)) (λ_ _ _ _ _=>(qK (pc (oe K hr) (px K (pv 14) aF) (px K (pv 1) aF)))) (λ_ _ _ _ _=>(kT (tZ K) (pv 14) (jO aF) qE))) aF) (dX K 2 rfl (aW (pn 11 cE) (aW (pn 12 cE) dW))))
 (aH (bW (pc (oe K hr) (px K (pv 1) aF) bC) (aL (aV (cS (oe K hr) (pv 2) (kN (aG (aK cT (aK (bB K) (pv 11) (px K (pv 1) aF)) aF) (aN (aK cT (aK (bB K) (pv 11) (px K (pv 1) aF)) aF)))) (eE _)))) bJ)
 (aL (aV (cS (oe K hr) (pv 2) (kN (aG (pv 11) (aN (aK cT (aK (bB K) (pv 11) (pv 12)) aF)))) (eE _))))))))) bJ)
 (aH (kK PassesOwn.never rfl (xM rfl T.jQ (aG (vS sY aF) (aN aF))) (pn 13 cE) (aH (kD (aK (bB K) (pv 3) (pv 13)) (bb9 (pv 8) (pv 9) ai9))
 (aL (bW (pc (rF K (n:=bZ) hr) (pf (ac3 T:) hr (aG (pv 0) (aG (pv 1) (aN (pv 8))))) (pf (ax1 T:) hr (aG (pv 2) (aN (pv 13))))) (aL (aV iA)) bJ))))
 (aL (aV iA)))))))),by unfold eK;walk_at "r"⟩) rfl (λ_=>rfl)
theorem bg2:fL P w K mg base 6 "_law_right" ["_law_base_here","_law_archive","_law_words"] (bK K cn 3 kQ):=by
 refine bO (d:=nX) T.bs2 gE (by walk_at "u") (λf cdv A outer s H E hr=>⟨_,(aH (pz 3 gE (iP (jK K) rfl T.nZ mG (aN (kT (tZ K) (pv 2) (jO aF) qE))))
 (aH (pz 4 gE (pf (bn2 T:) hr (aG (pv 1) (aG (px K (pv 2) aF) (aN (pv 3))))))
 (aH (pk 5 gE [9] (iW K (kT (tZ K) (pv 2) (jO aF) (jO aF))) (λ_ _ _ _ _=>(pn 9 gE)) (λ_ _ _ _ _=>(qK (uN (rO K (n:=bZ) hr) (pv 9) (px K (pv 0) aF) (by with_unfolding_all rfl)))) (λ_ _ _ _ _=>(pv 9)))
 (aH (pz 6 gE (cI (aN (mQ K PySem.F.plainAttrs_list PySem.F.slot_list_index PySem.F.type_list_index (mZ K (n:=bZ) hr) (px K (pv 0) aF) (aN (px K (pv 2) aF))))))
 (aH (bW (uN (rO K (n:=bZ) hr) (px K (pv 2) aF) (cI (aG bC (aG bC (aG bC (aN bC))))) (by with_unfolding_all rfl)) (aL (mH (pap K (pv 6) (aN (mQ K PySem.F.plainAttrs_list PySem.F.slot_list_index PySem.F.type_list_index (mZ K (n:=bZ) hr) (px K (pv 0) aF) (aN (px K (pv 2) aF))))))) bJ)
 (aH (bW (PW.pt (tO (iD (eJ K (pf (bb2 T:) hr (aG (pv 4) (aN (px K (pv 2) aF)))) (λ_=>rfl))) (vL (pc ag3 (aU (cF K) rfl T.eX dY (aN (pv 5))) (aU (cF K) rfl T.eX dY (aN (pv 6))))))) (aL (aV iA)) bJ)
 (aH (kK PassesOwn.never rfl (jM rfl T.jQ (aN aF)) (pn 7 gE) (aH (pz 8 gE (yU (pv 4) (ch6 T:) (hr.mono (by decide))))
 (aH (bW (PW.pt (tO (iD (eJ K (aU (mX K) rfl T.cY cQ (aG (pv 8) (aN (wF T.nZ mG)))) (λ_=>rfl))) (tO (pc (rF K (n:=bZ) hr) (pv 8) (pv 6)) (vL (eJ K (aU (at6 K) rfl T.cu5 ba7 (aN (pm [10] (iW K (pv 8)) (λ_ _ _ _ _=>(pn 10 gE)) (λ_ _ _ _ _=>eZ) (λ_ _ _ _ _=>(aU (mX K) rfl T.cY cQ (aG (pv 10) (aN (wF T.bl1 at4)))))))) (λ_=>rfl)))))) (aL (aV iA)) bJ)
 (aH (mH (pap K (pv 8) (aN aF)))
 (aH (bW (PW.pt (tO (pc (rF K (n:=bZ) hr) (yU (pv 4) (cv8 T:) (hr.mono (by decide))) (mQ K PySem.F.plainAttrs_str PySem.F.slot_str_join PySem.F.type_str_join (bi0 K) bC (aN (pm [11] (iW K (pv 2)) (λ_ _ _ _ _=>(pn 11 gE)) (λ_ _ _ _ _=>eZ) (λ_ _ _ _ _=>(iP ad7 rfl T.cx5 bp7 (aN (pv 11)))))))) (vL (pc (rF K (n:=bZ) hr) (kT (tZ K) (pv 3) qE (jO (aK cT (aU (cF K) rfl T.eX dY (aN (pv 2))) aF))) (kT (tZ K) (pv 2) (jO aF) qE))))) (aL (aV iA)) bJ)
 (aL (mH (pap K (pv 3) (aN bC)))))))))
 (aL (aV (pf (yL T:) hr (aG (pv 0) (aG (pv 2) (aN (yU (pv 4) (cc3 T:) (hr.mono (by decide)))))))))))))))),by unfold nX;walk_at "r"⟩) rfl (λ_=>rfl)
theorem da1{f:Addr}{fd:FuncData}(F:Fun K "law" "law" rW f fd):FnOk P w K mg base lB 7 f fd ["_law_script"] (bK K cn 1 aq8):=by
 refine as4 (d:=at8) F lD (λcdv A outer s H E hr=>⟨_,(aH (pz 0 lD (pf (vV T:) hr (aN (pv 0))))
 (aH (pz 1 lD (pf (bd5 T:) hr (aG (pv 0) (aG (px K (cI (aG aF (aG aF (aN aF)))) (aK bN (pf (yM T:) hr (aG (pv 0) (aN aF))) aF)) (aN aF)))))
 (aH (kD (pv 1) (dX K 5 rfl (aW (pn 2 lD) (aW (pn 3 lD) (aW (pn 4 lD) (aW (pn 5 lD) (aW (pn 6 lD) dW)))))))
 (aH (pz 7 lD (pC (bu8 T:) (hr.mono (by decide)) (aG (pv 2) (aG (pv 3) (aG (iP (jK K) rfl T.nZ mG (aN (pv 4))) (aG (pm [10,11] (iW K (pv 5)) (λ_ _ _ _ _=>(dX K 2 rfl (aW (pn 10 lD) (aW (pn 11 lD) dW)))) (λ_ _ _ _ _=>eZ) (λ_ _ _ _ _=>(kN (aG (pv 10) (aN (iP (jK K) rfl T.nZ mG (aN (pv 11)))))))) (aN (iP (jK K) rfl T.nZ mG (aN (pv 6))))))))))
 (aH (pz 8 lD (px K (cI (aG (aK cT (pv 3) (pv 2)) (aG aF (aN aF)))) (aK bN (aK jP (pf (yM T:) hr (aG (pv 0) (aN aF))) aF) aF)))
 (aH (kK PassesOwn.never rfl (iW K (aK (bB K) (kT (tZ K) (pv 0) (jO aF) (jO aF)) (cI (aN aF)))) (pn 9 lD) (aL (bW (iD (eJ K (pf (bg2 T:) hr (aG (pv 1) (aG (pv 7) (aN (pf (ae9 T:) hr (aG (pv 1) (aG (aU (rC K) rfl T.ap3 xF (aN (pv 9))) (aN (pv 8))))))))) (λ_=>rfl))) (aL (aV iA)) bJ)))
 (aL (aV iA)))))))),by unfold at8;walk_at "r"⟩) rfl (λ_=>rfl)
end
theorem dn4{l:PySem.W.OpenLaw}{w:World}{K:PySem.W.Frag}{h:Heap}{mg:Str->Option Value}{fa f0:Addr}(X:K.In h)(G:h.Ns mainGlobals mg)(hfa:mg "law"=some (.ref fa))
 {od0 an0:Option Addr}{sl0:Array (Option Value)}{oc0 kV0 dc0 pm0 cd0 ct0:Value}
 (a0:PySem.W.nsIn K mainGlobals "law"=some (some (.ref f0)))(l0:K.lookup f0=some ⟨oc0,od0,.func (PySem.W.fnOf "law" "law" (jZ rW) (dS rW) (aM rW) .none kV0 dc0 pm0 an0 cd0 ct0),sl0⟩)(c0:PySem.W.codeIn K cd0 "law"=true)(k0:PySem.W.keepIn K (.ref f0)=true)
 {cn:Str->Option Addr}{c_Ink c_Reign c_Under c_Between c_After c_Same c_Within c_Apart c_Archive c_Saying:Addr}{oQ sO iI:List (Str×Value)}
 (T:Txt w K cn mg c_Ink c_Reign c_Under c_Between c_After c_Same c_Within c_Apart c_Archive c_Saying oQ sO iI)
 (main:∀ns:List Int,ns.length<=63->(∀n∈ns,Builtin.Int.intBits n<=1048576)->aq8 [.lst false (ns.map .int)]=.ok (.bl true)):
 ∃fd:FuncData,(∀(s:Shared)(v:Value),BindsTo s fd ⟨[v],[]⟩ [("_law_script",v)])/\∀base:Heap,K.In base->base.Ns mainGlobals mg->FnOk l.prog w K mg base lB 7 fa fd ["_law_script"] (ao8 K):=by
 have e:=hfa.symm.trans (PySem.W.mg_of X G a0)
 cases e
 have F0:=ad3 (st:=rW) l0 c0 k0
 have key:∀base:Heap,FnOk l.prog w K mg base lB 7 fa (PySem.W.fnOf "law" "law" (jZ rW) (dS rW) (aM rW) .none kV0 dc0 pm0 an0 cd0 ct0) ["_law_script"] (ao8 K):=by
  intro base
  exact law_fn (da1 T F0) main
 exact⟨_,λs v=>.of_eq rfl,λbase _ _=>key base⟩
theorem ai0{α:Type}(xs:List α)(k:Nat)(h:k<=xs.length):fP xs (some (k:Int)) none=xs.drop k:=by
 unfold fP
 have e1:HT.sIx xs.length 0 (some (k:Int))=k:=by
  simp only[HT.sIx]
  rw[if_neg (by omega)]
  omega
 have e2:HT.sIx xs.length xs.length none=xs.length:=rfl
 rw[e1,e2,List.take_of_length_le (by simp)]
theorem bb1{α:Type}(xs:List α)(k:Nat):fP xs none (some (k:Int))=xs.take k:=by
 unfold fP
 have e1:HT.sIx xs.length 0 none=0:=rfl
 have e2:HT.sIx xs.length xs.length (some (k:Int))=min k xs.length:=by
  simp only[HT.sIx]
  rw[if_neg (by omega)]
  omega
 rw[e1,e2,List.drop_zero,Nat.sub_zero]
 rw[List.take_eq_take_iff]
 omega
structure Fm where
 first:Int
 span:Int
 names:List Str
 inks:List (Str×List Int)
 reigns:List (Str×Int×Int)
def dR(o:Bool)(p:Str×List Int):T:=.tup [.str p.1,.lst o (p.2.map .int)]
def eW(p:Str×Int×Int):T:=.tup [.str p.1,.int p.2.1,.int p.2.2]
def cH(o:Bool)(f:Fm):T:=.tup [.int f.first,.int (f.first+f.span),.lst o (f.names.map .str),.lst o (f.inks.map (dR o)),.lst o (f.reigns.map eW)]
def kX(w:Str):Bool:=decide (1<=(w.length:Int))&&(decide ((w.length:Int)<=8)&&w.cps.toList.all λc=>occ "abcdefghijklmnopqrstuvwxyz" ⟨#[c]⟩)
structure TabOk (xs:List Int):Prop where
 l1:1<=xs.length
 l60:xs.length<=60
 b:∀x∈xs,0<=x/\x<=1000000
 f:xs.Pairwise (λa b=>b<=a)
structure Gd (f:Fm):Prop where
 s0:0<=f.span
 s1:f.span<=300
 f0:-3000<=f.first
 f1:f.first+f.span<=3000
 n1:1<=f.names.length
 n8:f.names.length<=8
 nn:∀x∈f.names,kX x=true
 nd:f.names.Nodup
 i1:1<=f.inks.length
 i6:f.inks.length<=6
 ind:(f.inks.map (·.1)).Nodup
 inn:∀p∈f.inks,kX p.1=true/\TabOk p.2
 r1:1<=f.reigns.length
 r8:f.reigns.length<=8
 rnd:(f.reigns.map (·.1)).Nodup
 rn:∀p∈f.reigns,kX p.1=true/\-4000<=p.2.1/\p.2.1<=4000/\1<=p.2.2/\p.2.2<=100
theorem iR(l:List Int){i:Int}(h0:0<=i)(h1:i<l.length):∃v,atI (l.map T.int) i=some (.int v)/\v∈l:=by
 obtain⟨k,rfl⟩:=lI h0
 have hk:k<l.length:=by omega
 exact⟨l[k],gM (by simp[hk]),List.getElem_mem hk⟩
theorem bx6(l:List Str){i:Nat}(h1:i<l.length):∃v,atI (l.map T.str) (0+(i:Int))=some (.str v)/\l[i]?=some v:=by
 rw[Int.zero_add]
 exact⟨l[i],gM (by simp[h1]),List.getElem?_eq_getElem h1⟩
theorem cR(l:List (Str×List Int)):aP (l.map (dR false))=true:=oT (λa=>by simp only[dR,cO,aP,kP,Bool.not_false,Bool.and_self]) l
theorem uD(l:List (Str×List Int)):fB (l.map (dR true))=true:=pQ (λa=>by simp only[dR,fN,fB,nT,Bool.and_self]) l
theorem lN(o:Bool):∀l:List (Str×List Int),frzs (l.map (dR o))=l.map (dR false)
 |[]=>rfl
 |p::l=>by simp only[List.map_cons,frzs,lN o l,dR,frz,tQ]
theorem cV(l:List (Str×Int×Int)):aP (l.map eW)=true:=oT (λa=>rfl) l
theorem sJ(l:List (Str×Int×Int)):fB (l.map eW)=true:=pQ (λa=>rfl) l
theorem oJ(l:List (Str×Int×Int)):frzs (l.map eW)=l.map eW:=wM (λa=>rfl) l
theorem kB{n:Nat}(h:n<=100000):n<=sizeLine:=Nat.le_trans h (by decide)
theorem dg9{α:Type}(l:List α)(p:α->Bool):(l.map λc=>p c).all id=l.all p:=by
 induction l with
 |nil=>rfl
 |cons a l ih=>simp only[List.map_cons,List.all_cons,ih,id]
theorem nM{α:Type}{b:T->Fr->Option Fr}{c:Fr->Res Bool}{d:Fr->Res T}{ρ:Fr}{g f:α->T}:∀{l:List α},(∀a∈l,(match b (g a) ρ with|some ρ1=>(c ρ1).bind λk=>if k=true then d ρ1 else .no|none=>.no)=.ok (f a))->bY b c d ρ (l.map g)=.ok (l.map f)
 |[],_=>rfl
 |a::l,h=>by
  have h0:=h a List.mem_cons_self
  have ih:=nM (l:=l) λu hu=>h u (List.mem_cons_of_mem _ hu)
  simp only[List.map_cons,bY]
  cases e:b (g a) ρ with
  |none=>rw[e]at h0;cases h0
  |some ρ1=>
   rw[e]at h0
   simp only at h0⊢
   cases e2:c ρ1 with
   |ok k=>
    rw[e2]at h0
    simp only[kA]at h0⊢
    cases k with
    |true=>rw[if_pos rfl]at h0⊢;rw[h0,ih];rfl
    |false=>rw[if_neg (by decide)]at h0;cases h0
   |ex x=>rw[e2]at h0;cases h0
   |no=>rw[e2]at h0;cases h0
theorem bx0(w s:Str)(m:Int)(hw:w.length<=100000):pR [.str w,.str s,.int m]=.ok (.bl (decide (1<=(w.length:Int))&&(decide ((w.length:Int)<=m)&&w.cps.toList.all λc=>occ s ⟨#[c]⟩))):=by
 unfold pR pE
 have h2:w.cps.toList.length<=sizeLine:=by rw[<-vA];exact kB hw
 have hc:bY (aI 3) cZ (aE (gY false) (aB 3) (aB 1)) [some (.str w),some (.str s),some (.int m),none] (w.cps.toList.map λc=>T.str ⟨#[c]⟩)=.ok ((w.cps.toList.map λc=>occ s ⟨#[c]⟩).map .bl):=by
  rw[List.map_map]
  exact gU λc _=>by walk_at "ev";rfl
 walk_at "ev"
 cases hA:decide (1<=(w.length:Int))with
 |false=>walk_at "ev"
 |true=>
  cases hB:decide ((w.length:Int)<=m)with
  |false=>walk_at "ev"
  |true=>
   walk_at "ev"
   rw[dg9]
theorem xS{w:Str}(h:kX w=true):w.length<=8:=by
 unfold kX at h
 simp only[Bool.and_eq_true,decide_eq_true_iff]at h
 omega
theorem bx8{w:Str}(h:kX w=true):rK [.str w]=.ok (.bl true):=by
 unfold rK tY
 have h1:=bx0 w "abcdefghijklmnopqrstuvwxyz" 8 (by have:=xS h;omega)
 rw[show(decide (1<=(w.length:Int))&&(decide ((w.length:Int)<=8)&&w.cps.toList.all λc=>occ "abcdefghijklmnopqrstuvwxyz" ⟨#[c]⟩))=true from h]at h1
 walk_at "ev"
theorem aq1(x l u:Int):dD [.int x,.int l,.int u]=.ok (.bl (decide (l<=x)&&decide (x<=u))):=by
 have h:sB [.int x]=.ok (.bl true):=by
  unfold sB rV
  walk_at "ev"
 unfold dD mM
 cases hA:decide (l<=x)with
 |true=>walk_at "ev"
 |false=>walk_at "ev"
theorem oI{x l u:Int}(h1:l<=x)(h2:x<=u):dD [.int x,.int l,.int u]=.ok (.bl true):=by
 rw[aq1,decide_eq_true h1,decide_eq_true h2]
 rfl
theorem dk2{α:Type}(l:List α):l.map (λ_=>T.bl true)=(l.map λ_=>true).map T.bl:=by rw[List.map_map];rfl
theorem sN{α:Type}(o:Bool)(l:List α):lP false [.lst o (l.map λ_=>T.bl true)]=.ok (.bl true):=by
 rw[dk2,ay2]
 simp
theorem qI{xs:List Int}{i:Nat}(h:i<xs.length):atI (xs.map T.int) (i:Int)=some (.int (xs.getD i 0)):=
 gM (by rw[List.getElem?_map,List.getElem?_eq_getElem h,List.getD_eq_getElem?_getD,List.getElem?_eq_getElem h];rfl)
theorem dv4{xs:List Int}(h:xs.Pairwise (λa b=>b<=a)){i:Nat}(hi:i+1<xs.length):xs.getD (i+1) 0<=xs.getD i 0:=by
 rw[List.pairwise_iff_getElem]at h
 have:=h i (i+1) (by omega) hi (by omega)
 simpa[List.getD_eq_getElem?_getD,List.getElem?_eq_getElem hi,List.getElem?_eq_getElem (show i<xs.length by omega)]using this
theorem ba6(o:Bool){xs:List Int}(h:TabOk xs):oY [.lst o (xs.map .int)]=.ok (.bl true):=by
 unfold oY sE
 obtain⟨h1,h60,hb,hf⟩:=h
 have hc1:bY (aI 1) cZ (bS 3 dD (aD (aB 1) (aD (dC (.int 0)) (aD (dC (.int 1000000)) aJ)))) [some (.lst o (xs.map .int)),none,none] (xs.map .int)=.ok (xs.map λ_=>.bl true):=by
  refine gU λc hc=>?_
  have:=oI (hb c hc).1 (hb c hc).2
  walk_at "ev"
 have hc2:bY (aI 2) cZ (aE kW (aE aS (aB 0) (aB 2)) (aE aS (aB 0) (aE eA (aB 2) (dC (.int 1))))) [some (.lst o (xs.map .int)),none,none] (hV 1 ((xs.length:Int)-1).toNat)=.ok ((List.range (xs.length-1)).map λ_=>.bl true):=by
  unfold hV
  rw[show((xs.length:Int)-1).toNat=xs.length-1 by omega]
  refine gU λi hi=>?_
  have hi:=List.mem_range.mp hi
  have a1:atI (xs.map T.int) (1+(i:Int))=some (.int (xs.getD (i+1) 0)):=by
   rw[show(1:Int)+(i:Int)=((i+1:Nat):Int) by omega]
   exact qI (by omega)
  have a2:atI (xs.map T.int) (1+(i:Int)-1)=some (.int (xs.getD i 0)):=by
   rw[show(1:Int)+(i:Int)-1=(i:Int) by omega]
   exact qI (by omega)
  have a3:=decide_eq_true (dv4 hf (i:=i) (by omega))
  walk_at "ev"
 have hl2:(hV 1 ((xs.length:Int)-1).toNat).length<=sizeLine:=by rw[kI];exact kB (by omega)
 have k1:decide (1<=(xs.length:Int))=true:=decide_eq_true (by omega)
 have k2:decide ((xs.length:Int)<=60)=true:=decide_eq_true (by omega)
 have y1:=λo=>sN o xs
 have y2:=λo=>sN o (List.range (xs.length-1))
 clear hb hf
 walk_at "ev"
theorem bp5{b l:Int}(h1:-4000<=b)(h2:b<=4000)(h3:1<=l)(h4:l<=100):pF [.int b,.int l]=.ok (.bl true):=by
 unfold pF sC
 have k1:=oI h1 h2
 have k2:=oI h3 h4
 walk_at "ev"
theorem bl2{a b:Int}(h1:-3000<=a)(h2:a<=b)(h3:b<=3000)(h4:b-a<=300):qX [.int a,.int b]=.ok (.bl true):=by
 unfold qX qT
 have k1:=oI h1 (show a<=3000 by omega)
 have k2:=oI (show -3000<=b by omega) h3
 have k3:decide (0<=b-a)=true:=decide_eq_true (by omega)
 have k4:decide (b-a<=300)=true:=decide_eq_true (by omega)
 walk_at "ev"
theorem uG{o:Bool}{ss:List Str}{l u:Int}(h1:l<=ss.length)(h2:(ss.length:Int)<=u)(h3:ss.length<=1000)(hn:∀x∈ss,kX x=true)(nd:ss.Nodup):mI [.lst o (ss.map .str),.int l,.int u]=.ok (.bl true):=by
 unfold mI qO
 have hc:bY (aI 3) cZ (bS 1 rK (aD (aB 3) aJ)) [some (.lst o (ss.map .str)),some (.int l),some (.int u),none] (ss.map .str)=.ok (ss.map λ_=>.bl true):=by
  refine gU λc hc=>?_
  have:=bx8 (hn c hc)
  walk_at "ev"
 have k1:decide (l<=(ss.length:Int))=true:=decide_eq_true h1
 have k2:decide ((ss.length:Int)<=u)=true:=decide_eq_true h2
 have y1:=λo=>sN o ss
 have ls:=cm0 o nd h3
 have l4:ss.length<=100000:=by omega
 clear hn nd
 walk_at "ev"
 simp
theorem ba5{is:List (Str×List Int)}(h6:is.length<=6)(nd:(is.map (·.1)).Nodup)(ok:∀p∈is,kX p.1=true/\TabOk p.2):rX [.lst false (is.map (dR false))]=.ok (.bl true):=by
 unfold rX sD
 have hc1:bY (eF (bA (aI 1) (bA (aI 2) eI))) cZ (bE (aB 1)) [some (.lst false (is.map (dR false))),none,none] (is.map (dR false))=.ok ((is.map (·.1)).map .str):=by
  rw[List.map_map]
  exact nM λp _=>by simp only[dR];walk_at "ev";rfl
 have hc2:bY (eF (bA (aI 1) (bA (aI 2) eI))) cZ (bS 1 oY (aD (aB 2) aJ)) [some (.lst false (is.map (dR false))),none,none] (is.map (dR false))=.ok (is.map λ_=>.bl true):=by
  refine nM λp hp=>?_
  simp only[dR]
  have:=ba6 false (ok p hp).2
  walk_at "ev"
 have nm:=uG (o:=false) (ss:=is.map (·.1)) (l:=0) (u:=6) (by omega) (by simp;omega) (by simp;omega) (λx hx=>by
  obtain⟨p,hp,rfl⟩:=List.mem_map.mp hx
  exact(ok p hp).1) nd
 have y1:=λo=>sN o is
 have n1:=cR is
 have l4:is.length<=100000:=by omega
 clear ok nd
 walk_at "ev"
theorem aa9{rs:List (Str×Int×Int)}(h8:rs.length<=8)(nd:(rs.map (·.1)).Nodup)(ok:∀p∈rs,kX p.1=true/\-4000<=p.2.1/\p.2.1<=4000/\1<=p.2.2/\p.2.2<=100):pS [.lst false (rs.map eW)]=.ok (.bl true):=by
 unfold pS pN
 have hc1:bY (eF (bA (aI 1) (bA (aI 2) (bA (aI 3) eI)))) cZ (bE (aB 1)) [some (.lst false (rs.map eW)),none,none,none] (rs.map eW)=.ok ((rs.map (·.1)).map .str):=by
  rw[List.map_map]
  exact nM λp _=>by simp only[eW];walk_at "ev";rfl
 have hc2:bY (eF (bA (aI 1) (bA (aI 2) (bA (aI 3) eI)))) cZ (bS 2 pF (aD (aB 2) (aD (aB 3) aJ))) [some (.lst false (rs.map eW)),none,none,none] (rs.map eW)=.ok (rs.map λ_=>.bl true):=by
  refine nM λp hp=>?_
  simp only[eW]
  obtain⟨_,k1,k2,k3,k4⟩:=ok p hp
  have:=bp5 k1 k2 k3 k4
  walk_at "ev"
 have nm:=uG (o:=false) (ss:=rs.map (·.1)) (l:=0) (u:=8) (by omega) (by simp;omega) (by simp;omega) (λx hx=>by
  obtain⟨p,hp,rfl⟩:=List.mem_map.mp hx
  exact(ok p hp).1) nd
 have y1:=λo=>sN o rs
 have n1:=cV rs
 have l4:rs.length<=100000:=by omega
 clear ok nd
 walk_at "ev"
def cP(o:Bool)(f:Fm):T:=.ins o "Archive" ["first","present","letters","inks","reigns"] [.int f.first,.int (f.first+f.span),.lst o (f.names.map .str),.lst o (f.inks.map (dR o)),.lst o (f.reigns.map eW)]
theorem fi1:gG "first" []=none:=rfl
theorem fi2:gG "present" ["first"]=none:=by decide+kernel
theorem fi3:gG "letters" ["first","present"]=none:=by decide+kernel
theorem fi4:gG "inks" ["first","present","letters"]=none:=by decide+kernel
theorem fi5:gG "reigns" ["first","present","letters","inks"]=none:=by decide+kernel
theorem ct1:(["Archive"]:List Str).contains "Archive"=true:=by decide+kernel
theorem bp0{f:Fm}(g:Gd f):pL [.int f.first,.int (f.first+f.span),.lst false (f.names.map .str),.lst false (f.inks.map (dR false)),.lst false (f.reigns.map eW)]=.ok (cP true f):=by
 unfold pL lL cP
 have k1:=bl2 g.f0 (show f.first<=f.first+f.span by have:=g.s0;omega) g.f1 (by have:=g.s1;omega)
 have k2:=uG (o:=false) (l:=1) (u:=8) (ss:=f.names) (by have:=g.n1;omega) (by have:=g.n8;omega) (by have:=g.n8;omega) g.nn g.nd
 have k3:=ba5 g.i6 g.ind g.inn
 have k4:=aa9 g.r8 g.rnd g.rn
 have n1:=cR f.inks
 have n2:=cV f.reigns
 have z1:=lN false f.inks
 have z2:=oJ f.reigns
 have i1:=fi1
 have i2:=fi2
 have i3:=fi3
 have i4:=fi4
 have i5:=fi5
 have c1:=ct1
 have d0:∀x y z:T,bY (eF (bA (aI 6) (bA (aI 7) eI))) cZ (kS (aD (bE (aB 6)) (aD (bT jW (aD (aB 7) aJ)) aJ))) [some x,some (.int f.first),some (.int (f.first+f.span)),some y,some (.lst false (f.inks.map (dR false))),some z,none,none,none,none] (f.inks.map (dR false))=.ok (f.inks.map (dR true)):=λx y z=>
  nM λp _=>by simp only[dR];walk_at "ev"
 have d1:∀x y z:T,bY (eF (bA (aI 6) (bA (aI 8) (bA (aI 9) eI)))) cZ (kS (aD (bE (aB 6)) (aD (bE (aB 8)) (aD (bE (aB 9)) aJ)))) [some x,some (.int f.first),some (.int (f.first+f.span)),some y,some z,some (.lst false (f.reigns.map eW)),none,none,none,none] (f.reigns.map eW)=.ok (f.reigns.map eW):=λx y z=>
  nM λp _=>by simp only[eW];walk_at "ev"
 have l5:f.reigns.length<=100000:=by have:=g.r8;omega
 have l4:f.inks.length<=100000:=by have:=g.i6;omega
 clear g
 have q1:decide (0<1000)=true:=rfl
 have q2:decide (1<1000)=true:=rfl
 have q3:decide (2<1000)=true:=rfl
 have q4:decide (3<1000)=true:=rfl
 have q5:decide (4<1000)=true:=rfl
 walk_at "ev"
theorem lG(o:Bool)(f:Fm):frz (cP o f)=cP false f:=by simp only[cP,frz,frzs,xY,lN,oJ]
theorem jA(f:Fm):cO (cP false f)=true:=by simp only[cP,cO,aP,jN,cR,cV,Bool.not_false,Bool.and_self]
theorem cl3(f:Fm):fN (cP true f)=true:=by simp only[cP,fN,fB,uH,uD,sJ,Bool.and_self]
theorem cx2(o:Bool)(f:Fm):iH ["Archive"] "first" (cP o f)=.ok (.int f.first):=by with_unfolding_all rfl
theorem bx5(o:Bool)(f:Fm):iH ["Archive"] "present" (cP o f)=.ok (.int (f.first+f.span)):=by with_unfolding_all rfl
theorem au1(o:Bool)(f:Fm):iH ["Archive"] "letters" (cP o f)=.ok (.lst o (f.names.map .str)):=by with_unfolding_all rfl
theorem bi3(o:Bool)(f:Fm):iH ["Archive"] "inks" (cP o f)=.ok (.lst o (f.inks.map (dR o))):=by with_unfolding_all rfl
theorem ai6(o:Bool)(f:Fm):iH ["Archive"] "reigns" (cP o f)=.ok (.lst o (f.reigns.map eW)):=by with_unfolding_all rfl
theorem gZ{α:Type}(a:α)(l:List α):atI (a::l) 0=some a:=gM (j:=0) rfl
theorem gX{α:Type}(a b:α)(l:List α):atI (a::b::l) 1=some b:=gM (j:=1) rfl
theorem kU{α:Type}(a b c:α)(l:List α):atI (a::b::c::l) 2=some c:=gM (j:=2) rfl
theorem qA{α:Type}(a b c d:α)(l:List α):atI (a::b::c::d::l) 3=some d:=gM (j:=3) rfl
theorem ix4{α:Type}(a b c d e:α)(l:List α):atI (a::b::c::d::e::l) 4=some e:=gM (j:=4) rfl
def qB:Option Int->T
 |none=>.non
 |some h=>.int h
def rP:List Str:=["Ink","Reign","Under","Between","After","Same","Within","Apart"]
def cU(o:Bool)(c:Str)(ls:List Int)(lo:Int)(hi:Option Int)(x:Str):T:=.ins o c ["spoken","low","high","text"] [.lst o (ls.map .int),.int lo,qB hi,.str x]
theorem am4(h:Option Int):cO (qB h)=true/\fN (qB h)=true/\frz (qB h)=qB h:=by cases h<;>exact⟨rfl,rfl,rfl⟩
theorem qG(h:Option Int):cO (qB h)=true:=(am4 h).1
theorem aj9(h:Option Int):fN (qB h)=true:=(am4 h).2.1
theorem dc2(h:Option Int):frz (qB h)=qB h:=(am4 h).2.2
theorem ab1(c:Str)(ls:List Int)(lo:Int)(hi:Option Int)(x:Str):fN (cU true c ls lo hi x)=true:=by simp only[cU,fN,fB,nT,aj9,Bool.and_self]
theorem df9(c:Str)(ls:List Int)(lo:Int)(hi:Option Int)(x:Str):cO (cU false c ls lo hi x)=true:=by simp only[cU,cO,aP,kP,qG,Bool.not_false,Bool.and_self]
theorem xX(o:Bool)(c:Str)(ls:List Int)(lo:Int)(hi:Option Int)(x:Str):frz (cU o c ls lo hi x)=cU false c ls lo hi x:=by simp only[cU,frz,frzs,tQ,dc2]
theorem fj1:gG "spoken" []=none:=rfl
theorem fj2:gG "low" ["spoken"]=none:=by decide+kernel
theorem fj3:gG "high" ["spoken","low"]=none:=by decide+kernel
theorem fj4:gG "text" ["spoken","low","high"]=none:=by decide+kernel
theorem ct8:∀c∈rP,(["Ink","Reign","Under","Between","After","Same","Within","Apart"]:List Str).contains c=true:=by decide+kernel
theorem bk3{ys:List Str}(h:∀y∈ys,y.length<=2000000)(hl:ys.length<=5)(o:Bool):pM (.str " ") [.lst o (ys.map .str)]=.ok (.str (Txt.join " " ys)):=by
 rw[bj3,if_pos]
 have hs:(ys.map (·.length)).sum<=ys.length*2000000:=by
  clear hl
  induction ys with
  |nil=>simp
  |cons y ys ih=>
   have h1:=h y List.mem_cons_self
   have h2:=ih λz hz=>h z (List.mem_cons_of_mem _ hz)
   simp only[List.map_cons,List.sum_cons,List.length_cons]
   omega
 have h1:(" ":Str).length=1:=by decide+kernel
 rw[h1]
 have:ys.length*2000000<=5*2000000:=Nat.mul_le_mul_right _ hl
 omega
theorem tM(n:Str):∀ss:List Str,nQ (.str n) (ss.map .str)=some (ss.map λs=>s==n)
 |[]=>rfl
 |s::ss=>by
  simp only[List.map_cons,nQ,tM n ss]
  rfl
theorem bt3{n:Str}:∀{ss:List Str}{l:Nat},ss.Nodup->ss[l]?=some n->uK (ss.map λs=>s==n)=some l
 |[],l,_,h=>by simp at h
 |s::ss,0,_,h=>by
  simp at h
  subst h
  simp[uK]
 |s::ss,l+1,nd,h=>by
  rw[List.nodup_cons]at nd
  simp only[List.getElem?_cons_succ]at h
  have hne:(s==n)=false:=by
   simp
   rintro rfl
   exact nd.1 (List.mem_of_getElem? h)
  simp only[List.map_cons,hne,uK,bt3 nd.2 h]
  rfl
theorem gC{f:Fm}(g:Gd f){l:Nat}{n:Str}(h:f.names[l]?=some n)(o:Bool):iC (.lst o (f.names.map .str)) [.str n]=.ok (.int (l:Int)):=by
 simp only[iC,tM,bt3 g.nd h]
theorem bt5{ss:List Str}{n:Str}(h:n∈ss)(o:Bool):gY false (.str n) (.lst o (ss.map .str))=.ok (.bl true):=by
 have:(ss.map λs=>s==n).any id=true:=by
  rw[List.any_map,List.any_eq_true]
  exact⟨n,h,by simp⟩
 simp only[gY,tM,Bool.false_eq_true,if_false,this]
theorem cf1{ts:List T}{ys:List Str}{z:Str}(hn:aP ts=true)(hl:ts.length<=100000)(hx:∀a:Option T,bY (aI 1) cZ (bT oX (aD (aB 1) aJ)) [a,none] ts=.ok (ys.map .str))(hj:pM (.str " ") [.lst true (ys.map .str)]=.ok (.str z)):wL [.lst false ts]=.ok (.str z):=by
 unfold wL wN
 walk_at "ev"
theorem cw9{f:Fm}(g:Gd f){c w:Str}(hc:c∈rP){ps:List T}{ds:List T}{nl:List (Str×Nat)}{xs:List Str}{lo:Int}{hi:Option Int}(hp:aP ps=true)(hpl:ps.length<=4)(hk:kt_PARTS.lookup w=some (.tup ds))(hds:aP ds=true)
 (h7:∀a b d e h i:Option T,bY (eF (bA (aI 7) (bA (aI 8) eI))) (bG (aE dZ (aB 8) (dC (.str "letter")))) (bE (aB 7)) [a,b,d,e,h,i,none,none,none,none] (kL ps ds)=.ok ((nl.map (·.1)).map .str))
 (hn:nl.length<=4)(hnl:∀p∈nl,f.names[p.2]?=some p.1)
 (hx:∀a:Option T,bY (aI 1) cZ (bT oX (aD (aB 1) aJ)) [a,none] (.str w::ps)=.ok ((w::xs).map .str))(hxl:xs.length<=4)(hxb:∀y∈w::xs,y.length<=2000000):
 jX (bV (cN 10 [.ins true c [] [],cP false f,.str w,.lst false ps,.int lo,qB hi]))=.ok (cU true c (nl.map λp=>(p.2:Int)) lo hi (Txt.join " " (w::xs))):=by
 unfold bV cU
 have hl7:(kL ps ds).length<=sizeLine:=by rw[yK];exact kB (by omega)
 have i1:=fj1
 have i2:=fj2
 have i3:=fj3
 have i4:=fj4
 have cc:=ct8 c hc
 have fl:=au1 false f
 have h9:bY (aI 9) cZ (pZ jV iC (eR (iH ["Archive"] "letters") (aB 1)) (aD (aB 9) aJ)) [some (.ins true c [] []),some (cP false f),some (.str w),some (.lst false ps),some (.int lo),some (qB hi),some (.lst true ((nl.map (·.1)).map .str)),none,none,none] ((nl.map (·.1)).map .str)=.ok ((nl.map λp=>(p.2:Int)).map .int):=by
  rw[List.map_map,List.map_map]
  refine gU (α:=Str×Nat) λp hp=>?_
  have:=gC g (hnl p hp) false
  walk_at "ev"
  exact this
 have nh:=qG hi
 have jn:=bk3 (ys:=w::xs) hxb (by simp;omega) true
 have sp:=cf1 (ts:=.str w::ps) (by simp only[aP,cO,hp,Bool.and_self]) (by simp only[List.length_cons];omega) hx jn
 have zp:=fK ps hp
 clear hx jn
 have np:=jN
 have hxl2:1+xs.length<=sizeLine:=kB (by omega)
 have hnn:(nl.map (·.1)).length<=100000:=by simp;omega
 have q1:decide (0<1000)=true:=rfl
 have q2:decide (1<1000)=true:=rfl
 have q3:decide (2<1000)=true:=rfl
 have q4:decide (3<1000)=true:=rfl
 clear g hnl hxb
 walk_at "ev"
theorem bg7{a:T}{ts us:List T}(h:a∈kL ts us):∃(i:Nat)(t u:T),ts[i]?=some t/\us[i]?=some u/\a=.tup [t,u]:=by
 obtain⟨i,hi⟩:=List.getElem?_of_mem h
 obtain⟨t,u,h1,h2,h3⟩:=ac7 hi
 exact⟨i,t,u,h1,h2,h3⟩
theorem bl4{ts:List T}{i:Nat}{t:T}(h:aP ts=true)(e:ts[i]?=some t):cO t=true:=by
 rw[au6,List.all_eq_true]at h
 exact h t (List.mem_of_getElem? e)
theorem bq7{f:Fm}{w:Str}{ps:List T}{ds:List Str}(hk:kt_PARTS.lookup w=some (.tup (ds.map .str)))(hp:aP ps=true)(hl:ps.length=ds.length)(h4:ds.length<=4)
 (h:∀(i:Nat)(d:Str)(p:T),ds[i]?=some d->ps[i]?=some p->gI [cP false f,.str d,p]=.ok (.bl true)):rG [cP false f,.str w,.lst false ps]=.ok (.bl true):=by
 unfold rG tP
 have na:=jA f
 have za:=lG false f
 have hc:bY (eF (bA (aI 3) (bA (aI 4) eI))) cZ (bS 3 gI (aD (aB 0) (aD (aB 3) (aD (aB 4) aJ)))) [some (cP false f),some (.str w),some (.lst false ps),none,none] (kL (ds.map .str) ps)=.ok ((kL (ds.map .str) ps).map λ_=>.bl true):=by
  have:=nM (b:=eF (bA (aI 3) (bA (aI 4) eI))) (c:=cZ) (d:=bS 3 gI (aD (aB 0) (aD (aB 3) (aD (aB 4) aJ)))) (ρ:=[some (cP false f),some (.str w),some (.lst false ps),none,none]) (g:=id) (f:=λ_=>T.bl true) (l:=kL (ds.map .str) ps) λa ha=>?_
  . rw[List.map_id]at this
    exact this
  obtain⟨i,t,u,h1,h2,rfl⟩:=bg7 ha
  rw[List.getElem?_map]at h1
  cases e:ds[i]? with
  |none=>rw[e]at h1;cases h1
  |some d=>
   rw[e]at h1
   cases h1
   have k:=h i d u e h2
   have nu:=bl4 hp h2
   have zu:=rE u nu
   simp only[id]
   clear h hk hp ha
   walk_at "ev"
 have hs:(kt_PARTS.lookup w).isSome=true:=by rw[hk];rfl
 have e1:(!((ps.length:Int)==(ds.length:Int)))=false:=by rw[hl];simp
 have hpl:(kL (ds.map .str) ps).length<=sizeLine:=by rw[yK,List.length_map];exact kB (by omega)
 have y:=λo=>sN o (kL (ds.map .str) ps)
 have nd:=jN ds
 clear h hl
 walk_at "ev"
theorem sP:∀d∈(["ink","reign","dark","place","year","later","gap"]:List Str),(d=="letter")=false:=by decide+kernel
theorem du1:∀d∈(["reign","dark","place","year","later","gap"]:List Str),(d=="ink")=false:=by decide+kernel
theorem dp9:∀d∈(["dark","place","year","later","gap"]:List Str),(d=="reign")=false:=by decide+kernel
theorem gH{f:Fm}{n:Str}(h:n∈f.names):gI [cP false f,.str "letter",.str n]=.ok (.bl true):=by
 unfold gI oH
 have k:=bt5 h false
 have fl:=au1 false f
 have e:(("letter":Str)=="letter")=true:=beq_self_eq_true _
 walk_at "ev"
theorem cl6{f:Fm}(g:Gd f){n:Str}(h:n∈f.inks.map (·.1)):gI [cP false f,.str "ink",.str n]=.ok (.bl true):=by
 unfold gI oH
 have fl:=bi3 false f
 have e:(("ink":Str)=="ink")=true:=beq_self_eq_true _
 have e1:=sP "ink" (by decide+kernel)
 have k:=bt5 h true
 have b0:=@gZ T
 have l6:f.inks.length<=100000:=by have:=g.i6;omega
 have n1:=cR f.inks
 have hc:bY (aI 3) cZ (bE (aE aS (aB 3) (dC (.int 0)))) [some (cP false f),some (.str "ink"),some (.str n),none,none] (f.inks.map (dR false))=.ok ((f.inks.map (·.1)).map .str):=by
  rw[List.map_map]
  exact gU λp _=>by simp only[dR];walk_at "ev";rfl
 clear g h
 walk_at "ev"
theorem ay6{f:Fm}(g:Gd f){n:Str}(h:n∈f.reigns.map (·.1)):gI [cP false f,.str "reign",.str n]=.ok (.bl true):=by
 unfold gI oH
 have fl:=ai6 false f
 have e:(("reign":Str)=="reign")=true:=beq_self_eq_true _
 have e1:=sP "reign" (by decide+kernel)
 have e2:=du1 "reign" (by decide+kernel)
 have k:=bt5 h true
 have b0:=@gZ T
 have l6:f.reigns.length<=100000:=by have:=g.r8;omega
 have n1:=cV f.reigns
 have hc:bY (aI 4) cZ (bE (aE aS (aB 4) (dC (.int 0)))) [some (cP false f),some (.str "reign"),some (.str n),none,none] (f.reigns.map eW)=.ok ((f.reigns.map (·.1)).map .str):=by
  rw[List.map_map]
  exact gU λp _=>by simp only[eW];walk_at "ev";rfl
 clear g h
 walk_at "ev"
theorem oP{f:Fm}{d:Str}{lo hi i:Int}(hd:d∈(["dark","place","year","later","gap"]:List Str))(hk:kt_NUMBERS.lookup d=some (.tup [.int lo,.int hi]))(h1:lo<=i)(h2:i<=hi):gI [cP false f,.str d,.int i]=.ok (.bl true):=by
 unfold gI oH
 have e1:=sP d (List.mem_cons_of_mem _ (List.mem_cons_of_mem _ hd))
 have e2:=du1 d (List.mem_cons_of_mem _ hd)
 have e3:=dp9 d hd
 have k:=oI h1 h2
 have b0:=@gZ T
 have b1:=@gX T
 walk_at "ev"
theorem bz3:kt_NUMBERS.lookup ("dark":Str)=some (.tup [.int 0,.int 1000000]):=by with_unfolding_all rfl
theorem bv9:kt_NUMBERS.lookup ("place":Str)=some (.tup [.int 1,.int 100]):=by with_unfolding_all rfl
theorem bc3:kt_NUMBERS.lookup ("year":Str)=some (.tup [.int (-4000),.int 4000]):=by with_unfolding_all rfl
theorem cr1:kt_NUMBERS.lookup ("later":Str)=some (.tup [.int 0,.int 300]):=by with_unfolding_all rfl
theorem bn8:kt_NUMBERS.lookup ("gap":Str)=some (.tup [.int (-300),.int 300]):=by with_unfolding_all rfl
abbrev d_ink:List Str:=["letter","ink","dark","dark"]
abbrev d_reign:List Str:=["letter","reign","place"]
abbrev d_under:List Str:=["letter","reign"]
abbrev d_between:List Str:=["letter","year","year"]
abbrev d_two:List Str:=["letter","letter"]
abbrev d_within:List Str:=["letter","letter","later"]
abbrev d_apart:List Str:=["letter","letter","gap","gap"]
theorem dy0:kt_PARTS.lookup ("ink":Str)=some (.tup (d_ink.map .str)):=by with_unfolding_all rfl
theorem cp1:kt_PARTS.lookup ("reign":Str)=some (.tup (d_reign.map .str)):=by with_unfolding_all rfl
theorem cx3:kt_PARTS.lookup ("under":Str)=some (.tup (d_under.map .str)):=by with_unfolding_all rfl
theorem bo4:kt_PARTS.lookup ("between":Str)=some (.tup (d_between.map .str)):=by with_unfolding_all rfl
theorem cr2:kt_PARTS.lookup ("after":Str)=some (.tup (d_two.map .str)):=by with_unfolding_all rfl
theorem ci9:kt_PARTS.lookup ("same":Str)=some (.tup (d_two.map .str)):=by with_unfolding_all rfl
theorem by8:kt_PARTS.lookup ("within":Str)=some (.tup (d_within.map .str)):=by with_unfolding_all rfl
theorem cp3:kt_PARTS.lookup ("apart":Str)=some (.tup (d_apart.map .str)):=by with_unfolding_all rfl
theorem dc1:tb_MAKERS.lookup ("ink":Str)=some oR:=by with_unfolding_all rfl
theorem cv1:tb_MAKERS.lookup ("reign":Str)=some nJ:=by with_unfolding_all rfl
theorem cm1:tb_MAKERS.lookup ("under":Str)=some nA:=by with_unfolding_all rfl
theorem by5:tb_MAKERS.lookup ("between":Str)=some lV:=by with_unfolding_all rfl
theorem cn1:tb_MAKERS.lookup ("after":Str)=some nH:=by with_unfolding_all rfl
theorem cm7:tb_MAKERS.lookup ("same":Str)=some oF:=by with_unfolding_all rfl
theorem bn6:tb_MAKERS.lookup ("within":Str)=some mK:=by with_unfolding_all rfl
theorem cg0:tb_MAKERS.lookup ("apart":Str)=some nN:=by with_unfolding_all rfl
theorem cw2{f:Fm}{w d1:Str}{ps ds:List T}{F:List T->Res T}{r:T}(hk:kt_PARTS.lookup w=some (.tup ds))(hp:aP ps=true)(hds:aP ds=true)(hd:rG [cP false f,.str w,.lst false ps]=.ok (.bl true))(h1:atI ds 1=some (.str d1))
 (h2:(d1=="letter")=false\/((d1=="letter")=true/\∃a b:Str,atI ps 0=some (.str a)/\atI ps 1=some (.str b)/\(a==b)=false))(hm:tb_MAKERS.lookup w=some F)(hF:F [cP false f,.lst false ps]=.ok r)(hc:fN r=true):
 dH [cP false f,.str w,.lst false ps]=.ok r:=by
 unfold dH qY
 have na:=jA f
 have za:=lG false f
 have zp:=fK ps hp
 rcases h2 with h2|⟨h2,a,b,h3,h4,h5⟩
 . walk_at "ev"
 . walk_at "ev"
def pB(xs:List Int)(d e:Int)(j:Nat):Bool:=decide ((if xs.getD (min j (xs.length-1)) 0-d<0 then -(xs.getD (min j (xs.length-1)) 0-d)else xs.getD (min j (xs.length-1)) 0-d)<=e)
def fQ(xs:List Int)(d e:Int)(n:Nat):List Int:=((List.range n).filter (pB xs d e)).map λ(j:Nat)=>(j:Int)
def cl1:List Int->T
 |[]=>.non
 |a::l=>.tup [.int a,.int ((a::l).getD l.length 0)]
theorem yF(xs:List Int)(d e:Int)(n:Nat):fQ xs d e (n+1)=fQ xs d e n++(if pB xs d e n=true then [(n:Int)]else []):=by
 unfold fQ
 rw[List.range_succ,List.filter_append,List.map_append]
 congr 1
 simp only[List.filter_cons,List.filter_nil]
 split<;>rfl
theorem de9{l:List Int}{a:Int}:atI ((a::l).map T.int) (-1)=some (.int ((a::l).getD l.length 0)):=by
 have e0:sU ((a::l).map T.int).length (-1)=some l.length:=by
  unfold sU
  rw[if_neg (by decide),List.length_map,List.length_cons,if_pos (by omega)]
  congr 1
  omega
 unfold atI
 rw[e0]
 show((a::l).map T.int)[l.length]?=_
 rw[List.getElem?_map,List.getD_eq_getElem?_getD,List.getElem?_eq_getElem (by simp)]
 rfl
theorem wO(xs:List Int)(d e:Int)(n m:Nat)(h:∀j,n<=j->j<n+m->pB xs d e j=false):fQ xs d e (n+m)=fQ xs d e n:=by
 induction m with
 |zero=>rfl
 |succ m ih=>
  rw[<-Nat.add_assoc,yF,ih (λj h1 h2=>h j h1 (by omega)),h (n+m) (by omega) (by omega)]
  simp
theorem yT{xs:List Int}{d e:Int}{n:Nat}(h:pB xs d e n=true):∃l,fQ xs d e (n+1)=l++[(n:Int)]:=⟨fQ xs d e n,by rw[yF,if_pos h]⟩
theorem as2(xs:List Int)(d e:Int)(n:Nat):∀x∈fQ xs d e n,x<n:=by
 intro x hx
 unfold fQ at hx
 obtain⟨j,hj,rfl⟩:=List.mem_map.mp hx
 have:=List.mem_range.mp (List.mem_filter.mp hj).1
 omega
theorem ag7(l:List Int)(z:Int):(l++[z]).getD l.length 0=z:=by
 rw[List.getD_eq_getElem?_getD,List.getElem?_append_right (Nat.le_refl _)]
 simp
theorem cp8(xs:List Int)(d e:Int)(G:Nat)(h0:0<xs.length)(a:Int)(l:List Int)(hh:fQ xs d e (min (xs.length-1) G+1)=a::l):
 cl1 (fQ xs d e (G+1))=.tup [.int a,.int (if(a::l).getD l.length 0=((xs.length-1:Nat):Int)then(G:Int)else(a::l).getD l.length 0)]:=by
 have hmem:(a::l).getD l.length 0∈a::l:=by
  rw[List.getD_eq_getElem?_getD,List.getElem?_eq_getElem (by simp)]
  exact List.getElem_mem _
 have hb:=as2 xs d e (min (xs.length-1) G+1) _ (by rw[hh];exact hmem)
 rcases Nat.lt_or_ge (xs.length-1) G with hG|hG
 . rw[Nat.min_eq_left (by omega)]at hh hb
   have same:∀j,xs.length-1<=j->pB xs d e j=pB xs d e (xs.length-1):=by
    intro j hj
    unfold pB
    rw[Nat.min_eq_right hj,Nat.min_self]
   cases hp:pB xs d e (xs.length-1)with
   |true=>
    have hG':pB xs d e G=true:=by rw[same G (by omega),hp]
    obtain⟨l1,h1⟩:=yT hG'
    obtain⟨l2,h2⟩:=yT hp
    rw[hh]at h2
    have pre:∀m,∃r,fQ xs d e (xs.length-1+1+m)=a::l++r:=by
     intro m
     induction m with
     |zero=>exact⟨[],by rw[Nat.add_zero,hh,List.append_nil]⟩
     |succ m ih=>
      obtain⟨r,hr⟩:=ih
      rw[<-Nat.add_assoc,yF,hr,List.append_assoc]
      exact⟨_,rfl⟩
    obtain⟨r,hr⟩:=pre (G+1-(xs.length-1+1))
    rw[show xs.length-1+1+(G+1-(xs.length-1+1))=G+1 by omega]at hr
    have last:(a::l).getD l.length 0=((xs.length-1:Nat):Int):=by
     have:l.length=l2.length:=by
      have:=congrArg List.length h2
      simp at this
      exact this
     rw[h2,this,ag7]
    rw[last,if_pos rfl,hr]
    rw[hr]at h1
    show T.tup [.int a,.int ((a::(l++r)).getD (l++r).length 0)]=_
    have h1':a::(l++r)=l1++[(G:Int)]:=h1
    have hlen:(l++r).length=l1.length:=by
     have:=congrArg List.length h1'
     simp at this⊢
     exact this
    rw[h1',hlen,ag7]
   |false=>
    have hs:=wO xs d e (xs.length-1+1) (G+1-(xs.length-1+1)) (λj h1 h2=>by rw[same j (by omega),hp])
    rw[show xs.length-1+1+(G+1-(xs.length-1+1))=G+1 by omega,hh]at hs
    rw[hs]
    have hz:fQ xs d e (xs.length-1+1)=fQ xs d e (xs.length-1):=wO xs d e (xs.length-1) 1 (λj h1 h2=>by rw[show j=xs.length-1 by omega,hp])
    have hb2:=as2 xs d e (xs.length-1) _ (by rw[<-hz,hh];exact hmem)
    rw[if_neg (by omega)]
    rfl
 . rw[Nat.min_eq_right hG]at hh hb
   rw[hh]
   show T.tup [.int a,.int ((a::l).getD l.length 0)]=_
   have:(if(a::l).getD l.length 0=((xs.length-1:Nat):Int)then(G:Int)else(a::l).getD l.length 0)=(a::l).getD l.length 0:=by
    split
    . next h=>rw[h];rw[h]at hb;omega
    . rfl
   rw[this]
theorem cn0(xs:List Int)(d e:Int)(G:Nat)(h0:0<xs.length)(hh:fQ xs d e (min (xs.length-1) G+1)=[]):fQ xs d e (G+1)=[]:=by
 rcases Nat.lt_or_ge (xs.length-1) G with hG|hG
 . rw[Nat.min_eq_left (by omega)]at hh
   have hp:pB xs d e (xs.length-1)=false:=by
    cases hp:pB xs d e (xs.length-1)with
    |false=>rfl
    |true=>
     obtain⟨l,h⟩:=yT hp
     rw[hh]at h
     simp at h
   have hs:=wO xs d e (xs.length-1+1) (G+1-(xs.length-1+1)) (λj h1 h2=>by
    have:pB xs d e j=pB xs d e (xs.length-1):=by
     unfold pB
     rw[Nat.min_eq_right (by omega),Nat.min_self]
    rw[this,hp])
   rw[show xs.length-1+1+(G+1-(xs.length-1+1))=G+1 by omega,hh]at hs
   exact hs
 . rw[Nat.min_eq_right hG]at hh
   exact hh
theorem ba9(o:Bool)(xs:List Int)(d e:Int)(G:Nat)(h0:xs≠[])(hx:xs.length<=1000)(hG:G<=1000):rA [.lst o (xs.map .int),.int d,.int e,.int G]=.ok (cl1 (fQ xs d e (G+1))):=by
 unfold rA tR
 have hl:0<xs.length:=List.length_pos_iff.mpr h0
 obtain⟨n,hn⟩:∃n,min (xs.length-1) G+1=n:=⟨_,rfl⟩
 have e1:(if(G:Int)<(xs.length:Int)-1 then(G:Int)else(xs.length:Int)-1)+1=(n:Int):=by
  split<;>omega
 have k1:-(2^62)<=(n:Int)/\(n:Int)<2^62:=by omega
 have k2:(hV 0 (n:Int).toNat).length<=sizeLine:=by rw[kI];exact kB (by omega)
 have hc:bY (aI 7) (bG (aE kW (bT wB (aD (aE eA (aE aS (aB 0) (aB 7)) (aB 1)) aJ)) (aB 2))) (bE (aB 7)) [some (.lst o (xs.map .int)),some (.int d),some (.int e),some (.int G),some (.int ((xs.length:Int)-1)),none,none,none] (hV 0 (n:Int).toNat)=.ok ((fQ xs d e n).map .int):=by
  unfold hV fQ
  rw[Int.toNat_natCast,List.map_map]
  refine az2 λi hi=>?_
  have hi:=List.mem_range.mp hi
  have a1:=qI (xs:=xs) (i:=i) (by omega)
  have hp:pB xs d e i=decide ((if xs.getD i 0-d<0 then -(xs.getD i 0-d)else xs.getD i 0-d)<=e):=by
   unfold pB
   rw[Nat.min_eq_left (by omega)]
  have z:(0:Int)+(i:Int)=(i:Int):=Int.zero_add _
  refine⟨?_,λ_=>?_⟩
  . rw[hp]
    clear hp
    walk_at "ev"
  . clear hp
    walk_at "ev"
    rfl
 walk_at "ev"
 have hlast:((xs.length:Int)-1)=((xs.length-1:Nat):Int):=by omega
 cases hh:fQ xs d e n with
 |nil=>
  rw[<-hn]at hh
  have z1:=cn0 xs d e G hl hh
  have z2:(((0:Nat):Int)==0)=true:=rfl
  rw[z1]
  clear hh hn e1 hc z1 hlast
  walk_at "ev"
  rfl
 |cons a l=>
  rw[<-hn]at hh
  rw[cp8 xs d e G hl a l hh]
  have q1:atI ((a::l).map T.int) 0=some (.int a):=gM (j:=0) rfl
  have q2:atI ((a::l).map T.int) ((((a::l).map T.int).length:Int)-1)=some (.int ((a::l).getD l.length 0)):=by
   have:=qI (xs:=a::l) (i:=l.length) (by simp)
   rw[List.length_map,List.length_cons,show((l.length+1:Nat):Int)-1=(l.length:Int) by omega]
   exact this
  have q3:((((a::l).map T.int).length:Int)==0)=false:=by
   rw[List.length_map,List.length_cons,beq_eq_false_iff_ne]
   omega
  have q3':(((l.length+1:Nat):Int)==0)=false:=by
   rw[beq_eq_false_iff_ne]
   omega
  have q4:(2:Nat)<=sizeLine:=by decide
  have q5:aP ((a::l).map T.int)=true:=kP _
  clear hh hn e1 hc
  generalize(a::l).map T.int=X at q1 q2 q3 q5⊢
  generalize(a::l).getD l.length 0=z at q2⊢
  cases hz:(z==((xs.length-1:Nat):Int))with
  |true=>
   have hz':z=((xs.length-1:Nat):Int):=eq_of_beq hz
   rw[if_pos hz']
   clear hz'
   walk_at "ev"
  |false=>
   have hz':¬z=((xs.length-1:Nat):Int):=by rw[beq_eq_false_iff_ne]at hz;exact hz
   rw[if_neg hz']
   clear hz'
   walk_at "ev"
theorem xH{α:Type}{b:T->Fr->Option Fr}{body:Fr->bX}{g r:α->T}{key:α->Str}{n:Str}(Iv:Fr->Prop)
 (hs:∀a ρ,Iv ρ->∃ρ1,b (g a) ρ=some ρ1/\(((key a==n)=true/\body ρ1=.rt (r a))\/((key a==n)=false/\∃ρ2,body ρ1=.nx ρ2/\Iv ρ2))):
 ∀{l:List α}{ρ:Fr}{a0:α},Iv ρ->l.find? (λa=>key a==n)=some a0->iT b body (l.map g) ρ=.rt (r a0)
 |[],ρ,a0,_,h=>by simp at h
 |a::l,ρ,a0,hi,h=>by
  obtain⟨ρ1,h1,h2⟩:=hs a ρ hi
  rw[List.find?_cons]at h
  simp only[List.map_cons,iT,h1]
  rcases h2 with⟨k,h2⟩|⟨k,ρ2,h2,h3⟩
  . rw[k]at h
    cases h
    rw[h2]
  . rw[k]at h
    rw[h2]
    exact xH Iv hs h3 h
theorem ac4{α:Type}{key:α->Str}:∀{l:List α}{a:α},(l.map key).Nodup->a∈l->l.find? (λx=>key x==key a)=some a
 |[],a,_,h=>by cases h
 |x::l,a,nd,h=>by
  rw[List.map_cons,List.nodup_cons]at nd
  rw[List.find?_cons]
  rcases List.mem_cons.mp h with rfl|h
  . simp
  . have:(key x==key a)=false:=by
     simp
     intro e
     exact nd.1 (by rw[e];exact List.mem_map_of_mem h)
    rw[this]
    exact ac4 nd.2 h
theorem ca6{f:Fm}(g:Gd f){p:Str×List Int}(hp:p∈f.inks):fW [cP false f,.str p.1]=.ok (.lst true (p.2.map .int)):=by
 unfold fW kM
 have fl:=bi3 false f
 have n1:=cR f.inks
 have key:∀o2 o3:Option T,iT (eF (bA (aI 2) (bA (aI 3) eI))) (cW (bG (aE dZ (aB 2) (aB 1))) (bI [] (bT jW (aD (aB 3) aJ))) bP) (f.inks.map (dR false)) [some (cP false f),some (.str p.1),o2,o3]=.rt (.lst true (p.2.map .int)):=λo2 o3=>by
  refine xH (key:=λq:Str×List Int=>q.1) (r:=λq:Str×List Int=>.lst true (q.2.map .int)) (λρ=>∃o2 o3,ρ=[some (cP false f),some (.str p.1),o2,o3]) ?_ ⟨o2,o3,rfl⟩ (ac4 (key:=λq:Str×List Int=>q.1) g.ind hp)
  rintro a ρ ⟨o2,o3,rfl⟩
  refine⟨[some (cP false f),some (.str p.1),some (.str a.1),some (.lst false (a.2.map .int))],rfl,?_⟩
  cases e:(a.1==p.1)with
  |true=>exact .inl ⟨rfl,by walk_at "ev"⟩
  |false=>exact .inr ⟨rfl,[some (cP false f),some (.str p.1),some (.str a.1),some (.lst false (a.2.map .int))],by walk_at "ev",_,_,rfl⟩
 clear g
 walk_at "ev"
theorem bd0{f:Fm}(g:Gd f){p:Str×Int×Int}(hp:p∈f.reigns):lF [cP false f,.str p.1]=.ok (eW p):=by
 unfold lF nE
 have fl:=ai6 false f
 have n1:=cV f.reigns
 have b0:=@gZ T
 have key:∀o2:Option T,iT (aI 2) (cW (bG (aE dZ (aE aS (aB 2) (dC (.int 0))) (aB 1))) (bI [] (bE (aB 2))) bP) (f.reigns.map eW) [some (cP false f),some (.str p.1),o2]=.rt (eW p):=λo2=>by
  refine xH (key:=λq:Str×Int×Int=>q.1) (r:=λq:Str×Int×Int=>eW q) (λρ=>∃o2,ρ=[some (cP false f),some (.str p.1),o2]) ?_ ⟨o2,rfl⟩ (ac4 (key:=λq:Str×Int×Int=>q.1) g.rnd hp)
  rintro a ρ ⟨o2,rfl⟩
  refine⟨[some (cP false f),some (.str p.1),some (eW a)],rfl,?_⟩
  simp only[eW]
  cases e:(a.1==p.1)with
  |true=>exact .inl ⟨rfl,by walk_at "ev"⟩
  |false=>exact .inr ⟨rfl,[some (cP false f),some (.str p.1),some (.tup [.str a.1,.int a.2.1,.int a.2.2])],by walk_at "ev",_,rfl⟩
 clear g
 walk_at "ev"
theorem yN{b l k:Int}(h1:1<=k)(h2:k<=l):mV [.int b,.int l,.int k]=.ok (.int (b+k-1)):=by
 unfold mV pH
 have:=oI h1 h2
 walk_at "ev"
theorem jD{i:Int}(h1:-10000000<=i)(h2:i<=10000000):i.natAbs.log2<1920:=by
 by_cases e:i.natAbs=0
 . rw[e];decide
 . rw[Nat.log2_lt e]
   exact Nat.lt_of_lt_of_le (show i.natAbs<2^24 by omega) (Nat.pow_le_pow_right (by decide) (by decide))
theorem jC{i:Int}(h1:-1000000<=i)(h2:i<=1000000):(toString i:Str).length<=2000000:=by
 have:=PyProof.Rows.len_str_of_int i
 omega
theorem dU{f:Fm}(g:Gd f){l:Nat}{n:Str}(h:f.names[l]?=some n):n.length<=2000000:=by
 have:=xS (g.nn n (List.mem_of_getElem? h))
 omega
theorem eL:(("letter":Str)=="letter")=true:=beq_self_eq_true _
def cn2(f:Fm):List Str->List T->Prop
 |[],[]=>True
 |d::ds,p::ps=>gI [cP false f,.str d,p]=.ok (.bl true)/\cn2 f ds ps
 |_,_=>False
theorem bm0{f:Fm}:∀{ds:List Str}{ps:List T},cn2 f ds ps->∀(i:Nat)(d:Str)(p:T),ds[i]?=some d->ps[i]?=some p->gI [cP false f,.str d,p]=.ok (.bl true)
 |[],_,_,i,d,p,h,_=>by simp at h
 |_::_,[],h,_,_,_,_,_=>h.elim
 |d::ds,p::ps,h,0,_,_,e1,e2=>by cases e1;cases e2;exact h.1
 |d::ds,p::ps,h,i+1,_,_,e1,e2=>bm0 h.2 i _ _ e1 e2
theorem rJ{f:Fm}(g:Gd f){c w d1 x:Str}{ps:List T}{ds:List Str}(nl:List (Str×Nat))(xs:List Str){lo:Int}{hi:Option Int}{F:List T->Res T}(hk:kt_PARTS.lookup w=some (.tup (ds.map .str)))(hm:tb_MAKERS.lookup w=some F)(hl:ps.length=ds.length)(h4:ds.length<=4/\nl.length<=4/\xs.length<=4)(hp:aP ps=true)(hd:cn2 f ds ps)(hnl:∀p∈nl,f.names[p.2]?=some p.1)(hxb:∀y∈xs,y.length<=2000000)(h1:atI (ds.map .str) 1=some (T.str d1))
 (h2:(d1=="letter")=false\/((d1=="letter")=true/\∃a b:Str,atI ps 0=some (.str a)/\atI ps 1=some (.str b)/\(a==b)=false))
 (h7:∀a b d e h i:Option T,bY (eF (bA (aI 7) (bA (aI 8) eI))) (bG (aE dZ (aB 8) (dC (.str "letter")))) (bE (aB 7)) [a,b,d,e,h,i,none,none,none,none] (kL ps (ds.map .str))=.ok ((nl.map (·.1)).map .str))
 (hx:∀a:Option T,bY (aI 1) cZ (bT oX (aD (aB 1) aJ)) [a,none] (.str w::ps)=.ok ((w::xs).map .str))
 (hxx:x=Txt.join " " (w::xs))(hF:jX (bV (cN 10 [.ins true c [] [],cP false f,.str w,.lst false ps,.int lo,qB hi]))=.ok (cU true c (nl.map λp=>(p.2:Int)) lo hi x)->fN (cU true c (nl.map λp=>(p.2:Int)) lo hi x)=true->F [cP false f,.lst false ps]=.ok (cU true c (nl.map λp=>(p.2:Int)) lo hi x))
 (hc:c∈rP:=by decide+kernel)(hw:w.length<=2000000:=by decide+kernel):
 dH [cP false f,.str w,.lst false ps]=.ok (cU true c (nl.map λp=>(p.2:Int)) lo hi x):=by
 have e:=cw9 g hc (lo:=lo) (hi:=hi) hp (by omega) hk (jN ds) h7 h4.2.1 hnl hx h4.2.2 (List.forall_mem_cons.mpr ⟨hw,hxb⟩)
 have k:=ab1 c (nl.map λp=>(p.2:Int)) lo hi x
 rw[<-hxx]at e
 exact cw2 hk hp (jN ds) (bq7 hk hp hl h4.1 (bm0 hd)) h1 h2 hm (hF e k) k
theorem al1{f:Fm}{l:Nat}{n:Str}(h:f.names[l]?=some n):∀p∈[(n,l)],f.names[p.2]?=some p.1:=List.forall_mem_cons.mpr ⟨h,nofun⟩
theorem al2{f:Fm}{l m:Nat}{n k:Str}(h:f.names[l]?=some n)(h':f.names[m]?=some k):∀p∈[(n,l),(k,m)],f.names[p.2]?=some p.1:=List.forall_mem_cons.mpr ⟨h,al1 h'⟩
theorem xl{a:Str}{xs:List Str}(h:a.length<=2000000)(k:∀y∈xs,y.length<=2000000):∀y∈a::xs,y.length<=2000000:=List.forall_mem_cons.mpr ⟨h,k⟩
theorem x0:∀y∈([]:List Str),y.length<=2000000:=nofun
theorem xn{f:Fm}(g:Gd f){n:Str}(h:kX n=true):n.length<=2000000:=by
 have:=xS h
 omega
local macro_rules | `(tactic| walk_at "7") => `(tactic| (intros; simp only [List.map_cons, List.map_nil, kL, List.zipWith_cons_cons, List.zipWith_nil_left, bY]; walk_at "ev"))
local macro_rules | `(tactic| walk_at "x") => `(tactic| (intros; simp only [bY]; walk_at "ev"))
theorem bz5{f:Fm}(g:Gd f){l:Nat}{n:Str}(h:f.names[l]?=some n){lo hi:Int}(h1:-4000<=lo)(h2:lo<=hi)(h3:hi<=4000):
 ∀{x:Str},x=Txt.join " " (("between":Str)::[n,toString lo,toString hi])->dH [cP false f,.str "between",.lst false [.str n,.int lo,.int hi]]=.ok (cU true "Between" [(l:Int)] lo (some hi) x):=by
 intro x hxx
 have e1:=eL
 have e2:=sP "year" (by decide+kernel)
 have g_lo:=jD (show -10000000<=lo by omega) (by omega)
 have g_hi:=jD (show -10000000<=hi by omega) (by omega)
 refine rJ g (c:="Between") (d1:="year") [(n,l)] [n,toString lo,toString hi] bo4 by5 rfl ⟨by decide,by simp,by simp⟩ rfl ⟨gH (List.mem_of_getElem? h),oP (by decide+kernel) bc3 (by omega) (by omega),oP (by decide+kernel) bc3 (by omega) (by omega),trivial⟩ (al1 h) (xl (dU g h)<|xl (jC (by omega) (by omega))<|xl (jC (by omega) (by omega))<|x0) (gX _ _ _) (.inl e2) (by walk_at "7") (by walk_at "x") hxx λhx cs=>?_
 unfold lV lR
 have hm:tG [cP false f,.str "between",.lst false [.str n,.int lo,.int hi],.int lo,.int hi]=.ok (cU true "Between" [(l:Int)] lo (some hi) x):=hx
 have b0:=@gZ T
 have b1:=@gX T
 have b2:=@kU T
 have b3:=@qA T
 have na:=jA f
 have za:=lG false f
 have k1:decide (hi<lo)=false:=decide_eq_false (by omega)
 clear hx
 walk_at "ev"
theorem cs0{f:Fm}(g:Gd f){l m:Nat}{n k:Str}(h:f.names[l]?=some n)(h':f.names[m]?=some k)(hne:(n==k)=false):
 ∀{x:Str},x=Txt.join " " (("after":Str)::[n,k])->dH [cP false f,.str "after",.lst false [.str n,.str k]]=.ok (cU true "After" [(l:Int),(m:Int)] 1 none x):=by
 intro x hxx
 have e1:=eL
 refine rJ g (c:="After") (d1:="letter") [(n,l),(k,m)] [n,k] cr2 cn1 rfl ⟨by decide,by simp,by simp⟩ rfl ⟨gH (List.mem_of_getElem? h),gH (List.mem_of_getElem? h'),trivial⟩ (al2 h h') (xl (dU g h)<|xl (dU g h')<|x0) (gX _ _ _) (.inr ⟨e1,n,k,gZ _ _,gX _ _ _,hne⟩) (by walk_at "7") (by walk_at "x") hxx λhx cs=>?_
 unfold nH nC
 have hm:vZ [cP false f,.str "after",.lst false [.str n,.str k],.int 1,.non]=.ok (cU true "After" [(l:Int),(m:Int)] 1 none x):=hx
 have b0:=@gZ T
 have b1:=@gX T
 have b2:=@kU T
 have b3:=@qA T
 have na:=jA f
 have za:=lG false f
 clear hx
 walk_at "ev"
theorem cz5{f:Fm}(g:Gd f){l m:Nat}{n k:Str}(h:f.names[l]?=some n)(h':f.names[m]?=some k)(hne:(n==k)=false):
 ∀{x:Str},x=Txt.join " " (("same":Str)::[n,k])->dH [cP false f,.str "same",.lst false [.str n,.str k]]=.ok (cU true "Same" [(l:Int),(m:Int)] 0 (some 0) x):=by
 intro x hxx
 have e1:=eL
 refine rJ g (c:="Same") (d1:="letter") [(n,l),(k,m)] [n,k] ci9 cm7 rfl ⟨by decide,by simp,by simp⟩ rfl ⟨gH (List.mem_of_getElem? h),gH (List.mem_of_getElem? h'),trivial⟩ (al2 h h') (xl (dU g h)<|xl (dU g h')<|x0) (gX _ _ _) (.inr ⟨e1,n,k,gZ _ _,gX _ _ _,hne⟩) (by walk_at "7") (by walk_at "x") hxx λhx cs=>?_
 unfold oF oG
 have hm:xE [cP false f,.str "same",.lst false [.str n,.str k],.int 0,.int 0]=.ok (cU true "Same" [(l:Int),(m:Int)] 0 (some 0) x):=hx
 have b0:=@gZ T
 have b1:=@gX T
 have b2:=@kU T
 have b3:=@qA T
 have na:=jA f
 have za:=lG false f
 clear hx
 walk_at "ev"
theorem bq8{f:Fm}(g:Gd f){l m:Nat}{n k:Str}(h:f.names[l]?=some n)(h':f.names[m]?=some k)(hne:(n==k)=false){hi:Int}(h1:0<=hi)(h2:hi<=300):
 ∀{x:Str},x=Txt.join " " (("within":Str)::[n,k,toString hi])->dH [cP false f,.str "within",.lst false [.str n,.str k,.int hi]]=.ok (cU true "Within" [(l:Int),(m:Int)] 0 (some hi) x):=by
 intro x hxx
 have e1:=eL
 have e2:=sP "later" (by decide+kernel)
 have g_hi:=jD (show -10000000<=hi by omega) (by omega)
 refine rJ g (c:="Within") (d1:="letter") [(n,l),(k,m)] [n,k,toString hi] by8 bn6 rfl ⟨by decide,by simp,by simp⟩ rfl ⟨gH (List.mem_of_getElem? h),gH (List.mem_of_getElem? h'),oP (by decide+kernel) cr1 h1 h2,trivial⟩ (al2 h h') (xl (dU g h)<|xl (dU g h')<|xl (jC (by omega) (by omega))<|x0) (gX _ _ _) (.inr ⟨e1,n,k,gZ _ _,gX _ _ _,hne⟩) (by walk_at "7") (by walk_at "x") hxx λhx cs=>?_
 unfold mK mL
 have hm:uJ [cP false f,.str "within",.lst false [.str n,.str k,.int hi],.int 0,.int hi]=.ok (cU true "Within" [(l:Int),(m:Int)] 0 (some hi) x):=hx
 have b0:=@gZ T
 have b1:=@gX T
 have b2:=@kU T
 have b3:=@qA T
 have na:=jA f
 have za:=lG false f
 clear hx
 walk_at "ev"
theorem bt9{f:Fm}(g:Gd f){l m:Nat}{n k:Str}(h:f.names[l]?=some n)(h':f.names[m]?=some k)(hne:(n==k)=false){lo hi:Int}(h1:-300<=lo)(h2:lo<=hi)(h3:hi<=300):
 ∀{x:Str},x=Txt.join " " (("apart":Str)::[n,k,toString lo,toString hi])->dH [cP false f,.str "apart",.lst false [.str n,.str k,.int lo,.int hi]]=.ok (cU true "Apart" [(l:Int),(m:Int)] lo (some hi) x):=by
 intro x hxx
 have e1:=eL
 have e2:=sP "gap" (by decide+kernel)
 have g_lo:=jD (show -10000000<=lo by omega) (by omega)
 have g_hi:=jD (show -10000000<=hi by omega) (by omega)
 refine rJ g (c:="Apart") (d1:="letter") [(n,l),(k,m)] [n,k,toString lo,toString hi] cp3 cg0 rfl ⟨by decide,by simp,by simp⟩ rfl ⟨gH (List.mem_of_getElem? h),gH (List.mem_of_getElem? h'),oP (by decide+kernel) bn8 (by omega) (by omega),oP (by decide+kernel) bn8 (by omega) (by omega),trivial⟩ (al2 h h') (xl (dU g h)<|xl (dU g h')<|xl (jC (by omega) (by omega))<|xl (jC (by omega) (by omega))<|x0) (gX _ _ _) (.inr ⟨e1,n,k,gZ _ _,gX _ _ _,hne⟩) (by walk_at "7") (by walk_at "x") hxx λhx cs=>?_
 unfold nN nK
 have hm:vY [cP false f,.str "apart",.lst false [.str n,.str k,.int lo,.int hi],.int lo,.int hi]=.ok (cU true "Apart" [(l:Int),(m:Int)] lo (some hi) x):=hx
 have b0:=@gZ T
 have b1:=@gX T
 have b2:=@kU T
 have b3:=@qA T
 have na:=jA f
 have za:=lG false f
 have k1:decide (hi<lo)=false:=decide_eq_false (by omega)
 clear hx
 walk_at "ev"
theorem cr0{f:Fm}(g:Gd f){l:Nat}{n:Str}(h:f.names[l]?=some n){p:Str×Int×Int}(hp:p∈f.reigns){k:Int}(h1:1<=k)(h2:k<=p.2.2):
 ∀{x:Str},x=Txt.join " " (("reign":Str)::[n,p.1,toString k])->dH [cP false f,.str "reign",.lst false [.str n,.str p.1,.int k]]=.ok (cU true "Reign" [(l:Int)] (p.2.1+k-1) (some (p.2.1+k-1)) x):=by
 intro x hxx
 have e1:=eL
 have h100:=(g.rn p hp).2.2.2.2
 have e2:=sP "reign" (by decide+kernel)
 have e3:=sP "place" (by decide+kernel)
 have g_k:=jD (show -10000000<=k by omega) (by omega)
 refine rJ g (c:="Reign") (d1:="reign") [(n,l)] [n,p.1,toString k] cp1 cv1 rfl ⟨by decide,by simp,by simp⟩ rfl ⟨gH (List.mem_of_getElem? h),ay6 g (List.mem_map_of_mem hp),oP (by decide+kernel) bv9 h1 (by omega),trivial⟩ (al1 h) (xl (dU g h)<|xl (xn g (g.rn p hp).1)<|xl (jC (by omega) (by omega))<|x0) (gX _ _ _) (.inl e2) (by walk_at "7") (by walk_at "x") hxx λhx cs=>?_
 unfold nJ nI
 have hm:wJ [cP false f,.str "reign",.lst false [.str n,.str p.1,.int k],.int (p.2.1+k-1),.int (p.2.1+k-1)]=.ok (cU true "Reign" [(l:Int)] (p.2.1+k-1) (some (p.2.1+k-1)) x):=hx
 have b0:=@gZ T
 have b1:=@gX T
 have b2:=@kU T
 have b3:=@qA T
 have na:=jA f
 have za:=lG false f
 have k1:=bd0 g hp
 have k2:=yN (b:=p.2.1) h1 h2
 simp only[eW]at k1
 clear hx
 walk_at "ev"
theorem cw1{f:Fm}(g:Gd f){l:Nat}{n:Str}(h:f.names[l]?=some n){p:Str×Int×Int}(hp:p∈f.reigns):
 ∀{x:Str},x=Txt.join " " (("under":Str)::[n,p.1])->dH [cP false f,.str "under",.lst false [.str n,.str p.1]]=.ok (cU true "Under" [(l:Int)] p.2.1 (some (p.2.1+p.2.2-1)) x):=by
 intro x hxx
 have e1:=eL
 have e2:=sP "reign" (by decide+kernel)
 refine rJ g (c:="Under") (d1:="reign") [(n,l)] [n,p.1] cx3 cm1 rfl ⟨by decide,by simp,by simp⟩ rfl ⟨gH (List.mem_of_getElem? h),ay6 g (List.mem_map_of_mem hp),trivial⟩ (al1 h) (xl (dU g h)<|xl (xn g (g.rn p hp).1)<|x0) (gX _ _ _) (.inl e2) (by walk_at "7") (by walk_at "x") hxx λhx cs=>?_
 unfold nA nG
 have hm:wD [cP false f,.str "under",.lst false [.str n,.str p.1],.int p.2.1,.int (p.2.1+p.2.2-1)]=.ok (cU true "Under" [(l:Int)] p.2.1 (some (p.2.1+p.2.2-1)) x):=hx
 have b0:=@gZ T
 have b1:=@gX T
 have b2:=@kU T
 have b3:=@qA T
 have na:=jA f
 have za:=lG false f
 have k1:=bd0 g hp
 have k2:=yN (b:=p.2.1) (l:=p.2.2) (k:=p.2.2) (g.rn p hp).2.2.2.1 (Int.le_refl _)
 simp only[eW]at k1
 clear hx
 walk_at "ev"
theorem cw3:gG "table" ["first","present","letters","inks","reigns"]=none:=by decide+kernel
theorem co6:tm_table.lookup ("Archive":Str)=some fW:=by with_unfolding_all rfl
theorem bg4{b:Bool}{f:Fm}{o:Fr->Res T}{r:Fr->Res (List T)}{ρ:Fr}{ts:List T}(ho:o ρ=.ok (cP b f))(hr:r ρ=.ok ts):iN 2 "table" tm_table o r ρ=sA 2 fW (cP b f::ts):=by
 simp only[iN,ho,hr,kA,cP,cw3,co6]
local macro_rules | `(tactic| walk_at "7") => `(tactic| (intros; simp only [List.map_cons, List.map_nil, kL, List.zipWith_cons_cons, List.zipWith_nil_left, bY]; walk_at "ev"))
local macro_rules | `(tactic| walk_at "x") => `(tactic| (intros; simp only [bY]; walk_at "ev"))
theorem dp1{f:Fm}(g:Gd f){l:Nat}{n:Str}(h:f.names[l]?=some n){p:Str×List Int}(hp:p∈f.inks){d e:Int}(h1:0<=d)(h2:d<=1000000)(h3:0<=e)(h4:e<=1000000){a z:Int}{r:List Int}(hh:fQ p.2 d e (f.span.toNat+1)=a::r)(hz:(a::r).getD r.length 0=z):
 ∀{x:Str},x=Txt.join " " (("ink":Str)::[n,p.1,toString d,toString e])->dH [cP false f,.str "ink",.lst false [.str n,.str p.1,.int d,.int e]]=.ok (cU true "Ink" [(l:Int)] (f.first+f.span-z) (some (f.first+f.span-a)) x):=by
 intro x hxx
 have e1:=eL
 have e2:=sP "ink" (by decide+kernel)
 have e3:=sP "dark" (by decide+kernel)
 have g_d:=jD (show -10000000<=d by omega) (by omega)
 have g_e:=jD (show -10000000<=e by omega) (by omega)
 refine rJ g (c:="Ink") (d1:="ink") [(n,l)] [n,p.1,toString d,toString e] dy0 dc1 rfl ⟨by decide,by simp,by simp⟩ rfl ⟨gH (List.mem_of_getElem? h),cl6 g (List.mem_map_of_mem hp),oP (by decide+kernel) bz3 (by omega) (by omega),oP (by decide+kernel) bz3 (by omega) (by omega),trivial⟩ (al1 h) (xl (dU g h)<|xl (xn g (g.inn p hp).1)<|xl (jC (by omega) (by omega))<|xl (jC (by omega) (by omega))<|x0) (gX _ _ _) (.inl e2) (by clear hh hz;walk_at "7") (by clear hh hz;walk_at "x") hxx λhx cs=>?_
 unfold oR pJ
 have hm:aq0 [cP false f,.str "ink",.lst false [.str n,.str p.1,.int d,.int e],.int (f.first+f.span-z),.int (f.first+f.span-a)]=.ok (cU true "Ink" [(l:Int)] (f.first+f.span-z) (some (f.first+f.span-a)) x):=hx
 have b0:=@gZ T
 have b1:=@gX T
 have b2:=@kU T
 have b3:=@qA T
 have na:=jA f
 have za:=lG false f
 have fp:=bx5 false f
 have ff:=cx2 false f
 have ht:=ca6 g hp
 have hA:rA [.lst false (p.2.map .int),.int d,.int e,.int (f.first+f.span-f.first)]=.ok (.tup [.int a,.int z]):=by
  have:=ba9 false p.2 d e f.span.toNat (by have:=(g.inn p hp).2.l1;intro q;rw[q]at this;simp at this) (by have:=(g.inn p hp).2.l60;omega) (by have:=g.s1;omega)
  rw[hh]at this
  simp only[cl1,hz]at this
  rw[show f.first+f.span-f.first=(f.span.toNat:Int) by have:=g.s0;omega]
  exact this
 have hmt:iN 2 "table" tm_table (aB 0) (aD (aE aS (aB 1) (dC (.int 1))) aJ) [some (cP false f),some (.lst false [.str n,.str p.1,.int d,.int e]),none]=.ok (.lst true (p.2.map .int)):=by
  rw[bg4 (b:=false) (f:=f) (ts:=[.str p.1]) rfl (by clear hA hm hx hh hz;walk_at "ev")]
  clear hA hm hx hh hz
  walk_at "ev"
 clear hh hz
 clear hx
 walk_at "ev"
theorem da5(i:Nat):(2:Int)^(30*(i+1))=2^(30*i)*1073741824:=by
 rw[Nat.mul_add,Int.pow_add]
 rfl
theorem ao2{i j:Int}(h1:-(2^64)<i)(h2:i<2^64):mulOk i j:=.inl ⟨h1,h2⟩
theorem uR{i j:Int}(h1:-(2^64)<j)(h2:j<2^64):mulOk i j:=.inr (.inl ⟨h1,h2⟩)
theorem am7(c p:Int)(h0:0<=p)(h1:p<=1000):∃z,oC [.int c,.int p]=.ok (.int z)/\0<=z/\z<2^120:=by
 unfold oC oB
 have k1:(0:Int)<998244341:=by decide
 have k2:(0:Int)<998244353:=by decide
 have k3:mulOk 7919 p:=ao2 (by decide) (by decide)
 have k4:-(2^62)<=(4:Int)/\(4:Int)<2^62:=by decide
 walk_at "ev"
 generalize hL:iT _ _ _ _=o
 obtain⟨ρ',rfl,z,r,o4,o5,o6,rfl,hz0,hz1⟩:=lJ (λi ρ=>∃(z r:Int)(o4 o5 o6:Option T),ρ=[some (.int c),some (.int p),some (.int z),some (.int r),o4,o5,o6]/\0<=z/\z<2^(30*i)) hL ⟨_,_,_,_,_,rfl,by decide,by decide⟩ (by
  rintro i t ρ et ⟨z,r,o4,o5,o6,rfl,hz0,hz1⟩
  obtain⟨hi,rfl⟩:=kF et
  have hi':i<4:=hi
  have q1:jU r 4099:=⟨by decide,by decide⟩
  have q2:mulOk (r%4099) 240007:=uR (by decide) (by decide)
  have q3:mulOk (r/4099) 89:=uR (by decide) (by decide)
  have q4:mulOk 1201 (0+(i:Int)):=ao2 (by decide) (by decide)
  have q5:mulOk z 998244353:=uR (by decide) (by decide)
  walk_at "ev"
  refine⟨_,_,_,_,_,rfl,?_,?_⟩
  . have h1:=Int.emod_nonneg (r%4099*240007+r/4099*89+1201*(0+(i:Int))+11) (show(998244353:Int)≠0 by decide)
    omega
  . have h2:=Int.emod_lt_of_pos (r%4099*240007+r/4099*89+1201*(0+(i:Int))+11) (show(0:Int)<998244353 by decide)
    rw[da5]
    omega)
 refine⟨z,by walk_at "ev",hz0,?_⟩
 rw[kI]at hz1
 exact hz1
theorem zJ{n:Nat}(h:n<=100000):n<sizeLine:=Nat.lt_of_le_of_lt h (by decide)
theorem vU(ns:List Int)(h63:ns.length<=63)(hb:∀n∈ns,Builtin.Int.intBits n<=1048576):∃ms:List Int,jI [.lst false (ns.map .int)]=.ok (.lst true (ms.map .int))/\ms.length=ns.length/\∀x∈ms,0<=x:=by
 unfold jI jG
 have k0:(0:Nat)<=sizeLine:=Nat.zero_le _
 have k1:¬(64:Int)<(ns.length:Int):=by omega
 have k2:-(2^62)<=(ns.length:Int)/\(ns.length:Int)<2^62:=by omega
 walk_at "ev"
 generalize hL:iT _ _ _ _=o
 obtain⟨ρ',rfl,ms,o2,o3,o4,rfl,hl,hm⟩:=lJ (λi ρ=>∃(ms:List Int)(o2 o3 o4:Option T),ρ=[some (.lst false (ns.map .int)),some (.lst true (ms.map .int)),o2,o3,o4]/\ms.length=i/\∀x∈ms,0<=x) hL ⟨[],_,_,_,rfl,rfl,eH⟩ (by
  rintro i t ρ et ⟨ms,o2,o3,o4,rfl,hl,hm⟩
  obtain⟨hi,rfl⟩:=kF et
  rw[Int.toNat_natCast]at hi
  have hat:atI (ns.map T.int) (0+(i:Int))=some (.int ns[i]):=by
   rw[Int.zero_add]
   exact gM (by rw[List.getElem?_map,List.getElem?_eq_getElem hi];rfl)
  have hbi:=hb ns[i] (List.getElem_mem hi)
  generalize ns[i]=c at hat hbi
  obtain⟨c',ec⟩:∃c',(if c<0 then -c else c)=c':=⟨_,rfl⟩
  have hc0:0<=c':=by split at ec<;>omega
  obtain⟨nb,hnb1,hnb2⟩:∃nb:Nat,nb<=1048576/\1048576<=nb:=⟨1048576,Nat.le_refl _,Nat.le_refl _⟩
  have hcb:c'.natAbs<2^nb:=by
   have:c'.natAbs=c.natAbs:=by split at ec<;>omega
   rw[this]
   exact cm6 (Nat.le_trans hbi hnb2)
  obtain⟨z,hz,hz0,hz1⟩:=am7 c' (0+(i:Int)) (by omega) (by omega)
  have hml:i<sizeLine:=zJ (by omega)
  walk_at "ev"
  generalize hW:tE _ _ _=o
  obtain⟨ρ',m',rfl,⟨q,j,hq1,hj,hjm,hqb,rfl⟩,_⟩:=av6 (m:=nb+1) (λm ρ=>∃(q:Int)(j:Nat),1<=q/\2^j<=q.natAbs/\j+m=nb+1/\q.natAbs<2^(nb+20)/\ρ=[some (.lst false (ns.map .int)),some (.lst true (ms.map .int)),some (.int (0+(i:Int))),some (.int c'),some (.int q)]) hW ⟨1,0,by decide,by decide,by omega,Nat.one_lt_two_pow (by omega),rfl⟩ (by omega) (by
   rintro m ρ ⟨q,j,hq1,hj,hjm,hqb,rfl⟩
   by_cases hle:q<=c'
   . have q1:yR 10 6:=⟨by decide,by decide,by decide⟩
     have q2:mulOk q 1000000:=uR (by decide) (by decide)
     have e6:(10:Int)^(6:Int).toNat=1000000:=rfl
     have hjn:j<nb:=by
      rcases Nat.lt_or_ge j nb with h|h
      . exact h
      . have h1:2^nb<=2^j:=Nat.pow_le_pow_right (by decide) h
        omega
     walk_at "ev"
     refine⟨m-1,by omega,q*1000000,j+1,by omega,?_,by omega,?_,rfl⟩
     . rw[Nat.pow_succ]
       omega
     . have h1:q.natAbs<2^nb:=by omega
       rw[Nat.pow_add]
       have h2:(q*1000000).natAbs=q.natAbs*1000000:=by omega
       rw[h2]
       have h3:(1000000:Nat)<=2^20:=by decide
       exact Nat.lt_of_lt_of_le (Nat.mul_lt_mul_of_pos_right h1 (by decide)) (Nat.mul_le_mul_left _ h3)
   . walk_at "ev")
  have hmul:mulOk q z:=by
   refine .inr (.inr ?_)
   have b1:=by3 hqb
   have b2:Builtin.Int.intBits z<=120:=by3 (by omega)
   omega
  walk_at "ev"
  refine⟨ms++[c'+q*z],_,_,_,by rw[List.map_append];rfl,by rw[List.length_append,hl];rfl,?_⟩
  intro x hx
  rcases List.mem_append.mp hx with hx|hx
  . exact hm x hx
  . rw[List.mem_singleton.mp hx]
    have:=Int.mul_nonneg (show 0<=q by omega) hz0
    omega)
 refine⟨ms,by walk_at "ev",?_,hm⟩
 rw[hl,kI,Int.toNat_natCast]
theorem bn5(a:Int):0<=a%998244353/\a%998244353<998244353:=⟨Int.emod_nonneg _ (by decide),Int.emod_lt_of_pos _ (by decide)⟩
theorem mO(n:Int)(m:Nat)(hm:m<=1000):∃xs:List Int,eP [.int n,.int m]=.ok (.lst true (xs.map .int))/\xs.length=m/\∀x∈xs,0<=x/\x<1000000000:=by
 unfold eP pO
 have k0:(0:Nat)<=sizeLine:=Nat.zero_le _
 have k1:jU n 2:=⟨by decide,by decide⟩
 have k2:(0:Int)<2:=by decide
 have k3:mulOk (m:Int) (1-n%2):=ao2 (by omega) (by omega)
 have k5:(0:Int)<998244341:=by decide
 obtain⟨q,hq,hqm⟩:∃q:Nat,(m:Int)*(1-n%2)=q/\q<=m:=by
  have:n%2=0\/n%2=1:=by omega
  rcases this with e|e
  . exact⟨m,by rw[e];omega,Nat.le_refl _⟩
  . exact⟨0,by rw[e];omega,Nat.zero_le _⟩
 have k4:-(2^62)<=(q:Int)/\(q:Int)<2^62:=by omega
 walk_at "ev"
 generalize hL:iT _ _ _ _=o
 obtain⟨ρ',rfl,xs,r,o4,o5,rfl,hl,hb⟩:=lJ (λi ρ=>∃(xs:List Int)(r:Int)(o4 o5:Option T),ρ=[some (.int n),some (.int m),some (.lst true (xs.map .int)),some (.int r),o4,o5,none,none,none]/\xs.length=i/\∀x∈xs,0<=x/\x<1000000000) hL ⟨[],_,_,_,rfl,rfl,eH⟩ (by
  rintro i t ρ et ⟨xs,r,o4,o5,rfl,hl,hb⟩
  obtain⟨hi,rfl⟩:=kF et
  have hi':i<q:=by rwa[Int.toNat_natCast]at hi
  have e9:(10:Int)^(9:Int).toNat=1000000000:=rfl
  have q1:yR 10 9:=⟨by decide,by decide,by decide⟩
  have q2:jU r 1000000000:=⟨by decide,by decide⟩
  have q3:i<sizeLine:=zJ (by omega)
  have hb2:=hb
  clear et hL hi hb
  walk_at "ev"
  refine⟨xs++[r%1000000000],_,_,_,by rw[List.map_append];rfl,by rw[List.length_append,hl];rfl,λx hx=>?_⟩
  rcases List.mem_append.mp hx with hx|hx
  . exact hb2 x hx
  . rw[List.mem_singleton.mp hx];omega)
 have hl':xs.length<=m:=by rw[hl,kI,Int.toNat_natCast];exact hqm
 clear hl hL
 walk_at "ev"
 generalize hr0:r%998244341+5=r0
 generalize hW:tE _ _ _=o
 obtain⟨ρ',m',rfl,⟨ys,r1,p4,p5,p6,p7,p8,rfl,hyl,hyb⟩,hend⟩:=av6 (m:=m-xs.length) (λk ρ=>∃(ys:List Int)(r1:Int)(p4 p5 p6 p7 p8:Option T),ρ=[some (.int n),some (.int m),some (.lst true (ys.map .int)),some (.int r1),p4,p5,p6,p7,p8]/\ys.length+k=m/\∀x∈ys,0<=x/\x<1000000000) hW ⟨xs,r0,_,_,_,_,_,rfl,by omega,hb⟩ (by omega) (by
  rintro k ρ ⟨ys,r1,p4,p5,p6,p7,p8,rfl,hyl,hyb⟩
  cases hc:decide ((ys.length:Int)<(m:Int))with
  |false=>
   clear hW hb hyb
   walk_at "ev"
  |true=>
   have hlt:ys.length<m:=by have:=of_decide_eq_true hc;omega
   have t2:-(2^62)<=(2:Int)/\(2:Int)<2^62:=by decide
   have hb2:=hb
   clear hW hb hr0
   have hyb2:=hyb
   clear hyb
   walk_at "ev"
   generalize hL:iT _ _ _ _=o
   obtain⟨ρ',rfl,r2,a6,a7,a8,rfl,hr2⟩:=lJ (λi ρ=>∃(r2:Int)(a6 a7 a8:Option T),ρ=[some (.int n),some (.int m),some (.lst true (ys.map .int)),some (.int r2),p4,p5,a6,a7,a8]/\(0<i->0<=r2/\r2<998244353)) hL ⟨r1,_,_,_,rfl,λh=>absurd h (Nat.lt_irrefl 0)⟩ (by
    rintro i t ρ et ⟨r2,a6,a7,a8,rfl,_⟩
    obtain⟨hi,rfl⟩:=kF et
    have q1:jU r2 4099:=⟨by decide,by decide⟩
    have q2:mulOk (r2%4099) 240007:=uR (by decide) (by decide)
    have q3:mulOk (r2/4099) 89:=uR (by decide) (by decide)
    have q4:mulOk 1201 (ys.length:Int):=ao2 (by decide) (by decide)
    have q5:(0:Int)<998244353:=by decide
    clear et hL hi hyb2
    walk_at "ev"
    exact⟨_,_,_,_,rfl,λ_=>bn5 _⟩)
   have hr2':=hr2 (by rw[kI];decide)
   have q6:jU r2 5:=⟨by decide,by decide⟩
   have q7:ys.length<sizeLine:=zJ (by omega)
   clear hL hr2
   walk_at "ev"
   refine⟨k-1,by omega,ys++[r2/5],_,_,_,_,_,_,by rw[List.map_append];rfl,by rw[List.length_append,List.length_singleton];omega,λx hx=>?_⟩
   rcases List.mem_append.mp hx with hx|hx
   . exact hyb2 x hx
   . rw[List.mem_singleton.mp hx];omega)
 have hlen:ys.length=m:=by
  have:¬(ys.length:Int)<(m:Int):=by
   intro h
   have hd:decide ((ys.length:Int)<(m:Int))=true:=decide_eq_true h
   clear hW hb hyb
   have:bG (aE ltT (bT eN (aD (aB 2) aJ)) (aB 1)) [some (.int n),some (.int m),some (.lst true (ys.map .int)),some (.int r1),p4,p5,p6,p7,p8]=.ok true:=by walk_at "ev"
   rw[this]at hend
   cases hend
  omega
 refine⟨ys,?_,hlen,hyb⟩
 clear hW hb hyb hend hlen
 walk_at "ev"
theorem bh3{α β:Type}(f:α->β)(xs:List α)(a b:Option Int):fP (xs.map f) a b=(fP xs a b).map f:=by
 unfold fP
 rw[List.length_map,List.map_take,List.map_drop]
theorem ed0{α:Type}{xs:List α}{a b:Option Int}{x:α}(h:x∈fP xs a b):x∈xs:=by
 unfold fP at h
 exact List.mem_of_mem_drop (List.mem_of_mem_take h)
theorem ch5(ns:List Int)(k:Int):∃z,oO [.lst false (ns.map .int),.int k]=.ok (.int z)/\0<=z:=by
 unfold oO tL
 have hc:=bh3 T.int ns (some k) (some (k+1))
 walk_at "ev"
 cases fP ns (some k) (some (k+1))with
 |nil=>exact⟨0,rfl,by decide⟩
 |cons a l=>exact⟨if a<0 then -a else a,rfl,by split<;>omega⟩
theorem dm3:∀c,c<123->97<=c->occ "abcdefghijklmnopqrstuvwxyz" ⟨#[c]⟩=true:=by decide+kernel
theorem ba0{w:Str}(h1:1<=w.cps.toList.length)(h8:w.cps.toList.length<=8)(hl:∀c∈w.cps.toList,97<=c/\c<123):kX w=true:=by
 unfold kX
 rw[vA,decide_eq_true (by omega),decide_eq_true (by omega),Bool.true_and,Bool.true_and,List.all_eq_true]
 exact λc hc=>dm3 c (hl c hc).2 (hl c hc).1
def sg:Str:="qwertyuiopasdfghjklzxcvbnm"
theorem sg_ok:sg.cps.toList.length=26/\sg.cps.toList.Nodup/\∀c∈sg.cps.toList,97<=c/\c<123:=by decide+kernel
theorem ad4(c k:Nat):(jJ ⟨#[c]⟩ k).cps.toList=List.replicate k c:=by
 unfold jJ
 simp only
 induction k with
 |zero=>rfl
 |succ k ih=>rw[List.replicate_succ,List.flatten_cons,List.replicate_succ,<-ih];rfl
theorem an9{α:Type}{g:Nat->α}{m:Nat}(h:∀a b,a<m->b<m->g a=g b->a=b):((List.range m).map g).Nodup:=by
 rw[List.Nodup,List.pairwise_map]
 exact List.Pairwise.imp_of_mem (λha hb hne e=>hne (h _ _ (List.mem_range.mp ha) (List.mem_range.mp hb) e)) List.nodup_range
theorem cq5{i:Int}:∃k:Nat,k<26/\(k:Int)=i%26/\atI sg.cps.toList (i%26)=some (sg.cps.toList.getD k 0):=by
 have h0:=Int.emod_nonneg i (show(26:Int)≠0 by decide)
 have h1:=Int.emod_lt_of_pos i (show(0:Int)<26 by decide)
 obtain⟨k,hk⟩:=lI h0
 have hk2:k<sg.cps.toList.length:=by rw[sg_ok.1];omega
 exact⟨k,by omega,hk.symm,by rw[hk];exact gM (by rw[List.getElem?_eq_getElem hk2,List.getD_eq_getElem?_getD,List.getElem?_eq_getElem hk2];rfl)⟩
theorem cn4{k:Nat}(h:k<26):97<=sg.cps.toList.getD k 0/\sg.cps.toList.getD k 0<123:=by
 have hk2:k<sg.cps.toList.length:=by rw[sg_ok.1];omega
 rw[List.getD_eq_getElem?_getD,List.getElem?_eq_getElem hk2]
 exact sg_ok.2.2 _ (List.getElem_mem hk2)
theorem dt2{i j:Nat}(h:i<26)(h':j<26)(e:sg.cps.toList.getD i 0=sg.cps.toList.getD j 0):i=j:=by
 have hi:i<sg.cps.toList.length:=by rw[sg_ok.1];omega
 have hj:j<sg.cps.toList.length:=by rw[sg_ok.1];omega
 rw[List.getD_eq_getElem?_getD,List.getElem?_eq_getElem hi,List.getD_eq_getElem?_getD,List.getElem?_eq_getElem hj]at e
 exact(List.getElem_inj sg_ok.2.1).mp e
theorem du8{α:Type}{g:Nat->α}{m:Nat}(o:Fr):True:=trivial
def eightN:List Str:=["letter","years","fades","rules","ink","put","after","same"]
def uV(k:Nat):List Str:=eightN.drop k++eightN.take k
theorem cb2:∀k,k<8->(uV k).length=8/\(uV k).Nodup/\∀x∈uV k,kX x=true:=by decide+kernel
theorem dd3:("qwertyuiopasdfghjklzxcvbnm":Str).length<=sizeLine:=by decide+kernel
theorem ch8 (n : Int) (m : Nat) (hn : 0 ≤ n) (h1 : 1 ≤ m) (h8 : m ≤ 8) : ∃ ss : List Str, qZ [.int n, .int m] = .ok (.lst true (ss.map .str)) ∧ ss.length = m ∧ (∀ x ∈ ss, kX x = true) ∧ ss.Nodup := by
  unfold qZ qM
  have z1 := dd3
  have d3 : jU n 3 := ⟨by decide, by decide⟩
  have hr0 : 0 ≤ n / 3 := by omega
  generalize hr : n / 3 = r at hr0
  have k2 : (hV 0 (m : Int).toNat).length ≤ sizeLine := by rw [kI]; exact kB (by omega)
  have km : -(2 ^ 62) ≤ (m : Int) ∧ (m : Int) < 2 ^ 62 := by omega
  cases c0 : (n % 3 == 0) with
  | true =>
    obtain ⟨k, hk, _, hat⟩ := cq5 (i := r)
    have hb := cn4 hk
    generalize sg.cps.toList.getD k 0 = c at hat hb
    have hc : bY (aI 7) cZ (aE iU (aE aS (aB 2) (aE cC (aB 3) (dC (.int 26)))) (aE bQ (aB 7) (dC (.int 1)))) [some (.int n), some (.int m), some (.str "qwertyuiopasdfghjklzxcvbnm"), some (.int r), none, none, none, none] (hV 0 (m : Int).toNat) = .ok (((List.range m).map fun k => jJ ⟨#[c]⟩ (k + 1)).map .str) := by
      unfold hV
      rw [Int.toNat_natCast, List.map_map]
      refine gU fun i hi => ?_
      have hi := List.mem_range.mp hi
      have q1 : -(2 ^ 63) ≤ (0 + (i : Int) + 1) ∧ (0 + (i : Int) + 1) < 2 ^ 62 ∧ (⟨#[c]⟩ : Str).length * (0 + (i : Int) + 1).toNat ≤ sizeLine := ⟨by omega, by omega, kB (by show 1 * _ ≤ _; omega)⟩
      have hat : atI ("qwertyuiopasdfghjklzxcvbnm" : Str).cps.toList (r % 26) = some c := hat
      clear hr
      walk_at "ev"
      have e1 : (0 + (i : Int) + 1).toNat = i + 1 := by omega
      simp only [Function.comp, e1]
    clear hat
    refine ⟨(List.range m).map fun k => jJ ⟨#[c]⟩ (k + 1), by walk_at "ev", by simp, ?_, ?_⟩
    · intro x hx
      obtain ⟨k, hk, rfl⟩ := List.mem_map.mp hx
      have hk := List.mem_range.mp hk
      refine ba0 (by rw [ad4]; simp) (by rw [ad4]; simp; omega) fun c' hc' => ?_
      rw [ad4] at hc'
      rw [(List.mem_replicate.mp hc').2]
      exact hb
    · refine an9 fun a b _ _ e => ?_
      have := congrArg (fun z : Str => z.cps.toList.length) e
      simp only [ad4, List.length_replicate] at this
      omega
  | false =>
    cases c1 : (n % 3 == 1) with
    | true =>
      have h0 := Int.emod_nonneg r (show (8 : Int) ≠ 0 by decide)
      have hl := Int.emod_lt_of_pos r (show (0 : Int) < 8 by decide)
      obtain ⟨k, hk⟩ := lI h0
      have hk8 : k < 8 := by omega
      have e1 : fP [T.str "letter", .str "years", .str "fades", .str "rules", .str "ink", .str "put", .str "after", .str "same"] (some (r % 8)) none = (eightN.drop k).map .str := by
        rw [hk]
        exact (ai0 (eightN.map T.str) k (by show k ≤ 8; omega)).trans List.map_drop.symm
      have e2 : fP [T.str "letter", .str "years", .str "fades", .str "rules", .str "ink", .str "put", .str "after", .str "same"] none (some (r % 8)) = (eightN.take k).map .str := by
        rw [hk]
        exact (bb1 (eightN.map T.str) k).trans List.map_take.symm
      have l1 : (eightN.drop k).length + (eightN.take k).length ≤ 100000 := by simp [eightN]; omega
      obtain ⟨u1, u2, u3⟩ := cb2 k hk8
      have e3 : fP ((eightN.drop k).map T.str ++ (eightN.take k).map T.str) none (some (m : Int)) = ((uV k).take m).map .str := by
        rw [bb1, ← List.map_append, ← List.map_take]
        rfl
      have n1 : aP ((eightN.drop k).map T.str ++ (eightN.take k).map T.str) = true := by rw [← List.map_append]; exact jN _
      refine ⟨(uV k).take m, by clear hk; walk_at "ev", by simp [u1]; omega, fun x hx => u3 x (List.mem_of_mem_take hx), u2.sublist (List.take_sublist _ _)⟩
    | false =>
      have h0 := Int.emod_nonneg r (show (8 : Int) ≠ 0 by decide)
      have hl := Int.emod_lt_of_pos r (show (0 : Int) < 8 by decide)
      obtain ⟨sz, hsz⟩ := lI (show 0 ≤ 1 + r % 8 by omega)
      have hs8 : 1 ≤ sz ∧ sz ≤ 8 := by omega
      have hpos : (0 : Int) < (sz : Int) := by omega
      have a0 := Int.emod_nonneg (r / 8) (show (sz : Int) ≠ 0 by omega)
      have a1 := Int.emod_lt_of_pos (r / 8) hpos
      obtain ⟨at', hat'⟩ := lI a0
      have hal : at' < sz := by omega
      have hq0 : 0 ≤ r / 64 := by omega
      generalize hq : r / 64 = q at hq0
      let ix : Nat → Nat := fun k => ((q + (k : Int)) % 26).toNat
      have ixb : ∀ k, ix k < 26 := fun k => by
        have h0 := Int.emod_nonneg (q + (k : Int)) (show (26 : Int) ≠ 0 by decide)
        have h1 := Int.emod_lt_of_pos (q + (k : Int)) (show (0 : Int) < 26 by decide)
        show (_ : Int).toNat < 26
        omega
      let nm : Nat → Str := fun k => jJ "a" at' ++ ⟨#[sg.cps.toList.getD (ix k) 0]⟩ ++ jJ "b" (sz - 1 - at')
      have codes : ∀ k, (nm k).cps.toList = List.replicate at' 97 ++ [sg.cps.toList.getD (ix k) 0] ++ List.replicate (sz - 1 - at') 98 := fun k => by
        show (jJ ⟨#[97]⟩ at' ++ ⟨#[sg.cps.toList.getD (ix k) 0]⟩ ++ jJ ⟨#[98]⟩ (sz - 1 - at') : Str).cps.toList = _
        rw [sZ, sZ, ad4, ad4]
      have hc : bY (aI 7) cZ (aE bQ (aE bQ (aE iU (dC (.str "a")) (aB 6)) (aE aS (aB 2) (aE cC (aE bQ (aE kY (aB 3) (dC (.int 64))) (aB 7)) (dC (.int 26))))) (aE iU (dC (.str "b")) (aE eA (aE eA (aB 5) (dC (.int 1))) (aB 6)))) [some (.int n), some (.int m), some (.str "qwertyuiopasdfghjklzxcvbnm"), some (.int r), none, some (.int sz), some (.int at'), none] (hV 0 (m : Int).toNat) = .ok (((List.range m).map nm).map .str) := by
        unfold hV
        rw [Int.toNat_natCast, List.map_map]
        refine gU fun i hi => ?_
        have hi := List.mem_range.mp hi
        have la : ("a" : Str).length = 1 := by decide +kernel
        have lb : ("b" : Str).length = 1 := by decide +kernel
        have q1 : -(2 ^ 63) ≤ (at' : Int) ∧ (at' : Int) < 2 ^ 62 ∧ ("a" : Str).length * (at' : Int).toNat ≤ sizeLine := ⟨by omega, by omega, kB (by rw [la]; omega)⟩
        have e2 : ((sz : Int) - 1 - (at' : Int)).toNat = sz - 1 - at' := by omega
        have q5 : (at' : Int).toNat = at' := Int.toNat_natCast _
        have q2 : -(2 ^ 63) ≤ ((sz : Int) - 1 - (at' : Int)) ∧ ((sz : Int) - 1 - (at' : Int)) < 2 ^ 62 ∧ ("b" : Str).length * ((sz : Int) - 1 - (at' : Int)).toNat ≤ sizeLine := ⟨by omega, by omega, kB (by rw [lb]; omega)⟩
        have d64 : jU r 64 := ⟨by decide, by decide⟩
        have hat : atI ("qwertyuiopasdfghjklzxcvbnm" : Str).cps.toList ((q + (0 + (i : Int))) % 26) = some (sg.cps.toList.getD (ix i) 0) := by
          obtain ⟨k, hk, hk2, h⟩ := cq5 (i := q + (0 + (i : Int)))
          have : ix i = k := by
            show ((q + (i : Int)) % 26).toNat = k
            rw [Int.zero_add] at hk2
            omega
          rw [this]
          exact h
        have q3 : (jJ "a" at').length + (⟨#[sg.cps.toList.getD (ix i) 0]⟩ : Str).length ≤ sizeLine := kB (by rw [ae5, la]; show at' * 1 + 1 ≤ _; omega)
        have q4 : (jJ "a" at' ++ (⟨#[sg.cps.toList.getD (ix i) 0]⟩ : Str)).length + (jJ "b" (sz - 1 - at')).length ≤ sizeLine := kB (by rw [bs5, ae5, ae5, la, lb]; show at' * 1 + 1 + (sz - 1 - at') * 1 ≤ _; omega)
        have w1 : (jJ "a" (at' : Int).toNat).length + (⟨#[sg.cps.toList.getD (ix i) 0]⟩ : Str).length ≤ sizeLine := by rw [q5]; exact q3
        have w2 : (jJ "a" (at' : Int).toNat ++ (⟨#[sg.cps.toList.getD (ix i) 0]⟩ : Str)).length + (jJ "b" ((sz : Int) - 1 - (at' : Int)).toNat).length ≤ sizeLine := by rw [q5, e2]; exact q4
        clear codes ixb hr hat' e2 q5 q3 q4 hsz
        walk_at "ev"
        simp only [Function.comp, nm]
        congr 3 <;> first | (congr 1; omega) | omega
      refine ⟨(List.range m).map nm, ?_, by simp, ?_, ?_⟩
      · clear codes ixb
        have d8 : jU r 8 := ⟨by decide, by decide⟩
        walk_at "ev"
      · intro x hx
        obtain ⟨k, hk, rfl⟩ := List.mem_map.mp hx
        refine ba0 (by rw [codes]; simp; omega) (by rw [codes]; simp; omega) fun c' hc' => ?_
        rw [codes, List.mem_append, List.mem_append] at hc'
        rcases hc' with (h | h) | h
        · rw [(List.mem_replicate.mp h).2]; decide
        · rw [List.mem_singleton.mp h]; exact cn4 (ixb k)
        · rw [(List.mem_replicate.mp h).2]; decide
      · refine an9 fun a b ha hb e => ?_
        have e2 := congrArg (fun z : Str => z.cps.toList[at']?) e
        simp only [codes, List.append_assoc, List.getElem?_append_right (show (List.replicate at' 97).length ≤ at' by simp), List.length_replicate, Nat.sub_self, List.cons_append, List.getElem?_cons_zero, Option.some.injEq] at e2
        have e3 := dt2 (ixb a) (ixb b) e2
        have e4 : ((q + (a : Int)) % 26).toNat = ((q + (b : Int)) % 26).toNat := e3
        omega
theorem hp6:wG (.int 10) (.int 6)=.ok (.int 1000000):=by
 rw[be7,am0 (show yR 10 6 from⟨by decide,by decide,by decide⟩)]
 rfl
theorem li4{xs:List Int}(h:xs.length=4):∃a b c d,xs=[a,b,c,d]:=by
 match xs,h with
 |[a,b,c,d],_=>exact⟨a,b,c,d,rfl⟩
theorem cy4{zs:List Int}{i:Nat}{t:T}(h:(zs.map T.int)[i]?=some t):∃z,t=.int z/\z∈zs:=by
 rw[List.getElem?_map]at h
 cases e:zs[i]? with
 |none=>rw[e]at h;cases h
 |some z=>rw[e]at h;cases h;exact⟨z,rfl,List.mem_of_getElem? e⟩
theorem bj2(n:Int)(most:Nat)(h1:1<=most)(h60:most<=60):∃ys:List Int,qN [.int n,.int most]=.ok (.lst true (ys.map .int))/\TabOk ys:=by
 unfold qN qV
 obtain⟨xs,hx,hl,hb⟩:=mO n 4 (by decide)
 obtain⟨a,b,c,d,rfl⟩:=li4 hl
 have hb2:=List.forall_mem_cons.mp hb
 have hb3:=List.forall_mem_cons.mp hb2.2
 have hb4:=List.forall_mem_cons.mp hb3.2
 have hb5:=List.forall_mem_cons.mp hb4.2
 clear hb hl
 obtain⟨v,hv,mv⟩:=iR [1000000,100,a%(1000000+1)] (i:=b%3) (by omega) (by simp;omega)
 have vb:0<=v/\v<=1000000:=by simp at mv;omega
 obtain⟨w,hw,mw⟩:=iR [2,9,40,30011,1000000+1] (i:=d%5) (by omega) (by simp;omega)
 have wb:0<w:=by simp at mw;omega
 have m0:=Int.emod_nonneg c (show(most:Int)≠0 by omega)
 have m1:=Int.emod_lt_of_pos c (show(0:Int)<(most:Int) by omega)
 obtain⟨k,hk⟩:=lI (show 0<=1+c%(most:Int) by omega)
 obtain⟨zs,hz,zl,zb⟩:=mO (n/7) k (by omega)
 have hp:=hp6
 have d7:jU n 7:=⟨by decide,by decide⟩
 have mp:(0:Int)<(most:Int):=by omega
 simp only[List.map_cons,List.map_nil]at hx hv hw
 have b0:=@gZ T
 have b1:=@gX T
 have b2:=@kU T
 have b3:=@qA T
 clear mv mw hb2 hb3 hb4 hb5
 have zb2:=zb
 clear zb
 have hx':eP [.int n,.int 4]=.ok (.lst true [.int a,.int b,.int c,.int d]):=hx
 clear hx
 walk_at "ev"
 generalize hL:iT _ _ _ _=o
 obtain⟨ρ',rfl,ys,e,o5,rfl,yl,yb,yf,he0,he1⟩:=lJ (λi ρ=>∃(ys:List Int)(e:Int)(o5:Option T),ρ=[some (.int n),some (.int most),some (.lst true [.int a,.int b,.int c,.int d]),some (.int e),some (.lst true (ys.map .int)),o5]/\
  ys.length=i/\(∀y∈ys,e<=y/\y<=1000000)/\ys.Pairwise (λa b=>b<=a)/\0<=e/\e<=1000000) hL ⟨[],v,none,rfl,rfl,eH,List.Pairwise.nil,vb.1,vb.2⟩ (by
  rintro i t ρ et ⟨ys,e,o5,rfl,yl,yb,yf,he0,he1⟩
  obtain⟨hi,et2⟩:=List.getElem?_eq_some_iff.mp et
  rw[List.length_map]at hi
  obtain⟨z,rfl,mz⟩:=cy4 et
  have z0:=Int.emod_nonneg z (show w≠0 by omega)
  have hl:ys.length<=100000:=by omega
  clear hL et et2 zb2 mz hk hi zl
  have yb2:=yb
  clear yb
  walk_at "ev"
  refine⟨ys++[e],_,_,by rw[List.map_append];rfl,by simp[yl],?_,?_,?_,?_⟩
  . intro x hx
    rcases List.mem_append.mp hx with hx|hx
    . have:=yb2 x hx
      split<;>omega
    . have hx:=List.mem_singleton.mp hx
      subst hx
      split<;>omega
  . rw[List.pairwise_append]
    refine⟨yf,by simp,λa ha b hb=>?_⟩
    have hb:=List.mem_singleton.mp hb
    subst hb
    exact(yb2 a ha).1
  . split<;>omega
  . split<;>omega)
 rw[List.length_map]at yl
 refine⟨ys,by clear hL yb;walk_at "ev",by omega,by omega,λx hx=>⟨Int.le_trans he0 (yb x hx).1,(yb x hx).2⟩,yf⟩
def sixR:List Str:=["rix","r","regina","king","kings","imperium"]
def RgB(p:Str×Int×Int):Prop:=-4000<=p.2.1/\p.2.1<=4000/\1<=p.2.2/\p.2.2<=100
theorem cj1(n first wide:Int)(f0:-3000<=first)(f1:first+wide<=3000)(w0:0<=wide):∃rs:List (Str×Int×Int),pU [.int n,.int first,.int wide]=.ok (.lst true (rs.map eW))/\rs.length<=6/\rs.map (·.1)=sixR.take rs.length/\∀p∈rs,RgB p:=by
 unfold pU pD
 obtain⟨xs,hx,hl,hb⟩:=mO n 18 (by decide)
 obtain⟨v,hv,mv⟩:=iR [1,6,n%7] (i:=n%3) (by omega) (by simp;omega)
 have vb:0<=v/\v<=6:=by simp at mv;omega
 simp only[List.map_cons,List.map_nil]at hv
 clear mv
 have hx':eP [.int n,.int 18]=.ok (.lst true (xs.map .int)):=hx
 clear hx
 have hb2:=hb
 clear hb
 walk_at "ev"
 generalize hL:iT _ _ _ _=o
 obtain⟨ρ',rfl,rs,o6,o7,rfl,rl,rn,rb⟩:=lJ (λi ρ=>∃(rs:List (Str×Int×Int))(o6 o7:Option T),ρ=[some (.int n),some (.int first),some (.int wide),some (.lst true [.str "rix",.str "r",.str "regina",.str "king",.str "kings",.str "imperium"]),some (.lst true (xs.map .int)),some (.lst true (rs.map eW)),o6,o7]/\
  rs.length=i/\rs.map (·.1)=sixR.take i/\∀p∈rs,RgB p) hL ⟨[],none,none,rfl,rfl,rfl,eH⟩ (by
  rintro i t ρ et ⟨rs,o6,o7,rfl,rl,rn,rb⟩
  obtain⟨hi,rfl⟩:=kF et
  have hi':i<6:=by omega
  obtain⟨nm,hn,en⟩:=bx6 sixR (i:=i) (by show i<6;exact hi')
  obtain⟨p,hp,mp⟩:=iR xs (i:=3*(0+(i:Int))) (by omega) (by omega)
  obtain⟨q,hq,mq⟩:=iR xs (i:=3*(0+(i:Int))+1) (by omega) (by omega)
  obtain⟨r,hr,mr⟩:=iR xs (i:=3*(0+(i:Int))+2) (by omega) (by omega)
  obtain⟨w,hw,mw⟩:=iR [9,100] (i:=r%2) (by omega) (by simp;omega)
  have wb:0<w/\w<=100:=by simp at mw;omega
  have z0:=Int.emod_nonneg p (show wide+10≠0 by omega)
  have z1:=Int.emod_lt_of_pos p (show 0<wide+10 by omega)
  have z2:=Int.emod_nonneg q (show w≠0 by omega)
  have z3:=Int.emod_lt_of_pos q wb.1
  simp only[List.map_cons,List.map_nil,sixR]at hn hw
  have hl2:rs.length<=100000:=by omega
  have q1:mulOk 3 (0+(i:Int)):=dn2 (by decide) (by decide)
  have rb2:=rb
  clear hL et mw hb2 mp mq mr rb
  walk_at "ev"
  refine⟨rs++[(nm,first-5+p%(wide+10),1+q%w)],_,_,by rw[List.map_append];rfl,by simp[rl],?_,?_⟩
  . rw[List.map_append,rn,List.take_succ,en]
    rfl
  . intro p hp
    rcases List.mem_append.mp hp with hp|hp
    . exact rb2 p hp
    . have hp:=List.mem_singleton.mp hp
      subst hp
      unfold RgB
      simp only
      omega)
 rw[kI]at rl rn
 refine⟨rs,by clear hL rb rn rl;walk_at "ev",by omega,?_,rb⟩
 rw[rl]
 exact rn
def fiveI:List Str:=["gall","gal","soot","galls","sepiaink"]
theorem dp5:∀k,k<=6->(("rex":Str)::(sixR.take k++[("re":Str)])).Nodup/\∀x∈("rex":Str)::(sixR.take k++[("re":Str)]),kX x=true:=by decide+kernel
theorem nameI:fiveI.Nodup/\∀x∈fiveI,kX x=true:=by decide+kernel
theorem dl0(ns:List Int)(wide:Int)(w0:5<=wide)(w1:wide<=300):∃f,sF [.lst false (ns.map .int),.int wide,.int 8]=.ok (cH true f)/\Gd f:=by
 unfold sF rY
 obtain⟨z,hz,z0⟩:=ch5 ns 0
 have d12:jU z 12:=⟨by decide,by decide⟩
 obtain⟨xs,hx,xl,xb⟩:=mO (z/12) 16 (by decide)
 have ix:∀i:Nat,i<16->∃x,atI (xs.map T.int) (i:Int)=some (.int x)/\0<=x:=λi hi=>by
  obtain⟨v,hv,mv⟩:=iR xs (i:=(i:Int)) (by omega) (by omega)
  exact⟨v,hv,(xb v mv).1⟩
 obtain⟨x0,h0,p0⟩:=ix 0 (by decide)
 obtain⟨x1,h1,p1⟩:=ix 1 (by decide)
 obtain⟨x2,h2,p2⟩:=ix 2 (by decide)
 obtain⟨x3,h3,p3⟩:=ix 3 (by decide)
 obtain⟨x4,h4,p4⟩:=ix 4 (by decide)
 obtain⟨x5,h5,p5⟩:=ix 5 (by decide)
 obtain⟨x9,h9,p9⟩:=ix 9 (by decide)
 obtain⟨x10,h10,p10⟩:=ix 10 (by decide)
 obtain⟨x11,h11,p11⟩:=ix 11 (by decide)
 obtain⟨x12,h12,p12⟩:=ix 12 (by decide)
 obtain⟨x13,h13,p13⟩:=ix 13 (by decide)
 obtain⟨x14,h14,p14⟩:=ix 14 (by decide)
 replace h0:atI (xs.map T.int) 0=some (.int x0):=h0
 replace h1:atI (xs.map T.int) 1=some (.int x1):=h1
 replace h2:atI (xs.map T.int) 2=some (.int x2):=h2
 replace h3:atI (xs.map T.int) 3=some (.int x3):=h3
 replace h4:atI (xs.map T.int) 4=some (.int x4):=h4
 replace h5:atI (xs.map T.int) 5=some (.int x5):=h5
 replace h9:atI (xs.map T.int) 9=some (.int x9):=h9
 replace h10:atI (xs.map T.int) 10=some (.int x10):=h10
 replace h11:atI (xs.map T.int) 11=some (.int x11):=h11
 replace h12:atI (xs.map T.int) 12=some (.int x12):=h12
 replace h13:atI (xs.map T.int) 13=some (.int x13):=h13
 replace h14:atI (xs.map T.int) 14=some (.int x14):=h14
 have m0:=Int.emod_nonneg x0 (show 6001-wide≠0 by omega)
 have m1:=Int.emod_lt_of_pos x0 (show 0<6001-wide by omega)
 obtain⟨first,hf,mf⟩:=iR [x0%(6001-wide)-3000,-3000,3000-wide] (i:=x1%3) (by omega) (by simp;omega)
 have fb:-3000<=first/\first+wide<=3000:=by simp at mf;omega
 have m2:=Int.emod_nonneg x2 (show wide+1≠0 by omega)
 have m3:=Int.emod_lt_of_pos x2 (show 0<wide+1 by omega)
 obtain⟨span,hs,ms⟩:=iR [x2%(wide+1),wide] (i:=x1/3%2) (by omega) (by simp;omega)
 have sb:0<=span/\span<=wide:=by simp at ms;omega
 obtain⟨kn,hkn⟩:=lI (show 0<=1+x4%8 by omega)
 obtain⟨ss,en,sl,sn,sd⟩:=ch8 x3 kn p3 (by omega) (by omega)
 obtain⟨im,hi,mi⟩:=iR [1+x5%3,5] (i:=x13%3/2) (by omega) (by simp;omega)
 have ib:1<=im/\im<=5:=by simp at mi;omega
 obtain⟨mo,hm,mm⟩:=iR [60,6] (i:=x5/3%2) (by omega) (by simp;omega)
 have mb:1<=mo/\mo<=60:=by simp at mm;omega
 obtain⟨mo',hmo⟩:=lI (show 0<=mo by omega)
 subst hmo
 obtain⟨rs,er,rl,rn,rb⟩:=cj1 x14 first wide fb.1 fb.2 (by omega)
 have cd:∀n:Int,jU n 3:=λn=>⟨by decide,by decide⟩
 have cd2:∀n:Int,jU n 2:=λn=>⟨by decide,by decide⟩
 have hx':eP [.int (z/12),.int 16]=.ok (.lst true (xs.map .int)):=hx
 have wp:(0:Int)<6001-wide:=by omega
 have wp2:(0:Int)<wide+1:=by omega
 have wp3:(0:Int)<wide+2:=by omega
 have xb2:=xb
 have rb2:=rb
 have sn2:=sn
 clear xb ix hx mf ms mi mm rb sn
 simp only[List.map_cons,List.map_nil]at hf hs hi hm
 walk_at "ev"
 generalize hL:iT _ _ _ _=o
 obtain⟨ρ',rfl,inks,o8,o9,rfl,il,inm,iok⟩:=lJ (λi ρ=>∃(inks:List (Str×List Int))(o8 o9:Option T),ρ=[some (.lst false (ns.map .int)),some (.int wide),some (.int 8),some (.lst true (xs.map .int)),some (.int first),some (.int (first+span)),some (.lst true (ss.map .str)),some (.lst true (inks.map (dR true))),o8,o9,none]/\
  inks.length=i/\inks.map (·.1)=fiveI.take i/\∀p∈inks,TabOk p.2) hL ⟨[],none,none,rfl,rfl,rfl,eH⟩ (by
  rintro i t ρ et ⟨inks,o8,o9,rfl,il,inm,iok⟩
  obtain⟨hi',rfl⟩:=kF et
  have hi5:i<5:=by omega
  obtain⟨nm,hn,en⟩:=bx6 fiveI (i:=i) (by show i<5;exact hi5)
  obtain⟨v,hv,mv⟩:=iR xs (i:=6+(0+(i:Int))%3) (by omega) (by omega)
  simp only[List.map_cons,List.map_nil,fiveI]at hn
  obtain⟨ys,hy,yok⟩:=bj2 (v+7919*((0+(i:Int))/3)) mo' (by omega) (by omega)
  have hl2:inks.length<=100000:=by omega
  have iok2:=iok
  have cl:fB (ys.map T.int)=true:=nT _
  clear hL et mv xb2 rb2 sn2 iok
  walk_at "ev"
  refine⟨inks++[(nm,ys)],_,_,by rw[List.map_append];rfl,by simp[il],?_,?_⟩
  . rw[List.map_append,inm,List.take_succ,en]
    rfl
  . intro p hp
    rcases List.mem_append.mp hp with hp|hp
    . exact iok2 p hp
    . have hp:=List.mem_singleton.mp hp
      subst hp
      exact yok)
 rw[kI]at il inm
 have q1:aP (rs.map eW)=true:=cV rs
 have q2:fB (rs.map eW)=true:=sJ rs
 have l1:1+rs.length<=100000:=by omega
 have m4:=Int.emod_nonneg x11 (show wide+2≠0 by omega)
 have m5:=Int.emod_lt_of_pos x11 (show 0<wide+2 by omega)
 have l2:(rs.map eW).length+1<=100000:=by simp;omega
 have l3:rs.length+1<=100000:=by omega
 obtain⟨im',him⟩:∃im':Nat,im.toNat=im'/\im'<=5/\1<=im':=⟨_,rfl,by omega,by omega⟩
 rw[him.1]at il inm
 let r0:Str×Int×Int:=("rex",first-3+x9%7,1+x10%12)
 let r1:Str×Int×Int:=("re",(if first+x11%(wide+2)<4000 then first+x11%(wide+2)else 4000),1+x12%100)
 refine⟨⟨first,span,ss,inks,r0::(rs++[r1])⟩,?_,?_⟩
 . clear hL il inm iok sn2 rb2 xb2 rn
   walk_at "ev"
   simp only[cH,List.map_cons,List.map_append,List.map_nil,eW,r0,r1]
 . obtain⟨v1,v2⟩:=dp5 rs.length rl
   have rnm:(r0::(rs++[r1])).map (·.1)=("rex":Str)::(sixR.take rs.length++[("re":Str)]):=by rw[List.map_cons,List.map_append,rn];rfl
   exact{
    s0:=sb.1
    s1:=by show span<=300;omega
    f0:=fb.1
    f1:=by show first+span<=3000;omega
    n1:=by show 1<=ss.length;omega
    n8:=by show ss.length<=8;omega
    nn:=sn2
    nd:=sd
    i1:=by show 1<=inks.length;omega
    i6:=by show inks.length<=6;omega
    ind:=by show(inks.map (·.1)).Nodup;rw[inm];exact nameI.1.sublist (List.take_sublist _ _)
    inn:=λp hp=>⟨nameI.2 _ (List.mem_of_mem_take (i:=im') (by rw[<-inm];exact List.mem_map_of_mem hp)),iok p hp⟩
    r1:=by show 1<=(r0::(rs++[r1])).length;simp
    r8:=by show(r0::(rs++[r1])).length<=8;simp;omega
    rnd:=by show((r0::(rs++[r1])).map (·.1)).Nodup;rw[rnm];exact v1
    rn:=λp hp=>⟨v2 _ (by rw[<-rnm];exact List.mem_map_of_mem hp),by
     rcases List.mem_cons.mp hp with rfl|hp
     . show -4000<=first-3+x9%7/\first-3+x9%7<=4000/\1<=1+x10%12/\1+x10%12<=100
       omega
     . rcases List.mem_append.mp hp with hp|hp
       . exact rb2 p hp
       . rw[List.mem_singleton.mp hp]
         show -4000<=(if first+x11%(wide+2)<4000 then first+x11%(wide+2)else 4000)/\(if first+x11%(wide+2)<4000 then first+x11%(wide+2)else 4000)<=4000/\1<=1+x12%100/\1+x12%100<=100
         refine⟨?_,?_,?_,?_⟩<;>(try split)<;>omega⟩}
theorem ix5{α:Type}(a b c d e f:α)(l:List α):atI (a::b::c::d::e::f::l) 5=some f:=gM (j:=5) rfl
theorem ix6{α:Type}(a b c d e f g:α)(l:List α):atI (a::b::c::d::e::f::g::l) 6=some g:=gM (j:=6) rfl
theorem li7{xs:List Int}(h:xs.length=7):∃a b c d e f g,xs=[a,b,c,d,e,f,g]:=by
 match xs,h with
 |[a,b,c,d,e,f,g],_=>exact⟨a,b,c,d,e,f,g,rfl⟩
theorem yX{α:Type}(g:α->T)(l:List α){i:Int}(h0:0<=i)(h1:i<l.length):∃v,atI (l.map g) i=some (g v)/\v∈l/\l[i.toNat]?=some v:=by
 obtain⟨k,rfl⟩:=lI h0
 have hk:k<l.length:=by omega
 exact⟨l[k],gM (by simp[hk]),List.getElem_mem hk,by simp[hk]⟩
theorem fA(f:Fm):cO (cH false f)=true:=by simp only[cH,cO,aP,jN,cR,cV,Bool.not_false,Bool.and_self]
theorem rM(o:Bool)(f:Fm):frz (cH o f)=cH false f:=by simp only[cH,frz,frzs,xY,lN,oJ]
inductive Wd (f:Fm):List T->Prop
 |ink {l:Nat} {n:Str} {p:Str×List Int} {d e:Int} (h:f.names[l]?=some n) (hp:p∈f.inks) (h1:0<=d) (h2:d<=1000000) (h3:0<=e) (h4:e<=1000000) (hh:fQ p.2 d e (f.span.toNat+1)≠[]):Wd f [.str "ink",.str n,.str p.1,.int d,.int e]
 |reign {l:Nat} {n:Str} {p:Str×Int×Int} {k:Int} (h:f.names[l]?=some n) (hp:p∈f.reigns) (h1:1<=k) (h2:k<=p.2.2):Wd f [.str "reign",.str n,.str p.1,.int k]
 |under {l:Nat} {n:Str} {p:Str×Int×Int} (h:f.names[l]?=some n) (hp:p∈f.reigns):Wd f [.str "under",.str n,.str p.1]
 |between {l:Nat} {n:Str} {lo hi:Int} (h:f.names[l]?=some n) (h1:-4000<=lo) (h2:lo<=hi) (h3:hi<=4000):Wd f [.str "between",.str n,.int lo,.int hi]
 |after {l m:Nat} {n k:Str} (h:f.names[l]?=some n) (h':f.names[m]?=some k) (hne:(n==k)=false):Wd f [.str "after",.str n,.str k]
 |same {l m:Nat} {n k:Str} (h:f.names[l]?=some n) (h':f.names[m]?=some k) (hne:(n==k)=false):Wd f [.str "same",.str n,.str k]
 |within {l m:Nat} {n k:Str} {hi:Int} (h:f.names[l]?=some n) (h':f.names[m]?=some k) (hne:(n==k)=false) (h1:0<=hi) (h2:hi<=300):Wd f [.str "within",.str n,.str k,.int hi]
 |apart {l m:Nat} {n k:Str} {lo hi:Int} (h:f.names[l]?=some n) (h':f.names[m]?=some k) (hne:(n==k)=false) (h1:-300<=lo) (h2:lo<=hi) (h3:hi<=300):Wd f [.str "apart",.str n,.str k,.int lo,.int hi]
theorem ct3{xs:List Int}{d e:Int}{j n:Nat}(hj:j<n)(h:pB xs d e j=true):fQ xs d e n≠[]:=by
 intro q
 have:(j:Int)∈fQ xs d e n:=by
  unfold fQ
  exact List.mem_map.mpr ⟨j,List.mem_filter.mpr ⟨List.mem_range.mpr hj,h⟩,rfl⟩
 rw[q]at this
 cases this
theorem cz2{f:Fm}(g:Gd f){l:Nat}{n:Str}(hn:f.names[l]?=some n)(x0 x1 x2 x3 x4 x5 x6:Int):∃ws,pI [cH false f,.str n,.lst false [.int x0,.int x1,.int x2,.int x3,.int x4,.int x5,.int x6]]=.ok (.lst true ws)/\Wd f ws:=by
 unfold pI oZ
 have b0:=@gZ T
 have b1:=@gX T
 have b2:=@kU T
 have b3:=@qA T
 have b4:=@ix4 T
 have b5:=@ix5 T
 have nf:=fA f
 have n1:=cR f.inks
 have n2:=cV f.reigns
 simp only[cH]at nf⊢
 have s0:=g.s0
 have s1:=g.s1
 have f0:=g.f0
 have f1:=g.f1
 have sp:(0:Int)<f.first+f.span-f.first+1:=by omega
 have sp3:(0:Int)<f.first+f.span-f.first+3:=by omega
 have sp2:(0:Int)<f.first+f.span-f.first+2:=by omega
 cases c0:(x1%4==0)with
 |true=>
  have i1:=g.i1
  have il:(0:Int)<(f.inks.length:Int):=by omega
  obtain⟨p,hp,mp,_⟩:=yX (dR false) f.inks (i:=x2%(f.inks.length:Int)) (Int.emod_nonneg _ (by omega)) (Int.emod_lt_of_pos _ il)
  have tk:=(g.inn p mp).2
  have j0:=Int.emod_nonneg x3 (show f.first+f.span-f.first+1≠0 by omega)
  have j1:=Int.emod_lt_of_pos x3 sp
  obtain⟨j,hj⟩:=lI j0
  have l1:=tk.l1
  obtain⟨r,hr,mr,er⟩:=yX T.int p.2 (i:=if(p.2.length:Int)-1<x3%(f.first+f.span-f.first+1)then(p.2.length:Int)-1 else x3%(f.first+f.span-f.first+1)) (by split<;>omega) (by split<;>omega)
  have rb:=tk.b r mr
  obtain⟨v,hv,mv⟩:=iR [0,0,1,-1,7,-30] (i:=x4%6) (by omega) (by simp;omega)
  have vb:-30<=v/\v<=7:=by simp at mv;omega
  obtain⟨w,hw,mw⟩:=iR [1,1,9] (i:=x4/6%3) (by omega) (by simp;omega)
  have wb:0<w/\w<=9:=by simp at mw;omega
  have w0:=Int.emod_nonneg x5 (show w≠0 by omega)
  have w1:=Int.emod_lt_of_pos x5 wb.1
  have d6:jU x4 6:=⟨by decide,by decide⟩
  have hp6':=hp6
  have np:cO (dR false p)=true:=by simp only[dR,cO,aP,kP,Bool.not_false,Bool.and_self]
  simp only[List.map_cons,List.map_nil]at hv hw
  simp only[dR]at hp np
  have er2:p.2.getD (min j (p.2.length-1)) 0=r:=by
   have:(if(p.2.length:Int)-1<x3%(f.first+f.span-f.first+1)then(p.2.length:Int)-1 else x3%(f.first+f.span-f.first+1)).toNat=min j (p.2.length-1):=by split<;>omega
   rw[this]at er
   rw[List.getD_eq_getElem?_getD,er]
   rfl
  have jb:j<f.span.toNat+1:=by omega
  clear mv mw g tk hj er
  walk_at "ev"
  refine⟨_,rfl,.ink hn mp ?_ ?_ ?_ ?_ (ct3 jb ?_)⟩
  . split<;>(try split)<;>omega
  . split<;>(try split)<;>omega
  . split<;>split<;>(try split)<;>omega
  . split<;>split<;>(try split)<;>omega
  . unfold pB
    rw[er2,decide_eq_true_iff]
    generalize(if _>(0:Int)then _ else(0:Int))=d
    split<;>split<;>omega
 |false=>
  have r1:=g.r1
  have rl:(0:Int)<(f.reigns.length:Int):=by omega
  obtain⟨p,hp,mp,_⟩:=yX eW f.reigns (i:=x2%(f.reigns.length:Int)) (Int.emod_nonneg _ (by omega)) (Int.emod_lt_of_pos _ rl)
  have rk:=(g.rn p mp).2
  have np:cO (eW p)=true:=rfl
  simp only[eW]at hp np
  cases c1:(x1%4==1)with
  |true=>
   have w0:=Int.emod_nonneg x3 (show p.2.2≠0 by omega)
   have w1:=Int.emod_lt_of_pos x3 (show 0<p.2.2 by omega)
   have w2:0<p.2.2:=by omega
   clear g
   walk_at "ev"
   exact⟨_,rfl,.reign hn mp (by omega) (by omega)⟩
  |false=>
   cases c2:(x1%4==2)with
   |true=>
    clear g
    walk_at "ev"
    exact⟨_,rfl,.under hn mp⟩
   |false=>
    have w0:=Int.emod_nonneg x3 (show f.first+f.span-f.first+3≠0 by omega)
    have w1:=Int.emod_lt_of_pos x3 sp3
    have w2:=Int.emod_nonneg x4 (show f.first+f.span-f.first+2≠0 by omega)
    have w3:=Int.emod_lt_of_pos x4 sp2
    clear g
    walk_at "ev"
    exact⟨_,rfl,.between hn (by omega) (by omega) (by omega)⟩
theorem bc0{f:Fm}(g:Gd f)(n far:Int)(h0:0<=far)(h3:far<=300):∃ws,pW [cH false f,.int n,.int far]=.ok (.lst true ws)/\Wd f ws:=by
 unfold pW oW
 obtain⟨xs,hx,xl,xb⟩:=mO n 7 (by decide)
 obtain⟨x0,x1,x2,x3,x4,x5,x6,rfl⟩:=li7 xl
 clear xb xl
 have hx':eP [.int n,.int 7]=.ok (.lst true [.int x0,.int x1,.int x2,.int x3,.int x4,.int x5,.int x6]):=hx
 clear hx
 have b0:=@gZ T
 have b1:=@gX T
 have b2:=@kU T
 have b3:=@qA T
 have b4:=@ix4 T
 have b6:=@ix6 T
 have nf:=fA f
 have zf:=rM false f
 have ni:=cR f.inks
 have nr:=cV f.reigns
 have zi:=lN false f.inks
 have zr:=oJ f.reigns
 have n1:=g.n1
 have nl:(0:Int)<(f.names.length:Int):=by omega
 have a0:=Int.emod_nonneg x0 (show(f.names.length:Int)≠0 by omega)
 have a1:=Int.emod_lt_of_pos x0 nl
 obtain⟨nm,hn,mn,en⟩:=yX T.str f.names a0 a1
 obtain⟨ws,hw,wd⟩:=cz2 g en x0 x1 x2 x3 x4 x5 x6
 have nw:aP ws=true/\fB ws=true:=by cases wd<;>exact⟨rfl,rfl⟩
 simp only[cH]at nf zf hw⊢
 by_cases hor:((f.names.length:Int)==1)=true\/decide (x6%8<3)=true
 . refine⟨ws,?_,wd⟩
   have nw1:=nw.1
   have nw2:=nw.2
   clear wd en nw
   cases ho:((f.names.length:Int)==1)with
   |true=>
    clear hor g
    walk_at "ev"
   |false=>
    have ho2:decide (x6%8<3)=true:=by
     rcases hor with h|h
     . rw[ho]at h;cases h
     . exact h
    clear hor g
    walk_at "ev"
 . have ho:((f.names.length:Int)==1)=false:=by
    cases h:((f.names.length:Int)==1)
    . rfl
    . exact absurd (.inl h) hor
   have ho2:decide (x6%8<3)=false:=by
    cases h:decide (x6%8<3)
    . rfl
    . exact absurd (.inr h) hor
   have hne1:¬(f.names.length:Int)=1:=by simpa using ho
   have n8:=g.n8
   have nl1:(0:Int)<(f.names.length:Int)-1:=by omega
   have c0:=Int.emod_nonneg x2 (show(f.names.length:Int)-1≠0 by omega)
   have c1:=Int.emod_lt_of_pos x2 nl1
   obtain⟨km,hk,mk,ek⟩:=yX T.str f.names (i:=(x0%(f.names.length:Int)+1+x2%((f.names.length:Int)-1))%(f.names.length:Int)) (Int.emod_nonneg _ (by omega)) (Int.emod_lt_of_pos _ nl)
   have hne:(nm==km)=false:=by
    rw[beq_eq_false_iff_ne]
    rintro rfl
    obtain⟨i1,e1⟩:=List.getElem?_eq_some_iff.mp en
    obtain⟨i2,e2⟩:=List.getElem?_eq_some_iff.mp ek
    have:=(List.getElem_inj g.nd).mp (e1.trans e2.symm)
    generalize x0%(f.names.length:Int)=a at a0 a1 this
    generalize x2%((f.names.length:Int)-1)=b at c0 c1 this
    have h8:(f.names.length:Int)<=8:=by omega
    generalize(f.names.length:Int)=L at a1 c1 this nl
    rcases Int.lt_or_le (a+1+b) L with h|h
    . rw[Int.emod_eq_of_lt (by omega) h]at this
      omega
    . have hs:(a+1+b)%L=a+1+b-L:=by
       rw[<-Int.sub_emod_right (a+1+b) L]
       exact Int.emod_eq_of_lt (by omega) (by omega)
      rw[hs]at this
      omega
   have fp:(0:Int)<far+1:=by omega
   have fp2:(0:Int)<2*far+1:=by omega
   clear hor wd nw hw hne1
   cases k0:(x1%4==0)with
   |true=>
    clear g
    walk_at "ev"
    exact⟨_,rfl,.after en ek hne⟩
   |false=>
    cases k1:(x1%4==1)with
    |true=>
     clear g
     walk_at "ev"
     exact⟨_,rfl,.same en ek hne⟩
    |false=>
     have w0:=Int.emod_nonneg x3 (show far+1≠0 by omega)
     have w1:=Int.emod_lt_of_pos x3 fp
     have w2:=Int.emod_nonneg x3 (show 2*far+1≠0 by omega)
     have w3:=Int.emod_lt_of_pos x3 fp2
     have w4:=Int.emod_nonneg x4 (show far+1≠0 by omega)
     cases k2:(x1%4==2)with
     |true=>
      clear g
      walk_at "ev"
      exact⟨_,rfl,.within en ek hne (by omega) (by omega)⟩
     |false=>
      clear g
      walk_at "ev"
      exact⟨_,rfl,.apart en ek hne (by omega) (by split<;>omega) (by split<;>omega)⟩
def pK:Str->Str:=λc=>([("Ink","ink"),("Reign","reign"),("Under","under"),("Between","between"),("After","after"),("Same","same"),("Within","within"),("Apart","apart")]:List (Str×Str)).lookup c|>.getD ""
theorem as9(b:Bool):∀bs:List Bool,nQ (.bl b) (bs.map .bl)=some (bs.map λc=>c==b)
 |[]=>rfl
 |c::bs=>by
  simp only[List.map_cons,nQ,as9 b bs]
  rfl
theorem br3{c:Str}(hc:c∈rP)(ls:List Int)(lo:Int)(hi:Option Int)(x:Str):mF [cU false c ls lo hi x,.str (pK c)]=.ok (.bl true):=by
 unfold mF qQ
 have key:∀c∈rP,∃b0 b1 b2 b3 b4 b5 b6 b7:Bool,∃k:Nat,ki_Ink.lookup c=some b0/\ki_Reign.lookup c=some b1/\ki_Under.lookup c=some b2/\ki_Between.lookup c=some b3/\ki_After.lookup c=some b4/\ki_Same.lookup c=some b5/\ki_Within.lookup c=some b6/\ki_Apart.lookup c=some b7/\ki_Saying.lookup c=some true/\
  (([b0,b1,b2,b3,b4,b5,b6,b7]:List Bool).map λc=>c==true).countP id=1/\uK (([b0,b1,b2,b3,b4,b5,b6,b7]:List Bool).map λc=>c==true)=some k/\(["ink","reign","under","between","after","same","within","apart"]:List Str)[k]?=some (pK c):=by
  intro c hc
  simp only[rP,List.mem_cons,List.not_mem_nil,or_false]at hc
  rcases hc with rfl|rfl|rfl|rfl|rfl|rfl|rfl|rfl
  . exact⟨true,false,false,false,false,false,false,false,0,by with_unfolding_all decide+kernel⟩
  . exact⟨false,true,false,false,false,false,false,false,1,by with_unfolding_all decide+kernel⟩
  . exact⟨false,false,true,false,false,false,false,false,2,by with_unfolding_all decide+kernel⟩
  . exact⟨false,false,false,true,false,false,false,false,3,by with_unfolding_all decide+kernel⟩
  . exact⟨false,false,false,false,true,false,false,false,4,by with_unfolding_all decide+kernel⟩
  . exact⟨false,false,false,false,false,true,false,false,5,by with_unfolding_all decide+kernel⟩
  . exact⟨false,false,false,false,false,false,true,false,6,by with_unfolding_all decide+kernel⟩
  . exact⟨false,false,false,false,false,false,false,true,7,by with_unfolding_all decide+kernel⟩
 obtain⟨b0,b1,b2,b3,b4,b5,b6,b7,k,h0,h1,h2,h3,h4,h5,h6,h7,hs,hcn,hps,hk⟩:=key c hc
 have i0:∀t b,t.lookup c=some b->nL t (cU false c ls lo hi x)=.ok (.bl b):=λt b h=>by
  simp only[nL,cU,h]
 have a0:=i0 _ _ h0
 have a1:=i0 _ _ h1
 have a2:=i0 _ _ h2
 have a3:=i0 _ _ h3
 have a4:=i0 _ _ h4
 have a5:=i0 _ _ h5
 have a6:=i0 _ _ h6
 have a7:=i0 _ _ h7
 have as:=i0 _ _ hs
 have n4:aP [T.bl b0,.bl b1,.bl b2,.bl b3]=true:=rfl
 have e1:nQ (.bl true) [T.bl b0,.bl b1,.bl b2,.bl b3,.bl b4,.bl b5,.bl b6,.bl b7]=some (([b0,b1,b2,b3,b4,b5,b6,b7]:List Bool).map λc=>c==true):=as9 true [b0,b1,b2,b3,b4,b5,b6,b7]
 have ec:xT (.lst true [.bl b0,.bl b1,.bl b2,.bl b3,.bl b4,.bl b5,.bl b6,.bl b7]) [.bl true]=.ok (.int 1):=by
  simp only[xT,e1,hcn]
  rfl
 have ei:iC (.lst true [.bl b0,.bl b1,.bl b2,.bl b3,.bl b4,.bl b5,.bl b6,.bl b7]) [.bl true]=.ok (.int k):=by
  simp only[iC,e1,hps]
 have ek:atI [T.str "ink",.str "reign",.str "under",.str "between",.str "after",.str "same",.str "within",.str "apart"] (k:Int)=some (.str (pK c)):=
  gM (by
   have:=congrArg (Option.map T.str) hk
   rw[<-List.getElem?_map]at this
   exact this)
 have ew:(pK c==pK c)=true:=beq_self_eq_true _
 have e11:((1:Int)==1)=true:=rfl
 clear i0 key h0 h1 h2 h3 h4 h5 h6 h7 hs hcn hps hk hc e1
 walk_at "ev"
def dQ(lo:Int)(hi:Option Int):T:=.tup [.int lo,qB hi]
def gF(lo:Int)(hi:Option Int)(n:Int):Bool:=decide (lo<=n)&&match hi with|none=>true|some h=>decide (n<=h)
theorem dt3(lo:Int)(hi:Option Int)(n:Int):nB [dQ lo hi,.int n]=.ok (.bl (gF lo hi n)):=by
 unfold nB rZ dQ gF
 have b0:=@gZ T
 have b1:=@gX T
 cases hi with
 |none=>
  simp only[qB]
  cases h:decide (lo<=n)<;>walk_at "ev"
 |some u=>
  simp only[qB]
  cases h:decide (lo<=n)<;>walk_at "ev"
theorem sT{lo:Int}{hi:Option Int}{w:Str}(h:hi.isNone=(w=="after")):pV [dQ lo hi,.str w]=.ok (.bl true):=by
 unfold pV pX dQ
 have b0:=@gZ T
 have b1:=@gX T
 have l2:(((2:Nat):Int)==2)=true:=rfl
 cases hi with
 |none=>
  simp only[qB]
  have hw:(w=="after")=true:=h.symm
  have hc:∀a b:Option T,bY (aI 2) (bG (aE nW (aB 2) (dC .non))) (xI (bT gR (aD (aB 2) (aD (dC (.ty "bool")) aJ))) (tS (bT gR (aD (aB 2) (aD (dC (.ty "int")) aJ))))) [a,b,none] [.int lo,.non]=.ok ([false].map .bl):=λa b=>by
   simp only[bY]
   walk_at "ev"
  have ht:(true==true)=true:=rfl
  have ha:lP true [.lst true [.bl false]]=.ok (.bl false):=ay2 true true [false]
  clear h
  walk_at "ev"
 |some u=>
  simp only[qB]
  have hw:(w=="after")=false:=h.symm
  have hc:∀a b:Option T,bY (aI 2) (bG (aE nW (aB 2) (dC .non))) (xI (bT gR (aD (aB 2) (aD (dC (.ty "bool")) aJ))) (tS (bT gR (aD (aB 2) (aD (dC (.ty "int")) aJ))))) [a,b,none] [.int lo,.int u]=.ok ([false,false].map .bl):=λa b=>by
   simp only[bY]
   walk_at "ev"
  have ht:(false==false)=true:=rfl
  have ha:lP true [.lst true [.bl false,.bl false]]=.ok (.bl false):=ay2 true true [false,false]
  clear h
  walk_at "ev"
theorem sW{α:Type}{b:T->Fr->Option Fr}{c:Fr->Res Bool}{d:Fr->Res T}{ρ:Fr}{g f:α->T}{p:α->Bool}:∀{l:List α},(∀a∈l,∃ρ1,b (g a) ρ=some ρ1/\c ρ1=.ok (p a)/\(p a=true->d ρ1=.ok (f a)))->bY b c d ρ (l.map g)=.ok ((l.filter p).map f)
 |[],_=>rfl
 |a::l,h=>by
  obtain⟨ρ1,h0,h1,h2⟩:=h a List.mem_cons_self
  have ih:=sW (b:=b) (c:=c) (d:=d) (ρ:=ρ) (g:=g) (f:=f) (p:=p) (l:=l) (λu hu=>h u (List.mem_cons_of_mem _ hu))
  cases hp:p a with
  |true=>simp only[List.map_cons,bY,h0,h1,hp,h2 hp,kA,if_true,List.filter_cons,ih]
  |false=>simp only[List.map_cons,bY,h0,h1,hp,kA,Bool.false_eq_true,if_false,List.filter_cons,ih]
theorem zZ{α:Type}{key:α->Str}{n:Str}:∀{l:List α},n∉l.map key->l.filter (λx=>key x==n)=[]
 |[],_=>rfl
 |x::l,h=>by
  rw[List.map_cons,List.mem_cons,not_or]at h
  have:(key x==n)=false:=by rw[beq_eq_false_iff_ne];exact λz=>h.1 z.symm
  rw[List.filter_cons,this]
  exact zZ h.2
theorem sI{α:Type}{key:α->Str}:∀{l:List α}{a:α},(l.map key).Nodup->a∈l->l.filter (λx=>key x==key a)=[a]
 |[],a,_,h=>by cases h
 |x::l,a,nd,h=>by
  rw[List.map_cons,List.nodup_cons]at nd
  rcases List.mem_cons.mp h with rfl|h
  . rw[List.filter_cons,if_pos (beq_self_eq_true _),zZ nd.1]
  . have:(key x==key a)=false:=by
     rw[beq_eq_false_iff_ne]
     intro e
     exact nd.1 (by rw[e];exact List.mem_map_of_mem h)
    rw[List.filter_cons,this]
    exact sI nd.2 h
theorem neW:∀a∈(["ink","reign","under","between","after","same","within","apart"]:List Str),∀b∈(["ink","reign","under","between","after","same","within","apart"]:List Str),decide (a=b)=false->(a==b)=false:=by decide+kernel
theorem ne_bk:(("between":Str)=="ink")=false/\(("reign":Str)=="ink")=false/\(("under":Str)=="ink")=false/\(("reign":Str)=="between")=false/\(("under":Str)=="between")=false/\(("under":Str)=="reign")=false:=by decide+kernel
theorem df5{f:Fm}(g:Gd f){n:Str}{p:Str×List Int}(hp:p∈f.inks)(d e:Int)(y:Int)(h1:f.first<=y)(h2:y<=f.first+f.span):cG [cH false f,.lst false [.str "ink",.str n,.str p.1,.int d,.int e],.int y]=.ok (.bl (pB p.2 d e (f.first+f.span-y).toNat)):=by
 unfold cG fO
 have b0:=@gZ T
 have b2:=@kU T
 have b3:=@qA T
 have b4:=@ix4 T
 have nf:=fA f
 have ni:=cR f.inks
 have nr:=cV f.reigns
 simp only[cH]at nf⊢
 have tk:=(g.inn p hp).2
 have l1:=tk.l1
 have l6:=tk.l60
 have li:f.inks.length<=100000:=by have:=g.i6;omega
 obtain⟨a,ha⟩:=lI (show 0<=f.first+f.span-y by omega)
 have e1:(("ink":Str)=="ink")=true:=beq_self_eq_true _
 have hc:∀x0 x1 x2 x3 x4 x5 x7 x8 x9 x10 x11 x12:Option T,x1=some (.lst false [.str "ink",.str n,.str p.1,.int d,.int e])->bY (eF (bA (aI 13) (bA (aI 14) eI))) (bG (aE dZ (aB 13) (aE aS (aB 1) (dC (.int 2))))) (bE (aB 14)) [x0,x1,x2,x3,x4,x5,some (.lst false (f.inks.map (dR false))),x7,x8,x9,x10,x11,x12,none,none] (f.inks.map (dR false))=.ok [.lst false (p.2.map .int)]:=by
  intro x0 x1 x2 x3 x4 x5 x7 x8 x9 x10 x11 x12 hx
  subst hx
  have:=sI (key:=λq:Str×List Int=>q.1) g.ind hp
  refine(sW (p:=λq:Str×List Int=>q.1==p.1) (f:=λq:Str×List Int=>.lst false (q.2.map .int)) λq hq=>⟨_,by simp only[dR];rfl,?_,λ_=>?_⟩).trans ?_
  . clear g
    walk_at "ev"
  . clear g
    walk_at "ev"
  . rw[this]
    rfl
 have hc':=λx0 x2 x3 x4 x5 x7 x8 x9 x10 x11 x12=>hc x0 _ x2 x3 x4 x5 x7 x8 x9 x10 x11 x12 rfl
 clear hc
 have z1:atI (p.2.map T.int) ((p.2.length:Int)-1)=some (.int (p.2.getD (p.2.length-1) 0)):=by
  rw[show(p.2.length:Int)-1=((p.2.length-1:Nat):Int) by omega]
  exact qI (by omega)
 have pb:∀r:Int,(decide (r-e<=d)&&decide (d<=r+e))=decide ((if r-d<0 then -(r-d)else r-d)<=e):=λr=>by
  rw[<-Bool.decide_and,decide_eq_decide]
  split<;>omega
 rw[ha,Int.toNat_natCast]
 clear g tk
 by_cases hlt:(a:Int)<(p.2.length:Int)
 . have hd:decide ((a:Int)<(p.2.length:Int))=true:=decide_eq_true hlt
   have z2:atI (p.2.map T.int) (a:Int)=some (.int (p.2.getD a 0)):=qI (by omega)
   have hm:min a (p.2.length-1)=a:=by omega
   unfold pB
   rw[hm,<-pb]
   clear pb hm hlt
   cases hA:decide (p.2.getD a 0-e<=d)<;>walk_at "ev"
 . have hd:decide ((a:Int)<(p.2.length:Int))=false:=decide_eq_false hlt
   have hm:min a (p.2.length-1)=p.2.length-1:=by omega
   unfold pB
   rw[hm,<-pb]
   clear pb hm hlt
   cases hA:decide (p.2.getD (p.2.length-1) 0-e<=d)<;>walk_at "ev"
theorem bz2(a b:Int):(a==b)=decide (a=b):=by
 by_cases h:a=b
 . subst h;simp
 . rw[decide_eq_false h];simpa using h
theorem bd7(f:Fm)(n:Str)(lo hi y:Int):cG [cH false f,.lst false [.str "between",.str n,.int lo,.int hi],.int y]=.ok (.bl (gF lo (some hi) y)):=by
 unfold cG fO gF
 have b0:=@gZ T
 have b2:=@kU T
 have b3:=@qA T
 have nf:=fA f
 have ni:=cR f.inks
 have nr:=cV f.reigns
 simp only[cH]at nf⊢
 have e0:=ne_bk.1
 have e1:(("between":Str)=="between")=true:=beq_self_eq_true _
 cases hA:decide (lo<=y)<;>walk_at "ev"
theorem bm3{f:Fm}(g:Gd f){p:Str×Int×Int}(hp:p∈f.reigns){ws:List T}(h2:atI ws 2=some (.str p.1)):∀x0 x2 x3 x4 x5 x6 x7 x8 x9 x10 x14:Option T,bY (eF (bA (aI 13) (bA (aI 11) (bA (aI 12) eI)))) (bG (aE dZ (aB 13) (aE aS (aB 1) (dC (.int 2))))) (kS (aD (bE (aB 11)) (aD (bE (aB 12)) aJ))) [x0,some (.lst false ws),x2,x3,x4,x5,x6,x7,x8,x9,x10,none,none,none,x14] (f.reigns.map eW)=.ok [.tup [.int p.2.1,.int p.2.2]]:=by
 intro x0 x2 x3 x4 x5 x6 x7 x8 x9 x10 x14
 have:=sI (key:=λq:Str×Int×Int=>q.1) g.rnd hp
 refine(sW (p:=λq:Str×Int×Int=>q.1==p.1) (f:=λq:Str×Int×Int=>.tup [.int q.2.1,.int q.2.2]) λq hq=>⟨_,by simp only[eW];rfl,?_,λ_=>?_⟩).trans ?_
 . clear g
   walk_at "ev"
 . clear g
   walk_at "ev"
 . rw[this]
   rfl
theorem cz8{f:Fm}(g:Gd f)(n:Str){p:Str×Int×Int}(hp:p∈f.reigns)(k y:Int):cG [cH false f,.lst false [.str "reign",.str n,.str p.1,.int k],.int y]=.ok (.bl (gF (p.2.1+k-1) (some (p.2.1+k-1)) y)):=by
 unfold cG fO
 have b0:=@gZ T
 have b2:=@kU T
 have b3:=@qA T
 have nf:=fA f
 have ni:=cR f.inks
 have nr:=cV f.reigns
 simp only[cH]at nf⊢
 obtain⟨_,e0,_,e2,_,_⟩:=ne_bk
 have e1:(("reign":Str)=="reign")=true:=beq_self_eq_true _
 have hc:=bm3 g hp (ws:=[.str "reign",.str n,.str p.1,.int k]) (kU _ _ _ _)
 have lr:f.reigns.length<=100000:=by have:=g.r8;omega
 have hl:gF (p.2.1+k-1) (some (p.2.1+k-1)) y=(y==p.2.1+k-1):=by
  unfold gF
  rw[<-Bool.decide_and,bz2]
  rw[decide_eq_decide]
  omega
 rw[hl]
 clear hl g
 walk_at "ev"
theorem cx8{f:Fm}(g:Gd f)(n:Str){p:Str×Int×Int}(hp:p∈f.reigns)(y:Int):cG [cH false f,.lst false [.str "under",.str n,.str p.1],.int y]=.ok (.bl (gF p.2.1 (some (p.2.1+p.2.2-1)) y)):=by
 unfold cG fO
 have b0:=@gZ T
 have b2:=@kU T
 have nf:=fA f
 have ni:=cR f.inks
 have nr:=cV f.reigns
 simp only[cH]at nf⊢
 obtain⟨_,_,e0,_,e2,e3⟩:=ne_bk
 have hc:=bm3 g hp (ws:=[.str "under",.str n,.str p.1]) (kU _ _ _ _)
 have lr:f.reigns.length<=100000:=by have:=g.r8;omega
 have hl:gF p.2.1 (some (p.2.1+p.2.2-1)) y=(decide (p.2.1<=y)&&decide (y<p.2.1+p.2.2)):=by
  unfold gF
  rw[<-Bool.decide_and,<-Bool.decide_and,decide_eq_decide]
  omega
 rw[hl]
 clear hl g
 cases hA:decide (p.2.1<=y)<;>walk_at "ev"
abbrev nP:List Str:=["ink","reign","under","between"]
abbrev an4:List Str:=["after","same","within","apart"]
theorem uM{ss:List Str}{w:Str}(h:w∈ss):gY false (.str w) (.lst true (ss.map .str))=.ok (.bl true):=bt5 h true
theorem zG{ss:List Str}{w:Str}(h:∀s∈ss,(s==w)=false):gY false (.str w) (.lst true (ss.map .str))=.ok (.bl false):=by
 have:(ss.map λs=>s==w).any id=false:=by
  rw[List.any_map,List.any_eq_false]
  intro s hs
  simp[h s hs]
 simp only[gY,tM,Bool.false_eq_true,if_false,this]
theorem ak2:∀w∈an4,∀s∈nP,(s==w)=false:=by decide+kernel
theorem dy7:∀w∈nP,∀s∈an4,(s==w)=false:=by decide+kernel
theorem bd4{f:Fm}(g:Gd f){w n:Str}{r:List T}{l:Nat}{ys:List Int}{y:Int}{b:Bool}(hw:w∈nP)(h:f.names[l]?=some n)(hy:atI (ys.map T.int) (l:Int)=some (.int y))(nr:aP r=true)
 (ht:cG [cH false f,.lst false (.str w::.str n::r),.int y]=.ok (.bl b)):dG [cH false f,.lst false (.str w::.str n::r),.lst false (ys.map .int)]=.ok (.bl b):=by
 unfold dG kO
 have b0:=@gZ T
 have b1:=@gX T
 have b2:=@kU T
 have ei:=gC g h false
 have nf:=fA f
 have zf:=rM false f
 have zr:=fK r nr
 have hi:gY false (.str w) (.lst true [.str "ink",.str "reign",.str "under",.str "between"])=.ok (.bl true):=uM (ss:=nP) hw
 have ni:=cR f.inks
 have nr2:=cV f.reigns
 have zi:=lN false f.inks
 have zr2:=oJ f.reigns
 simp only[cH]at nf zf ht⊢
 clear hw g
 walk_at "ev"
theorem ne_2:(("same":Str)=="after")=false/\(("within":Str)=="after")=false/\(("apart":Str)=="after")=false/\(("within":Str)=="same")=false/\(("apart":Str)=="same")=false/\(("apart":Str)=="within")=false:=by decide+kernel
section
variable {f : Fm} (g : Gd f) {n k : Str} {l m : Nat} {ys : List Int} {a c : Int} (h : f.names[l]? = some n) (h' : f.names[m]? = some k) (hy : atI (ys.map T.int) (l : Int) = some (.int a)) (hz : atI (ys.map T.int) (m : Int) = some (.int c))
include g h h' hy hz
theorem cl8:dG [cH false f,.lst false [.str "after",.str n,.str k],.lst false (ys.map .int)]=.ok (.bl (gF 1 none (a-c))):=by
 unfold dG kO
 have b0:=@gZ T
 have b1:=@gX T
 have b2:=@kU T
 have ei:=gC g h false
 have ej:=gC g h' false
 have hi:gY false (.str "after") (.lst true [.str "ink",.str "reign",.str "under",.str "between"])=.ok (.bl false):=zG (ss:=nP) (ak2 _ (by decide+kernel))
 have e1:(("after":Str)=="after")=true:=beq_self_eq_true _
 have hl:gF 1 none (a-c)=decide (c<a):=by
  unfold gF
  simp only[Bool.and_true]
  rw[decide_eq_decide]
  omega
 rw[hl]
 simp only[cH]
 clear hl g
 walk_at "ev"
theorem db3:dG [cH false f,.lst false [.str "same",.str n,.str k],.lst false (ys.map .int)]=.ok (.bl (gF 0 (some 0) (a-c))):=by
 unfold dG kO
 have b0:=@gZ T
 have b1:=@gX T
 have b2:=@kU T
 have ei:=gC g h false
 have ej:=gC g h' false
 have hi:gY false (.str "same") (.lst true [.str "ink",.str "reign",.str "under",.str "between"])=.ok (.bl false):=zG (ss:=nP) (ak2 _ (by decide+kernel))
 have e1:(("same":Str)=="same")=true:=beq_self_eq_true _
 have e2:=ne_2.1
 have hl:gF 0 (some 0) (a-c)=(a==c):=by
  unfold gF
  rw[<-Bool.decide_and,bz2,decide_eq_decide]
  omega
 rw[hl]
 simp only[cH]
 clear hl g
 walk_at "ev"
theorem ci3(hi:Int):dG [cH false f,.lst false [.str "within",.str n,.str k,.int hi],.lst false (ys.map .int)]=.ok (.bl (gF 0 (some hi) (a-c))):=by
 unfold dG kO
 have b0:=@gZ T
 have b1:=@gX T
 have b2:=@kU T
 have b3:=@qA T
 have ei:=gC g h false
 have ej:=gC g h' false
 have hin:gY false (.str "within") (.lst true [.str "ink",.str "reign",.str "under",.str "between"])=.ok (.bl false):=zG (ss:=nP) (ak2 _ (by decide+kernel))
 have e1:(("within":Str)=="within")=true:=beq_self_eq_true _
 obtain⟨_,e2,_,e3,_,_⟩:=ne_2
 have hl:gF 0 (some hi) (a-c)=(decide (c<=a)&&decide (a<=c+hi)):=by
  unfold gF
  rw[<-Bool.decide_and,<-Bool.decide_and,decide_eq_decide]
  omega
 rw[hl]
 simp only[cH]
 clear hl g
 cases hA:decide (c<=a)<;>walk_at "ev"
theorem cc8(lo hi:Int):dG [cH false f,.lst false [.str "apart",.str n,.str k,.int lo,.int hi],.lst false (ys.map .int)]=.ok (.bl (gF lo (some hi) (a-c))):=by
 unfold dG kO
 have b0:=@gZ T
 have b1:=@gX T
 have b2:=@kU T
 have b3:=@qA T
 have b4:=@ix4 T
 have ei:=gC g h false
 have ej:=gC g h' false
 have hin:gY false (.str "apart") (.lst true [.str "ink",.str "reign",.str "under",.str "between"])=.ok (.bl false):=zG (ss:=nP) (ak2 _ (by decide+kernel))
 obtain⟨_,_,e2,_,e3,e4⟩:=ne_2
 have hl:gF lo (some hi) (a-c)=(decide (c+lo<=a)&&decide (a<=c+hi)):=by
  unfold gF
  rw[<-Bool.decide_and,<-Bool.decide_and,decide_eq_decide]
  omega
 rw[hl]
 simp only[cH]
 clear hl g
 cases hA:decide (c+lo<=a)<;>walk_at "ev"
end
def pA(f:Fm)(l:Nat)(y:Int):List Int:=(List.replicate f.names.length f.first).set l y
theorem at1{f:Fm}{l:Nat}(h:l<f.names.length)(y:Int):atI ((pA f l y).map T.int) (l:Int)=some (.int y):=by
 refine gM ?_
 rw[List.getElem?_map,pA,List.getElem?_set_self (by simpa using h)]
 rfl
theorem wK{f:Fm}{l m:Nat}(h:m<f.names.length)(hne:l≠m)(y:Int):atI ((pA f l y).map T.int) (m:Int)=some (.int f.first):=by
 refine gM ?_
 rw[List.getElem?_map,pA,List.getElem?_set_ne hne,List.getElem?_replicate,if_pos h]
 rfl
theorem bb8(f:Fm)(l:Nat)(y:Int):(pA f l y).length=f.names.length:=by rw[pA,List.length_set,List.length_replicate]
theorem cs6{n k:Nat}(h:k<n):sU n (k:Int)=some k:=by
 unfold sU
 rw[if_pos (by omega),if_pos (by omega)]
 simp
noncomputable abbrev vT(v:Nat)(e:Fr->Res T):Fr->bX:=aO (yG 8 [] e eQ (aB 9)) (cW (bG (aE oN (bS 3 dG (aD (aB 0) (aD (aB 1) (aD (aB 8) aJ)))) (bS 2 nB (aD (aB 2) (aD (aB v) aJ))))) (bI [] (dC (.bl false))) bP)
theorem bi9{f:Fm}{l:Nat}(hl:l<f.names.length){ws:List T}{lo:Int}{hi:Option Int}{y z:Int}{v:Nat}{e:Fr->Res T}{x3 x4 x5 x6 x7 x10 x11 x12 x13 x14:Option T}(nw:aP ws=true)(us:List Int)(hus:us.set l y=pA f l y)(hul:us.length=f.names.length)
 (he:e [some (cH false f),some (.lst false ws),some (dQ lo hi),x3,x4,x5,x6,x7,some (.lst true (us.map .int)),some (.int l),x10,x11,x12,x13,x14]=.ok (.int y))
 (hv:aB v [some (cH false f),some (.lst false ws),some (dQ lo hi),x3,x4,x5,x6,x7,some (.lst true ((pA f l y).map .int)),some (.int l),x10,x11,x12,x13,x14]=.ok (.int z))
 (ht:dG [cH false f,.lst false ws,.lst false ((pA f l y).map .int)]=.ok (.bl (gF lo hi z))):
 vT v e [some (cH false f),some (.lst false ws),some (dQ lo hi),x3,x4,x5,x6,x7,some (.lst true (us.map .int)),some (.int l),x10,x11,x12,x13,x14]=.nx [some (cH false f),some (.lst false ws),some (dQ lo hi),x3,x4,x5,x6,x7,some (.lst true ((pA f l y).map .int)),some (.int l),x10,x11,x12,x13,x14]:=by
 have hs:(us.map T.int).set l (.int y)=(pA f l y).map .int:=by rw[<-hus,List.map_set]
 have h1:yG 8 [] e eQ (aB 9) [some (cH false f),some (.lst false ws),some (dQ lo hi),x3,x4,x5,x6,x7,some (.lst true (us.map .int)),some (.int l),x10,x11,x12,x13,x14]=.nx [some (cH false f),some (.lst false ws),some (dQ lo hi),x3,x4,x5,x6,x7,some (.lst true ((pA f l y).map .int)),some (.int l),x10,x11,x12,x13,x14]:=by
  have hx:=cs6 (n:=us.length) (k:=l) (by omega)
  simp only[yG,he,kills]
  simp only[List.getElem?_cons_succ,List.getElem?_cons_zero,eQ,mD,aB,List.length_map,hx,TL.zH,tT,hs,List.set_cons_succ,List.set_cons_zero]
 have el:=dt3 lo hi z
 have nf:=fA f
 have zf:=rM false f
 have zw:=fK ws nw
 have nb:cO (dQ lo hi)=true:=by simp only[dQ,cO,aP,qG,Bool.and_self]
 have zb:frz (dQ lo hi)=dQ lo hi:=rE _ nb
 have eb:(!(gF lo hi z==gF lo hi z))=false:=by simp
 have hv2:=hv
 unfold vT aO
 rw[h1]
 clear h1 he hs hus hv
 generalize hd:aB v=dv at hv2⊢
 clear hd
 walk_at "ev"
theorem bx9{f:Fm}{l:Nat}(hl:l<f.names.length){ws:List T}{lo:Int}{hi:Option Int}(nw:aP ws=true)(n:Nat)(ht:∀y,f.first<=y->y<f.first+n->dG [cH false f,.lst false ws,.lst false ((pA f l y).map .int)]=.ok (.bl (gF lo hi y)))(x3 x4 x5 x6 x7:Option T):
 ∃us x10,iT (aI 10) (vT 10 (bE (aB 10))) (hV f.first n) [some (cH false f),some (.lst false ws),some (dQ lo hi),x3,x4,x5,x6,x7,some (.lst true ((List.replicate f.names.length f.first).map .int)),some (.int l),none,none,none,none,none]=.nx [some (cH false f),some (.lst false ws),some (dQ lo hi),x3,x4,x5,x6,x7,us,some (.int l),x10,none,none,none,none]:=by
 generalize hL:iT _ _ _ _=o
 obtain⟨ρ',rfl,us,x10,rfl,_⟩:=lJ (λi ρ=>∃(us:List Int)(x10:Option T),ρ=[some (cH false f),some (.lst false ws),some (dQ lo hi),x3,x4,x5,x6,x7,some (.lst true (us.map .int)),some (.int l),x10,none,none,none,none]/\us.length=f.names.length/\∀y,us.set l y=pA f l y) hL ⟨_,_,rfl,List.length_replicate,λ_=>rfl⟩ (by
  rintro i t ρ et ⟨us,x10,rfl,hul,hus⟩
  obtain⟨hi',rfl⟩:=kF et
  have tt:=ht (f.first+(i:Int)) (by omega) (by omega)
  show Go _ (vT 10 (bE (aB 10)) [some (cH false f),some (.lst false ws),some (dQ lo hi),x3,x4,x5,x6,x7,some (.lst true (us.map .int)),some (.int l),some (.int (f.first+(i:Int))),none,none,none,none])
  rw[bi9 hl nw us (hus _) hul (y:=f.first+(i:Int)) (z:=f.first+(i:Int)) rfl rfl tt]
  exact⟨_,_,rfl,bb8 f l _,λy=>by rw[pA,List.set_set];rfl⟩)
 exact⟨_,_,rfl⟩
theorem bz9{f:Fm}{l:Nat}(hl:l<f.names.length){ws:List T}{lo:Int}{hi:Option Int}(nw:aP ws=true)(ht:∀y,dG [cH false f,.lst false ws,.lst false ((pA f l (f.first+y)).map .int)]=.ok (.bl (gF lo hi y)))(x4 x5 x6 x7:Option T):
 ∃us x13,iT (aI 13) (vT 13 (aE bQ (aB 3) (aB 13))) (hV (-305) 611) [some (cH false f),some (.lst false ws),some (dQ lo hi),some (.int f.first),x4,x5,x6,x7,some (.lst true ((List.replicate f.names.length f.first).map .int)),some (.int l),none,none,none,none,none]=.nx [some (cH false f),some (.lst false ws),some (dQ lo hi),some (.int f.first),x4,x5,x6,x7,us,some (.int l),none,none,none,x13,none]:=by
 generalize hL:iT _ _ _ _=o
 obtain⟨ρ',rfl,us,x13,rfl,_⟩:=lJ (λi ρ=>∃(us:List Int)(x13:Option T),ρ=[some (cH false f),some (.lst false ws),some (dQ lo hi),some (.int f.first),x4,x5,x6,x7,some (.lst true (us.map .int)),some (.int l),none,none,none,x13,none]/\us.length=f.names.length/\∀y,us.set l y=pA f l y) hL ⟨_,_,rfl,List.length_replicate,λ_=>rfl⟩ (by
  rintro i t ρ et ⟨us,x13,rfl,hul,hus⟩
  obtain⟨hi',rfl⟩:=kF et
  have tt:=ht (-305+(i:Int))
  show Go _ (vT 13 (aE bQ (aB 3) (aB 13)) [some (cH false f),some (.lst false ws),some (dQ lo hi),some (.int f.first),x4,x5,x6,x7,some (.lst true (us.map .int)),some (.int l),none,none,none,some (.int (-305+(i:Int))),none])
  rw[bi9 hl nw us (hus _) hul (y:=f.first+(-305+(i:Int))) (z:=-305+(i:Int)) rfl rfl tt]
  exact⟨_,_,rfl,bb8 f l _,λy=>by rw[pA,List.set_set];rfl⟩)
 exact⟨_,_,rfl⟩
theorem bt0(f:Fm)(g:Gd f):ag2 (.lst true [T.int f.first]) (.int f.names.length)=.ok (.lst true ((List.replicate f.names.length f.first).map .int)):=by
 have:=g.n8
 have g1:aP [T.int f.first]=true/\-(2^63)<=(f.names.length:Int)/\(f.names.length:Int)<2^63/\[T.int f.first].length*((f.names.length:Int)).toNat<=2^24:=⟨rfl,by omega,by omega,by simp;omega⟩
 simp only[ag2]
 rw[am0 g1,Int.toNat_natCast,List.map_replicate]
 congr 2
 generalize f.names.length=m
 clear g1 this
 induction m with
 |zero=>rfl
 |succ m ih=>rw[List.replicate_succ,List.flatten_cons,ih];rfl
theorem oU{f:Fm}(g:Gd f){w n:Str}{r:List T}{l:Nat}{lo:Int}{hi:Option Int}(hw:w∈an4)(h:f.names[l]?=some n)(nr:aP r=true)(hs:hi.isNone=(w=="after"))
 (ht:∀y,dG [cH false f,.lst false (.str w::.str n::r),.lst false ((pA f l (f.first+y)).map .int)]=.ok (.bl (gF lo hi y))):cB [cH false f,.lst false (.str w::.str n::r),dQ lo hi]=.ok (.bl true):=by
 unfold cB eK
 have hl:l<f.names.length:=(List.getElem?_eq_some_iff.mp h).1
 have nw:aP (.str w::.str n::r)=true:=by simp only[aP,cO,nr,Bool.and_self]
 obtain⟨us,x13,hL⟩:=bz9 (f:=f) hl nw ht (some (.int (f.first+f.span))) (some (.lst false (f.names.map .str))) (some (.lst false (f.inks.map (dR false)))) (some (.lst false (f.reigns.map eW)))
 have b0:=@gZ T
 have b1:=@gX T
 have sh:=sT (lo:=lo) hs
 have ei:=gC g h false
 have hin:gY false (.str w) (.lst true [.str "ink",.str "reign",.str "under",.str "between"])=.ok (.bl false):=zG (ss:=nP) (ak2 _ hw)
 have nf:=fA f
 have mf:=bt0 f g
 have ni:=cR f.inks
 have nr2:=cV f.reigns
 have nb:cO (dQ lo hi)=true:=by simp only[dQ,cO,aP,qG,Bool.and_self]
 have zb:frz (dQ lo hi)=dQ lo hi:=rE _ nb
 have e6:(306- -305:Int).toNat=611:=by decide
 simp only[cH]at nf hL⊢
 clear hw g ht hs
 walk_at "ev"
def lE:T->Bool
 |.int _=>true
 |.str _=>true
 |_=>false
theorem ci0{t:T}(h:lE t=true)(n:Nat):qD n t t=some true:=by
 cases t<;>simp only[lE,Bool.false_eq_true]at h
 . cases n<;>simp[qD,mC]
 . cases n<;>simp[qD,mC]
theorem yC(n:Nat):∀{xs:List T},xs.all lE=true->uA n xs xs=some (xs.map λ_=>true)
 |[],_=>by simp[uA]
 |x::xs,h=>by
  rw[List.all_cons,Bool.and_eq_true]at h
  rw[uA,ci0 h.1,yC n h.2]
  rfl
theorem by6{α:Type}(xs:List α):(xs.map λ_=>true).all id=true:=by
 rw[List.all_map,List.all_eq_true]
 intro x _
 rfl
theorem bq0{xs:List T}(h:xs.all lE=true):dZ (.tup xs) (.tup xs)=.ok (.bl true):=by
 have:eqB (.tup xs) (.tup xs)=qD bZ (.tup xs) (.tup xs):=rfl
 simp only[dZ,this]
 rw[show bZ=(bZ-1)+1 from rfl,qD,yC _ h,Option.map_some,by6]
 simp
theorem bc7{o o':Bool}{xs:List T}(h:xs.all lE=true):oN (.lst o xs) (.lst o' xs)=.ok (.bl false):=by
 have e:qD bZ (.lst o xs) (.lst o' xs)=some true:=by
  rw[show bZ=(bZ-1)+1 from rfl,qD,if_pos rfl,yC _ h,Option.map_some,by6]
 unfold oN
 rw[if_pos ⟨rfl,rfl⟩,e]
 rfl
theorem br8{f:Fm}(g:Gd f){p:Str×Int×Int}(hp:p∈f.reigns){ws:List T}(h2:atI ws 2=some (.str p.1)):∀x0 x2 x3 x4 x5 x6 x7 x8 x9 x10 x11 x12 x13:Option T,bY (aI 14) (bG (aE dZ (aE aS (aB 14) (dC (.int 0))) (aE aS (aB 1) (dC (.int 2))))) (nY lZ (aB 14) (fX (dC (.int 1))) iG) [x0,some (.lst false ws),x2,x3,x4,x5,x6,x7,x8,x9,x10,x11,x12,x13,none] (f.reigns.map eW)=.ok [.tup [.int p.2.1,.int p.2.2]]:=by
 intro x0 x2 x3 x4 x5 x6 x7 x8 x9 x10 x11 x12 x13
 have:=sI (key:=λq:Str×Int×Int=>q.1) g.rnd hp
 have b0:=@gZ T
 refine(sW (p:=λq:Str×Int×Int=>q.1==p.1) (f:=λq:Str×Int×Int=>.tup [.int q.2.1,.int q.2.2]) λq hq=>⟨_,rfl,?_,λ_=>?_⟩).trans ?_
 . clear g
   simp only[eW]
   walk_at "ev"
 . clear g
   simp only[eW]
   have s1:¬(HT.sIx [T.str q.1,.int q.2.1,.int q.2.2].length 0 (some 1)=0/\HT.sIx [T.str q.1,.int q.2.1,.int q.2.2].length [T.str q.1,.int q.2.1,.int q.2.2].length none=[T.str q.1,.int q.2.1,.int q.2.2].length):=by simp[HT.sIx]
   have s2:fP [T.str q.1,.int q.2.1,.int q.2.2] (some 1) none=[.int q.2.1,.int q.2.2]:=ai0 [T.str q.1,.int q.2.1,.int q.2.2] 1 (by simp)
   have s3:lZ (.tup [T.str q.1,.int q.2.1,.int q.2.2]) (some 1) none=.ok (.tup [.int q.2.1,.int q.2.2]):=by
    rw[dp4,if_pos ⟨rfl,s1⟩,s2]
   clear s1 s2
   simp only[nY,aB,fX,iG,dC,kA,List.set_cons_succ,List.set_cons_zero,List.getElem?_cons_succ,List.getElem?_cons_zero]
   exact s3
 . rw[this]
   rfl
theorem na1:∀w∈nP,false=(w=="after"):=by decide+kernel
section
variable {f : Fm} (g : Gd f) {n : Str} {l : Nat} (h : f.names[l]? = some n)
include g h
theorem vQ{w:Str}{r:List T}{lo:Int}{hi:Option Int}(hw:w∈nP)(nr:aP r=true)(ht:∀y,f.first<=y->y<=f.first+f.span->cG [cH false f,.lst false (.str w::.str n::r),.int y]=.ok (.bl (gF lo hi y))):
 ∃us x10,iT (aI 10) (vT 10 (bE (aB 10))) (hV f.first (f.first+f.span+1-f.first).toNat) [some (cH false f),some (.lst false (.str w::.str n::r)),some (dQ lo hi),some (.int f.first),some (.int (f.first+f.span)),some (.lst false (f.names.map .str)),some (.lst false (f.inks.map (dR false))),some (.lst false (f.reigns.map eW)),some (.lst true ((List.replicate f.names.length f.first).map .int)),some (.int l),none,none,none,none,none]=.nx [some (cH false f),some (.lst false (.str w::.str n::r)),some (dQ lo hi),some (.int f.first),some (.int (f.first+f.span)),some (.lst false (f.names.map .str)),some (.lst false (f.inks.map (dR false))),some (.lst false (f.reigns.map eW)),us,some (.int l),x10,none,none,none,none]:=by
 have hl:l<f.names.length:=(List.getElem?_eq_some_iff.mp h).1
 have nw:aP (.str w::.str n::r)=true:=by simp only[aP,cO,nr,Bool.and_self]
 have s0:=g.s0
 exact bx9 hl nw _ (λy h1 h2=>bd4 g hw h (at1 hl y) nr (ht y h1 (by omega))) _ _ _ _ _
theorem bd1{p:Str×List Int}{d e lo hi:Int}(ht:∀y,f.first<=y->y<=f.first+f.span->cG [cH false f,.lst false [.str "ink",.str n,.str p.1,.int d,.int e],.int y]=.ok (.bl (gF lo (some hi) y))):cB [cH false f,.lst false [.str "ink",.str n,.str p.1,.int d,.int e],dQ lo (some hi)]=.ok (.bl true):=by
 unfold cB eK
 obtain⟨us,x10,hL⟩:=vQ g h (by decide+kernel) (r:=[.str p.1,.int d,.int e]) rfl ht
 have b0:=@gZ T
 have b1:=@gX T
 have sh:=sT (lo:=lo) (hi:=some hi) (w:="ink") (na1 "ink" (by decide+kernel))
 have ei:=gC g h false
 have hin:gY false (.str "ink") (.lst true [.str "ink",.str "reign",.str "under",.str "between"])=.ok (.bl true):=uM (ss:=nP) (by decide+kernel)
 have nf:=fA f
 have mf:=bt0 f g
 have ni:=cR f.inks
 have nr2:=cV f.reigns
 have nb:cO (dQ lo (some hi))=true:=rfl
 have zb:frz (dQ lo (some hi))=dQ lo (some hi):=rfl
 have e1:(("ink":Str)=="ink")=true:=beq_self_eq_true _
 have s0:=g.s0
 have s1:=g.s1
 have f0:=g.f0
 have f1:=g.f1
 simp only[cH]at nf hL⊢
 clear g ht
 walk_at "ev"
theorem au0{lo hi:Int}:cB [cH false f,.lst false [.str "between",.str n,.int lo,.int hi],dQ lo (some hi)]=.ok (.bl true):=by
 unfold cB eK
 obtain⟨us,x10,hL⟩:=vQ g h (by decide+kernel) (r:=[.int lo,.int hi]) rfl λy _ _=>bd7 f n lo hi y
 have b0:=@gZ T
 have b1:=@gX T
 have b2:=@kU T
 have b3:=@qA T
 have sh:=sT (lo:=lo) (hi:=some hi) (w:="between") (na1 "between" (by decide+kernel))
 have ei:=gC g h false
 have hin:gY false (.str "between") (.lst true [.str "ink",.str "reign",.str "under",.str "between"])=.ok (.bl true):=uM (ss:=nP) (by decide+kernel)
 have nf:=fA f
 have mf:=bt0 f g
 have ni:=cR f.inks
 have nr2:=cV f.reigns
 have nb:cO (dQ lo (some hi))=true:=rfl
 have zb:frz (dQ lo (some hi))=dQ lo (some hi):=rfl
 have e0:=ne_bk.1
 have e1:(("between":Str)=="between")=true:=beq_self_eq_true _
 have eq:dZ (dQ lo (some hi)) (.tup [.int lo,.int hi])=.ok (.bl true):=bq0 (xs:=[.int lo,.int hi]) rfl
 have s0:=g.s0
 have s1:=g.s1
 have f0:=g.f0
 have f1:=g.f1
 simp only[cH]at nf hL⊢
 clear g
 walk_at "ev"
theorem ak4{p:Str×Int×Int}(hp:p∈f.reigns){k:Int}:cB [cH false f,.lst false [.str "reign",.str n,.str p.1,.int k],dQ (p.2.1+k-1) (some (p.2.1+k-1))]=.ok (.bl true):=by
 unfold cB eK
 obtain⟨us,x10,hL⟩:=vQ g h (by decide+kernel) (r:=[.str p.1,.int k]) rfl λy _ _=>cz8 g n hp k y
 have hc:=br8 g hp (ws:=[.str "reign",.str n,.str p.1,.int k]) (kU _ _ _ _)
 have b0:=@gZ T
 have b1:=@gX T
 have b3:=@qA T
 have sh:=sT (lo:=p.2.1+k-1) (hi:=some (p.2.1+k-1)) (w:="reign") (na1 "reign" (by decide+kernel))
 have ei:=gC g h false
 have hin:gY false (.str "reign") (.lst true [.str "ink",.str "reign",.str "under",.str "between"])=.ok (.bl true):=uM (ss:=nP) (by decide+kernel)
 have nf:=fA f
 have mf:=bt0 f g
 have ni:=cR f.inks
 have nr2:=cV f.reigns
 have nb:cO (dQ (p.2.1+k-1) (some (p.2.1+k-1)))=true:=rfl
 have zb:frz (dQ (p.2.1+k-1) (some (p.2.1+k-1)))=dQ (p.2.1+k-1) (some (p.2.1+k-1)):=rfl
 obtain⟨_,e0,_,e2,_,_⟩:=ne_bk
 have e1:(("reign":Str)=="reign")=true:=beq_self_eq_true _
 have lr:f.reigns.length<=100000:=by have:=g.r8;omega
 have eq:dZ (dQ (p.2.1+k-1) (some (p.2.1+k-1))) (.tup [.int (p.2.1+k-1),.int (p.2.1+k-1)])=.ok (.bl true):=bq0 (xs:=[.int (p.2.1+k-1),.int (p.2.1+k-1)]) rfl
 have s0:=g.s0
 have s1:=g.s1
 have f0:=g.f0
 have f1:=g.f1
 simp only[cH]at nf hL⊢
 clear g
 walk_at "ev"
theorem ai5{p:Str×Int×Int}(hp:p∈f.reigns):cB [cH false f,.lst false [.str "under",.str n,.str p.1],dQ p.2.1 (some (p.2.1+p.2.2-1))]=.ok (.bl true):=by
 unfold cB eK
 obtain⟨us,x10,hL⟩:=vQ g h (by decide+kernel) (r:=[.str p.1]) rfl λy _ _=>cx8 g n hp y
 have hc:=br8 g hp (ws:=[.str "under",.str n,.str p.1]) (kU _ _ _ _)
 have b0:=@gZ T
 have b1:=@gX T
 have sh:=sT (lo:=p.2.1) (hi:=some (p.2.1+p.2.2-1)) (w:="under") (na1 "under" (by decide+kernel))
 have ei:=gC g h false
 have hin:gY false (.str "under") (.lst true [.str "ink",.str "reign",.str "under",.str "between"])=.ok (.bl true):=uM (ss:=nP) (by decide+kernel)
 have nf:=fA f
 have mf:=bt0 f g
 have ni:=cR f.inks
 have nr2:=cV f.reigns
 have nb:cO (dQ p.2.1 (some (p.2.1+p.2.2-1)))=true:=rfl
 have zb:frz (dQ p.2.1 (some (p.2.1+p.2.2-1)))=dQ p.2.1 (some (p.2.1+p.2.2-1)):=rfl
 obtain⟨_,_,e0,_,e2,e3⟩:=ne_bk
 have lr:f.reigns.length<=100000:=by have:=g.r8;omega
 have eq:dZ (dQ p.2.1 (some (p.2.1+p.2.2-1))) (.tup [.int p.2.1,.int (p.2.1+p.2.2-1)])=.ok (.bl true):=bq0 (xs:=[.int p.2.1,.int (p.2.1+p.2.2-1)]) rfl
 have s0:=g.s0
 have s1:=g.s1
 have f0:=g.f0
 have f1:=g.f1
 simp only[cH]at nf hL⊢
 clear g
 walk_at "ev"
end
theorem cn6(xs:List Int)(d e:Int)(n:Nat):(fQ xs d e n).Pairwise (· < ·):=by
 unfold fQ
 rw[List.pairwise_map]
 exact(List.pairwise_lt_range.filter _).imp λh=>by omega
theorem ba4{xs:List Int}{d e:Int}{n:Nat}{x:Int}(h:x∈fQ xs d e n):∃j:Nat,x=j/\j<n/\pB xs d e j=true:=by
 unfold fQ at h
 obtain⟨j,hj,rfl⟩:=List.mem_map.mp h
 obtain⟨h1,h2⟩:=List.mem_filter.mp hj
 exact⟨j,rfl,List.mem_range.mp h1,h2⟩
theorem bg1{xs:List Int}(h:xs.Pairwise (λa b=>b<=a)){i j:Nat}(hij:i<=j)(hj:j<xs.length):xs.getD j 0<=xs.getD i 0:=by
 rcases Nat.lt_or_eq_of_le hij with hlt|rfl
 . rw[List.pairwise_iff_getElem]at h
   have:=h i j (by omega) hj hlt
   simpa[List.getD_eq_getElem?_getD,List.getElem?_eq_getElem hj,List.getElem?_eq_getElem (show i<xs.length by omega)]using this
 . exact Int.le_refl _
theorem bs0(xs:List Int)(d e:Int)(j:Nat):pB xs d e j=true↔d-e<=xs.getD (min j (xs.length-1)) 0/\xs.getD (min j (xs.length-1)) 0<=d+e:=by
 unfold pB
 rw[decide_eq_true_iff]
 split<;>omega
theorem cb0{xs:List Int}(tk:TabOk xs){d e:Int}{n:Nat}{a z:Int}{r:List Int}(hh:fQ xs d e n=a::r)(hz:(a::r).getD r.length 0=z){j:Nat}(hj:j<n):pB xs d e j=(decide (a<=(j:Int))&&decide ((j:Int)<=z)):=by
 have pw:=cn6 xs d e n
 rw[hh]at pw
 have hlast:r.length<(a::r).length:=by simp
 have hzm:(a::r)[r.length]=z:=by
  rw[<-hz,List.getD_eq_getElem?_getD,List.getElem?_eq_getElem hlast]
  rfl
 have le_a:∀x∈a::r,a<=x:=λx hx=>by
  rcases List.mem_cons.mp hx with rfl|hx
  . exact Int.le_refl _
  . have:=(List.pairwise_cons.mp pw).1 x hx
    omega
 have le_z:∀x∈a::r,x<=z:=λx hx=>by
  obtain⟨i,hi,rfl⟩:=List.getElem_of_mem hx
  rcases Nat.lt_or_ge i r.length with h|h
  . have:=List.pairwise_iff_getElem.mp pw i r.length hi hlast h
    rw[hzm]at this
    omega
  . have:i=r.length:=by simp at hi;omega
    subst this
    rw[hzm]
    exact Int.le_refl _
 obtain⟨ja,ea,la,pa⟩:=ba4 (xs:=xs) (d:=d) (e:=e) (n:=n) (x:=a) (by rw[hh];exact List.mem_cons_self)
 obtain⟨jz,ez,lz,pz⟩:=ba4 (xs:=xs) (d:=d) (e:=e) (n:=n) (x:=z) (by rw[hh,<-hzm];exact List.getElem_mem hlast)
 have l1:=tk.l1
 rw[bs0]at pa pz
 rw[Bool.eq_iff_iff,bs0,Bool.and_eq_true,decide_eq_true_iff,decide_eq_true_iff]
 constructor
 . intro hp
   have hm:(j:Int)∈a::r:=by
    rw[<-hh]
    unfold fQ
    exact List.mem_map.mpr ⟨j,List.mem_filter.mpr ⟨List.mem_range.mpr hj,(bs0 xs d e j).mpr hp⟩,rfl⟩
   exact⟨le_a _ hm,le_z _ hm⟩
 . rintro⟨h1,h2⟩
   have m1:=bg1 tk.f (i:=min ja (xs.length-1)) (j:=min j (xs.length-1)) (by omega) (by omega)
   have m2:=bg1 tk.f (i:=min j (xs.length-1)) (j:=min jz (xs.length-1)) (by omega) (by omega)
   omega
theorem dm4{f:Fm}(g:Gd f){n:Str}{p:Str×List Int}(hp:p∈f.inks){d e a z:Int}{r:List Int}(hh:fQ p.2 d e (f.span.toNat+1)=a::r)(hz:(a::r).getD r.length 0=z)(y:Int)(h1:f.first<=y)(h2:y<=f.first+f.span):
 cG [cH false f,.lst false [.str "ink",.str n,.str p.1,.int d,.int e],.int y]=.ok (.bl (gF (f.first+f.span-z) (some (f.first+f.span-a)) y)):=by
 rw[df5 g hp d e y h1 h2,cb0 (g.inn p hp).2 hh hz (by have:=g.s0;omega)]
 congr 2
 unfold gF
 rw[<-Bool.decide_and,<-Bool.decide_and,decide_eq_decide]
 omega
theorem fi_about:gG "about" ["spoken","low","high","text"]=none/\gG "shown" ["spoken","low","high","text"]=none/\gG "bounds" ["spoken","low","high","text"]=none:=by decide+kernel
theorem tm8:∀c∈rP,tm_about.lookup c=some aY/\tm_shown.lookup c=some aX/\tm_bounds.lookup c=some aT:=by
 intro c hc
 simp only[rP,List.mem_cons,List.not_mem_nil,or_false]at hc
 rcases hc with rfl|rfl|rfl|rfl|rfl|rfl|rfl|rfl<;>exact⟨by with_unfolding_all rfl,by with_unfolding_all rfl,by with_unfolding_all rfl⟩
theorem ar0{c:Str}(hc:c∈rP)(o:Bool)(ls:List Int)(lo:Int)(hi:Option Int)(x:Str):iH ["Ink","Reign","Under","Between","After","Same","Within","Apart"] "spoken" (cU o c ls lo hi x)=.ok (.lst o (ls.map .int))/\iH ["Ink","Reign","Under","Between","After","Same","Within","Apart"] "low" (cU o c ls lo hi x)=.ok (.int lo)/\
 iH ["Ink","Reign","Under","Between","After","Same","Within","Apart"] "high" (cU o c ls lo hi x)=.ok (qB hi)/\iH ["Ink","Reign","Under","Between","After","Same","Within","Apart"] "text" (cU o c ls lo hi x)=.ok (.str x):=by
 have h:=ct8 c hc
 simp only[iH,cU,h,if_true]
 exact⟨by with_unfolding_all rfl,by with_unfolding_all rfl,by with_unfolding_all rfl,by with_unfolding_all rfl⟩
section
variable {c : Str} (hc : c ∈ rP) {ls : List Int} {lo : Int} {hi : Option Int} {x : Str} {o : Fr → Res T} {ρ : Fr} (ho : o ρ = .ok (cU true c ls lo hi x))
include hc ho
theorem m_about:iN 1 "about" tm_about o aJ ρ=.ok (.lst true (ls.map .int)):=by
 have hF:aY [cU false c ls lo hi x]=.ok (.lst true (ls.map .int)):=by
  unfold aY dJ
  have:=(ar0 hc false ls lo hi x).1
  walk_at "ev"
 have hl:tm_about.lookup c=some aY:=(tm8 c hc).1
 have z:=xX true c ls lo hi x
 have cl:fB (ls.map T.int)=true:=nT _
 have e:iN 1 "about" tm_about o aJ ρ=sA 1 aY [cU true c ls lo hi x]:=by
  simp only[iN,ho,kA,cU,fi_about.1,hl]
  rfl
 rw[e]
 clear e ho hc hl
 walk_at "ev"
theorem m_shown:iN 1 "shown" tm_shown o aJ ρ=.ok (.str x):=by
 have hF:aX [cU false c ls lo hi x]=.ok (.str x):=by
  unfold aX dI
  have:=(ar0 hc false ls lo hi x).2.2.2
  walk_at "ev"
 have hl:tm_shown.lookup c=some aX:=(tm8 c hc).2.1
 have z:=xX true c ls lo hi x
 have e:iN 1 "shown" tm_shown o aJ ρ=sA 1 aX [cU true c ls lo hi x]:=by
  simp only[iN,ho,kA,cU,fi_about.2.1,hl]
  rfl
 rw[e]
 clear e ho hc hl
 walk_at "ev"
theorem m_bounds:iN 1 "bounds" tm_bounds o aJ ρ=.ok (dQ lo hi):=by
 have hF:aT [cU false c ls lo hi x]=.ok (dQ lo hi):=by
  unfold aT dE dQ
  obtain⟨_,q1,q2,_⟩:=ar0 hc false ls lo hi x
  have nh:=qG hi
  walk_at "ev"
 have hl:tm_bounds.lookup c=some aT:=(tm8 c hc).2.2
 have z:=xX true c ls lo hi x
 have cb:fN (dQ lo hi)=true:=by simp only[dQ,fN,fB,aj9,Bool.and_self]
 have e:iN 1 "bounds" tm_bounds o aJ ρ=sA 1 aT [cU true c ls lo hi x]:=by
  simp only[iN,ho,kA,cU,fi_about.2.2,hl]
  rfl
 rw[e]
 clear e ho hc hl
 walk_at "ev"
end
theorem az0(t:T)(ht:lE t=true):∀ss:List Str,nQ t (ss.map .str)=some (ss.map λs=>match t with|.str x=>s==x|_=>false)
 |[]=>rfl
 |s::ss=>by
  rw[List.map_cons,nQ,az0 t ht ss,List.map_cons]
  cases t<;>simp only[lE,Bool.false_eq_true]at ht
  . rfl
  . rfl
def uS(f:Fm)(t:T):Bool:=(f.names.map λs=>match t with|.str x=>s==x|_=>false).any id
theorem dh1(f:Fm){t:T}(ht:lE t=true)(o:Bool):gY false t (.lst o (f.names.map .str))=.ok (.bl (uS f t)):=by
 cases t<;>simp only[lE,Bool.false_eq_true]at ht
 . simp only[gY,az0 (.int _) rfl,Bool.false_eq_true,if_false,uS]
 . simp only[gY,az0 (.str _) rfl,Bool.false_eq_true,if_false,uS]
theorem ap4{f:Fm}{n:Str}{l:Nat}(h:f.names[l]?=some n):uS f (.str n)=true:=by
 unfold uS
 rw[List.any_map,List.any_eq_true]
 exact⟨n,List.mem_of_getElem? h,by simp⟩
theorem lQ:∀{ts:List T},ts.all lE=true->aP ts=true
 |[],_=>rfl
 |t::ts,h=>by
  rw[List.all_cons,Bool.and_eq_true]at h
  rw[aP,lQ h.2,Bool.and_true]
  have h1:=h.1
  cases t<;>simp only[lE,Bool.false_eq_true]at h1
  . rfl
  . rfl
theorem ae3:∀(a b:List T),aP (a++b)=(aP a&&aP b)
 |[],b=>by simp[aP]
 |t::a,b=>by rw[List.cons_append,aP,ae3 a b,aP,Bool.and_assoc]
theorem cl5{f:Fm}{ts:List T}(hs:ts.all lE=true)(x1 x2 x3 x4 x5 x6 x7 x8 x10 x11:Option T):bY (aI 9) (bG (aE (gY false) (aB 9) (aE aS (aB 0) (dC (.int 2))))) (bE (aB 9)) [some (cH false f),x1,x2,x3,x4,x5,x6,x7,x8,none,x10,x11] ts=.ok (ts.filter (uS f)):=by
 have:=sW (b:=aI 9) (c:=bG (aE (gY false) (aB 9) (aE aS (aB 0) (dC (.int 2))))) (d:=bE (aB 9)) (ρ:=[some (cH false f),x1,x2,x3,x4,x5,x6,x7,x8,none,x10,x11]) (g:=id) (f:=id) (p:=uS f) (l:=ts) λt ht=>?_
 . rw[List.map_id,List.map_id]at this
   exact this
 . have ht1:lE t=true:=List.all_eq_true.mp hs t ht
   have hi:=dh1 f ht1 false
   have b2:=@kU T
   have nt:cO t=true:=by
    have:=lQ (ts:=[t]) (by simp[ht1])
    simpa[aP]using this
   refine⟨_,rfl,?_,λ_=>?_⟩
   . simp only[cH,id]
     clear hs
     walk_at "ev"
   . simp only[cH,id]
     clear hs
     walk_at "ev"
theorem bw4{α:Type}(a:α)(l:List α):fP (a::l) (some 1) none=l:=ai0 (a::l) 1 (by simp)
theorem bo7{α:Type}(a:α)(l:List α):fP (a::l) (some 1) (some 3)=l.take 2:=by
 have:fP (a::l) (some ((1:Nat):Int)) (some ((3:Nat):Int))=((a::l).drop (min 1 (a::l).length)).take (min 3 (a::l).length-min 1 (a::l).length):=by
  unfold fP
  rw[HT.sIx_nat,HT.sIx_nat]
 refine this.trans ?_
 rw[show min 1 (a::l).length=1 by simp]
 show(l.take _)=_
 rw[List.take_eq_take_iff]
 simp
 omega
theorem cq6{α:Type}(l t:List α)(k:Int)(hk:k=l.length):fP (l++t) none (some k)=l:=by
 rw[hk,bb1,List.take_left]
theorem ds3(ls:List Int)(x0 x1 x2 x3 x4 x5 x6 x7 x8 x9 x11:Option T):bY (aI 10) cZ (bT gR (aD (aB 10) (aD (dC (.ty "bool")) aJ))) [x0,x1,x2,x3,x4,x5,x6,x7,x8,x9,none,x11] (ls.map .int)=.ok ((ls.map λ_=>false).map .bl):=by
 rw[List.map_map]
 exact gU λi _=>by walk_at "ev";rfl
theorem di1{α:Type}(xs:List α):(xs.map λ_=>false).any id=false:=by
 rw[List.any_map,List.any_eq_false]
 intro x _
 simp
theorem ce7(ls:List Int):(ls.map T.int).all lE=true:=by
 rw[List.all_map,List.all_eq_true]
 intro x _
 rfl
structure Told (f:Fm) (w n:Str) (r:List T) (l:Nat) (c:Str) (ls:List Int) (lo:Int) (hi:Option Int) (x:Str) (zs:List Str):Prop where
 hn:f.names[l]?=some n
 hc:c∈rP
 hw:pK c=w
 sr:r.all lE=true
 rl:r.length<=3
 ms:dH [cP false f,.str w,.lst false (.str n::r)]=.ok (cU true c ls lo hi x)
 hx:∀x0 x1 x2 x3 x4 x5 x6 x7 x8 x9 x10:Option T,bY (aI 11) cZ (bT oX (aD (aB 11) aJ)) [x0,x1,x2,x3,x4,x5,x6,x7,x8,x9,x10,none] (.str w::.str n::r)=.ok (zs.map .str)
 jx:pM (.str " ") [.lst true (zs.map .str)]=.ok (.str x)
 hb:cB [cH false f,.lst false (.str w::.str n::r),dQ lo hi]=.ok (.bl true)
noncomputable abbrev cb5:Fr->bX:=(aO (mJ (jR oS (aD (dC (.int 2)) aJ)) (aI 7) (aO (bM [] (iN 1 "about" tm_about (aB 4) aJ) (aI 8))
 (aO (cW (rS (jL (jF (bT gR (aD (aB 8) (aD (dC (.ty "list")) aJ))))) (rS (bG (aE oN (aB 8) (aB 6))) (jF (bT (lP true) (aD (dO [10] (iQ jT (aB 8)) (aI 10) cZ (bT gR (aD (aB 10) (aD (dC (.ty "bool")) aJ)))) aJ))))) (bI [] (dC (.bl false))) bP)
 (aO (mW 8 [] eQ (dC (.int 0)))
 (aO (cW (rS (bG (aE oN (iN 1 "shown" tm_shown (aB 4) aJ) (pZ xQ pM (dC (.str " ")) (aD (dO [11] (iQ jT (aB 2)) (aI 11) cZ (bT oX (aD (aB 11) aJ))) aJ)))) (bG (aE oN (nY lZ (aB 3) iG (fX (aE eA (bT eN (aD (aB 2) aJ)) (dC (.int 1))))) (nY lZ (aB 2) (fX (dC (.int 1))) iG)))) (bI [] (dC (.bl false))) bP)
 (mW 3 [] eQ (dC (.str "late"))))))))
 (bI [] (bS 3 cB (aD (aB 0) (aD (aB 2) (aD (iN 1 "bounds" tm_bounds (aB 4) aJ) aJ))))))
theorem bi8{f:Fm}{w n:Str}{r:List T}{l:Nat}{c:Str}{ls:List Int}{lo:Int}{hi:Option Int}{x:Str}{zs:List Str}(t:Told f w n r l c ls lo hi x zs)(x5:Option T)(hls:ls.length<=1000):
 cb5 [some (cH false f),some (cP false f),some (.lst false (.str w::.str n::r)),some (.lst true (.str n::r)),some (cU true c ls lo hi x),x5,some (.lst true (ls.map .int)),none,none,none,none,none]=.rt (.bl true):=by
 have sc:(T.str n::r).all lE=true:=by rw[List.all_cons,t.sr];rfl
 have nw:aP (.str w::.str n::r)=true:=lQ (by rw[List.all_cons,sc];rfl)
 have np:aP (.str n::r)=true:=lQ sc
 unfold cb5
 have i1:=bc7 (o:=true) (o':=true) (ce7 ls)
 have i2:∀o o',oN (.lst o (.str n::r)) (.lst o' (.str n::r))=.ok (.bl false):=λo o'=>bc7 sc
 have ni:=kP ls
 have l1:ls.length<=100000:=by omega
 have c10:=ds3 ls
 have af:=di1 ls
 have al:=ay2 true true (ls.map λ_=>false)
 rw[af,if_pos rfl]at al
 have hx:=t.hx
 have jx:=t.jx
 have ex:(!(x==x))=false:=by simp
 have rl:=t.rl
 have lw:(T.str w::T.str n::r).length<=100000:=by simp;omega
 have wc:=bw4 (T.str w) (T.str n::r)
 have ma:=λy0 y1 y2 y3 y5 y6 y7 y8=>m_about t.hc (ls:=ls) (lo:=lo) (hi:=hi) (x:=x) (o:=aB 4) (ρ:=[y0,y1,y2,y3,some (cU true c ls lo hi x),y5,y6,y7,y8,none,none,none]) rfl
 have mh:=λy0 y1 y2 y3 y5 y6 y7 y8=>m_shown t.hc (ls:=ls) (lo:=lo) (hi:=hi) (x:=x) (o:=aB 4) (ρ:=[y0,y1,y2,y3,some (cU true c ls lo hi x),y5,y6,y7,y8,none,none,none]) rfl
 have mb:=λy0 y1 y2 y3 y5 y6 y7 y8=>m_bounds t.hc (ls:=ls) (lo:=lo) (hi:=hi) (x:=x) (o:=aB 4) (ρ:=[y0,y1,y2,y3,some (cU true c ls lo hi x),y5,y6,y7,y8,none,none,none]) rfl
 have hb:=t.hb
 have nf:=fA f
 have zf:=rM false f
 have nr:aP r=true:=lQ t.sr
 have zw:=fK _ nr
 have lw2:r.length+1+1<=100000:=by omega
 have nb:cO (dQ lo hi)=true:=by simp only[dQ,cO,aP,qG,Bool.and_self]
 have zb:frz (dQ lo hi)=dQ lo hi:=rE _ nb
 walk_at "ev"
 generalize hL:iT _ _ _ _=o
 obtain⟨ρ',rfl,y3,x7,x8,_,_,rfl⟩:=lJ (λi ρ=>∃(tl:List T)(x7 x8:Option T),aP (.str n::r++tl)=true/\tl.length=i/\ρ=[some (cH false f),some (cP false f),some (.lst false (.str w::.str n::r)),some (.lst true (.str n::r++tl)),some (cU true c ls lo hi x),x5,some (.lst true (ls.map .int)),x7,x8,none,none,none]) hL ⟨[],none,none,by rw[List.append_nil];exact np,rfl,by rw[List.append_nil]⟩ (by
  rintro i tt ρ et ⟨tl,x7,x8,nt,hlt,rfl⟩
  obtain⟨hi',rfl⟩:=kF et
  have hi2:i<2:=hi'
  have cp:fP (T.str n::(r++tl)) none (some (((r.length+1+1:Nat):Int)-1))=T.str n::r:=cq6 (T.str n::r) tl _ (by simp)
  have nrt:aP (r++tl)=true:=by simpa[aP,cO]using nt
  have lt:(T.str n::r++tl).length<=100000:=by simp;omega
  have lt2:r.length+tl.length+1<=100000:=by omega
  have lt3:ls.length+1<=100000:=by omega
  clear hL et t hls
  walk_at "ev"
  rw[if_pos (zJ (by simp;omega))]
  exact⟨tl++[T.str "late"],_,_,by rw[<-List.append_assoc,ae3,nrt];rfl,by simp[hlt],by rw[List.append_assoc]⟩)
 clear hL t
 walk_at "ev"
theorem lY{a b:Fr->bX}{ρ ρ':Fr}(h:a ρ=.nx ρ'):aO a b ρ=b ρ':=by simp only[aO,h]
theorem qW{f:Fm}(g:Gd f){w n:Str}{r:List T}{l:Nat}{c:Str}{lo:Int}{hi:Option Int}{x:Str}{zs:List Str}(hw1:w∈nP)(t:Told f w n r l c [(l:Int)] lo hi x zs):kQ [cH false f,cP false f,.lst false (.str w::.str n::r)]=.ok (.bl true):=by
 unfold kQ nX
 have sc:(T.str n::r).all lE=true:=by rw[List.all_cons,t.sr];rfl
 have nr:aP r=true:=lQ t.sr
 have zr:=fK _ nr
 have rl:=t.rl
 have sc2:((T.str n::r).take 2).all lE=true:=by
  rw[List.all_eq_true]at sc⊢
  exact λy hy=>sc y (List.mem_of_mem_take hy)
 have c5:=λx1 x2 x3 x4 x5 x6 x7 x8 x10 x11=>cl5 (f:=f) sc2 x1 x2 x3 x4 x5 x6 x7 x8 x10 x11
 have n5:aP ((T.str n::r).take 2)=true:=lQ sc2
 have lf:1<=(((T.str n::r).take 2).filter (uS f)).length:=by
  rw[List.take_succ_cons,List.filter_cons,ap4 t.hn]
  simp
 have ll:((T.str n::r).take 2).length<=100000:=by simp;omega
 have tl:=bi8 t (some (.lst true (((T.str n::r).take 2).filter (uS f)))) (by simp)
 have cut1:=bw4 (T.str w) (T.str n::r)
 have cut3:=bo7 (T.str w) (T.str n::r)
 have ms:=t.ms
 have na:=jA f
 have za:=lG false f
 have nf:=fA f
 have zf:=rM false f
 have cs:=ab1 c [(l:Int)] lo hi x
 have zs':=xX true c [(l:Int)] lo hi x
 have ec:=br3 t.hc [(l:Int)] lo hi x
 rw[t.hw]at ec
 have ei:=gC g t.hn false
 have b0:=@gZ T
 have b1:=@gX T
 have b2:=@kU T
 have hin:gY false (.str w) (.lst true [.str "after",.str "same",.str "within",.str "apart"])=.ok (.bl false):=zG (ss:=an4) (dy7 _ hw1)
 have ix2':aS (cH false f) (.int 2)=.ok (.lst false (f.names.map .str)):=by
  simp only[cH,bl5,b2]
 generalize((T.str n::r).take 2).filter (uS f)=us at c5 lf tl
 let R1:Option T->Option T->Option T->Option T->Fr:=λa b d e=>[some (cH false f),some (cP false f),some (.lst false (.str w::.str n::r)),a,b,d,e,none,none,none,none,none]
 have hlt:decide ((us.length:Int)<1)=false:=decide_eq_false (by omega)
 generalize(T.str n::r).take 2=t2 at c5 n5 ll cut3
 have h1:bM [] (bT jW (aD (nY lZ (aB 2) (fX (dC (.int 1))) iG) aJ)) (aI 3) (R1 none none none none)=.nx (R1 (some (.lst true (.str n::r))) none none none):=by
  clear c5 t ms tl ec
  simp only[R1]
  walk_at "ev"
 have h2:bM [] (bS 3 dH (aD (aB 1) (aD (aE aS (aB 2) (dC (.int 0))) (aD (aB 3) aJ)))) (aI 4) (R1 (some (.lst true (.str n::r))) none none none)=.nx (R1 (some (.lst true (.str n::r))) (some (cU true c [(l:Int)] lo hi x)) none none):=by
  clear c5 t tl ec
  simp only[R1]
  walk_at "ev"
 have h3:bM [] (dO [9] (iQ jT (nY lZ (aB 2) (fX (dC (.int 1))) (fX (dC (.int 3))))) (aI 9) (bG (aE (gY false) (aB 9) (aE aS (aB 0) (dC (.int 2))))) (bE (aB 9))) (aI 5) (R1 (some (.lst true (.str n::r))) (some (cU true c [(l:Int)] lo hi x)) none none)=.nx (R1 (some (.lst true (.str n::r))) (some (cU true c [(l:Int)] lo hi x)) (some (.lst true us)) none):=by
  clear t tl ec ms
  simp only[R1]
  walk_at "ev"
 have h4:bM [] (dF (aD (pZ jV iC (aE aS (aB 0) (dC (.int 2))) (aD (aE aS (aB 2) (dC (.int 1))) aJ)) aJ)) (aI 6) (R1 (some (.lst true (.str n::r))) (some (cU true c [(l:Int)] lo hi x)) (some (.lst true us)) none)=.nx (R1 (some (.lst true (.str n::r))) (some (cU true c [(l:Int)] lo hi x)) (some (.lst true us)) (some (.lst true [.int l]))):=by
  clear t tl ec ms c5
  simp only[R1]
  walk_at "ev"
 have h5:cW (bG (aE (gY false) (aE aS (aB 2) (dC (.int 0))) (dF (aD (dC (.str "after")) (aD (dC (.str "same")) (aD (dC (.str "within")) (aD (dC (.str "apart")) aJ))))))) (mW 6 [] eQ (pZ jV iC (aE aS (aB 0) (dC (.int 2))) (aD (aE aS (aB 2) (dC (.int 2))) aJ))) bP (R1 (some (.lst true (.str n::r))) (some (cU true c [(l:Int)] lo hi x)) (some (.lst true us)) (some (.lst true [.int l])))=.nx (R1 (some (.lst true (.str n::r))) (some (cU true c [(l:Int)] lo hi x)) (some (.lst true us)) (some (.lst true [.int l]))):=by
  clear t tl ec ms c5
  simp only[R1]
  walk_at "ev"
 have h6:cW (rS (jL (jF (bS 2 mF (aD (aB 4) (aD (aE aS (aB 2) (dC (.int 0))) aJ))))) (bG (aE ltT (bT eN (aD (aB 5) aJ)) (bT eN (aD (aB 6) aJ))))) (bI [] (dC (.bl false))) bP (R1 (some (.lst true (.str n::r))) (some (cU true c [(l:Int)] lo hi x)) (some (.lst true us)) (some (.lst true [.int l])))=.nx (R1 (some (.lst true (.str n::r))) (some (cU true c [(l:Int)] lo hi x)) (some (.lst true us)) (some (.lst true [.int l]))):=by
  have hlt2:decide ((us.length:Int)<((1:Nat):Int))=false:=hlt
  clear t tl ms c5
  simp only[R1]
  walk_at "ev"
 exact congrArg bU ((lY h1).trans ((lY h2).trans ((lY h3).trans ((lY h4).trans ((lY h5).trans ((lY h6).trans tl))))))
theorem qP{f:Fm}(g:Gd f){w n k:Str}{r:List T}{l m:Nat}{c:Str}{lo:Int}{hi:Option Int}{x:Str}{zs:List Str}(hw1:w∈an4)(hk:f.names[m]?=some k)(t:Told f w n (.str k::r) l c [(l:Int),(m:Int)] lo hi x zs):kQ [cH false f,cP false f,.lst false (.str w::.str n::.str k::r)]=.ok (.bl true):=by
 unfold kQ nX
 have sc:(T.str n::T.str k::r).all lE=true:=by rw[List.all_cons,t.sr];rfl
 have nr0:aP (.str k::r)=true:=lQ t.sr
 have nr:aP r=true:=by simpa[aP,cO]using nr0
 have zr:=fK _ nr
 have rl:r.length+1<=3:=t.rl
 have sc2:((T.str n::T.str k::r).take 2).all lE=true:=by
  rw[List.all_eq_true]at sc⊢
  exact λy hy=>sc y (List.mem_of_mem_take hy)
 have c5:=λx1 x2 x3 x4 x5 x6 x7 x8 x10 x11=>cl5 (f:=f) sc2 x1 x2 x3 x4 x5 x6 x7 x8 x10 x11
 have n5:aP ((T.str n::T.str k::r).take 2)=true:=lQ sc2
 have lf:2<=(((T.str n::T.str k::r).take 2).filter (uS f)).length:=by
  rw[List.take_succ_cons,List.take_succ_cons,List.filter_cons,ap4 t.hn,if_pos rfl,List.filter_cons,ap4 hk,if_pos rfl]
  simp
 have ll:((T.str n::T.str k::r).take 2).length<=100000:=by simp
 have tl:=bi8 t (some (.lst true (((T.str n::T.str k::r).take 2).filter (uS f)))) (by simp)
 have cut1:=bw4 (T.str w) (T.str n::T.str k::r)
 have cut3:=bo7 (T.str w) (T.str n::T.str k::r)
 have ms:=t.ms
 have na:=jA f
 have za:=lG false f
 have nf:=fA f
 have zf:=rM false f
 have cs:=ab1 c [(l:Int),(m:Int)] lo hi x
 have zs':=xX true c [(l:Int),(m:Int)] lo hi x
 have ec:=br3 t.hc [(l:Int),(m:Int)] lo hi x
 rw[t.hw]at ec
 have ei:=gC g t.hn false
 have ek:=gC g hk false
 have b0:=@gZ T
 have b1:=@gX T
 have b2:=@kU T
 have hin:gY false (.str w) (.lst true [.str "after",.str "same",.str "within",.str "apart"])=.ok (.bl true):=uM (ss:=an4) hw1
 have ix2':aS (cH false f) (.int 2)=.ok (.lst false (f.names.map .str)):=by
  simp only[cH,bl5,b2]
 generalize((T.str n::T.str k::r).take 2).filter (uS f)=us at c5 lf tl
 let R1:Option T->Option T->Option T->Option T->Fr:=λa b d e=>[some (cH false f),some (cP false f),some (.lst false (.str w::.str n::.str k::r)),a,b,d,e,none,none,none,none,none]
 have hlt:decide ((us.length:Int)<2)=false:=decide_eq_false (by omega)
 generalize(T.str n::T.str k::r).take 2=t2 at c5 n5 ll cut3
 have h1:bM [] (bT jW (aD (nY lZ (aB 2) (fX (dC (.int 1))) iG) aJ)) (aI 3) (R1 none none none none)=.nx (R1 (some (.lst true (.str n::.str k::r))) none none none):=by
  clear c5 t ms tl ec
  simp only[R1]
  walk_at "ev"
 have h2:bM [] (bS 3 dH (aD (aB 1) (aD (aE aS (aB 2) (dC (.int 0))) (aD (aB 3) aJ)))) (aI 4) (R1 (some (.lst true (.str n::.str k::r))) none none none)=.nx (R1 (some (.lst true (.str n::.str k::r))) (some (cU true c [(l:Int),(m:Int)] lo hi x)) none none):=by
  clear c5 t tl ec
  simp only[R1]
  walk_at "ev"
 have h3:bM [] (dO [9] (iQ jT (nY lZ (aB 2) (fX (dC (.int 1))) (fX (dC (.int 3))))) (aI 9) (bG (aE (gY false) (aB 9) (aE aS (aB 0) (dC (.int 2))))) (bE (aB 9))) (aI 5) (R1 (some (.lst true (.str n::.str k::r))) (some (cU true c [(l:Int),(m:Int)] lo hi x)) none none)=.nx (R1 (some (.lst true (.str n::.str k::r))) (some (cU true c [(l:Int),(m:Int)] lo hi x)) (some (.lst true us)) none):=by
  clear t tl ec ms
  simp only[R1]
  walk_at "ev"
 have h4:bM [] (dF (aD (pZ jV iC (aE aS (aB 0) (dC (.int 2))) (aD (aE aS (aB 2) (dC (.int 1))) aJ)) aJ)) (aI 6) (R1 (some (.lst true (.str n::.str k::r))) (some (cU true c [(l:Int),(m:Int)] lo hi x)) (some (.lst true us)) none)=.nx (R1 (some (.lst true (.str n::.str k::r))) (some (cU true c [(l:Int),(m:Int)] lo hi x)) (some (.lst true us)) (some (.lst true [.int l]))):=by
  clear t tl ec ms c5
  simp only[R1]
  walk_at "ev"
 have h5:cW (bG (aE (gY false) (aE aS (aB 2) (dC (.int 0))) (dF (aD (dC (.str "after")) (aD (dC (.str "same")) (aD (dC (.str "within")) (aD (dC (.str "apart")) aJ))))))) (mW 6 [] eQ (pZ jV iC (aE aS (aB 0) (dC (.int 2))) (aD (aE aS (aB 2) (dC (.int 2))) aJ))) bP (R1 (some (.lst true (.str n::.str k::r))) (some (cU true c [(l:Int),(m:Int)] lo hi x)) (some (.lst true us)) (some (.lst true [.int l])))=.nx (R1 (some (.lst true (.str n::.str k::r))) (some (cU true c [(l:Int),(m:Int)] lo hi x)) (some (.lst true us)) (some (.lst true [.int l,.int m]))):=by
  clear t tl ec ms c5
  simp only[R1]
  walk_at "ev"
 have h6:cW (rS (jL (jF (bS 2 mF (aD (aB 4) (aD (aE aS (aB 2) (dC (.int 0))) aJ))))) (bG (aE ltT (bT eN (aD (aB 5) aJ)) (bT eN (aD (aB 6) aJ))))) (bI [] (dC (.bl false))) bP (R1 (some (.lst true (.str n::.str k::r))) (some (cU true c [(l:Int),(m:Int)] lo hi x)) (some (.lst true us)) (some (.lst true [.int l,.int m])))=.nx (R1 (some (.lst true (.str n::.str k::r))) (some (cU true c [(l:Int),(m:Int)] lo hi x)) (some (.lst true us)) (some (.lst true [.int l,.int m]))):=by
  have hlt2:decide ((us.length:Int)<((2:Nat):Int))=false:=hlt
  clear t tl ms c5
  simp only[R1]
  walk_at "ev"
 exact congrArg bU ((lY h1).trans ((lY h2).trans ((lY h3).trans ((lY h4).trans ((lY h5).trans ((lY h6).trans tl))))))
theorem kj{zs:List Str}{x:Str}(hx:x=Txt.join " " zs)(h:∀y∈zs,y.length<=2000000)(hl:zs.length<=5):pM (.str " ") [.lst true (zs.map .str)]=.ok (.str x):=by
 rw[hx]
 exact bk3 h hl true
theorem wl:∀w∈(["ink","reign","under","between","after","same","within","apart"]:List Str),w.length<=2000000:=by decide+kernel
theorem c8:∀c∈(["Ink","Reign","Under","Between","After","Same","Within","Apart"]:List Str),c∈rP:=by decide+kernel
theorem wo:pK "Ink"="ink"/\pK "Reign"="reign"/\pK "Under"="under"/\pK "Between"="between"/\pK "After"="after"/\pK "Same"="same"/\pK "Within"="within"/\pK "Apart"="apart":=by decide+kernel
theorem na2:true=(("after":Str)=="after")/\false=(("same":Str)=="after")/\false=(("within":Str)=="after")/\false=(("apart":Str)=="after"):=by decide+kernel
local macro_rules | `(tactic| walk_at "x") => `(tactic| (intros; simp only [bY]; walk_at "ev"))
theorem dr2{f:Fm}(g:Gd f){ws:List T}(h:Wd f ws):kQ [cH false f,cP false f,.lst false ws]=.ok (.bl true):=by
 cases h with
 |@ink l n p d e hn hp h1 h2 h3 h4 hh=>
  cases hq:fQ p.2 d e (f.span.toNat+1)with
  |nil=>exact absurd hq hh
  |cons a r=>
   have g_d:=jD (show -10000000<=d by omega) (by omega)
   have g_e:=jD (show -10000000<=e by omega) (by omega)
   have mk:=dp1 g hn hp h1 h2 h3 h4 hq rfl rfl
   refine qW g (by decide+kernel) ⟨hn,c8 "Ink" (by decide+kernel),wo.1,rfl,by simp,mk,by clear mk hq hh;walk_at "x",kj rfl (xl (wl "ink" (by decide+kernel))<|xl (dU g hn)<|xl (xn g (g.inn p hp).1)<|xl (jC (by omega) (by omega))<|xl (jC (by omega) (by omega))<|x0) (by simp),?_⟩
   exact bd1 g hn λy y1 y2=>dm4 g hp hq rfl y y1 y2
 |@reign l n p k hn hp h1 h2=>
  have h100:=(g.rn p hp).2.2.2.2
  have g_k:=jD (show -10000000<=k by omega) (by omega)
  have mk:=cr0 g hn hp h1 h2 rfl
  exact qW g (by decide+kernel) ⟨hn,c8 "Reign" (by decide+kernel),wo.2.1,rfl,by simp,mk,by clear mk;walk_at "x",kj rfl (xl (wl "reign" (by decide+kernel))<|xl (dU g hn)<|xl (xn g (g.rn p hp).1)<|xl (jC (by omega) (by omega))<|x0) (by simp),ak4 g hn hp⟩
 |@under l n p hn hp=>
  have mk:=cw1 g hn hp rfl
  exact qW g (by decide+kernel) ⟨hn,c8 "Under" (by decide+kernel),wo.2.2.1,rfl,by simp,mk,by clear mk;walk_at "x",kj rfl (xl (wl "under" (by decide+kernel))<|xl (dU g hn)<|xl (xn g (g.rn p hp).1)<|x0) (by simp),ai5 g hn hp⟩
 |@between l n lo hi hn h1 h2 h3=>
  have g_l:=jD (show -10000000<=lo by omega) (by omega)
  have g_h:=jD (show -10000000<=hi by omega) (by omega)
  have mk:=bz5 g hn h1 h2 h3 rfl
  exact qW g (by decide+kernel) ⟨hn,c8 "Between" (by decide+kernel),wo.2.2.2.1,rfl,by simp,mk,by clear mk;walk_at "x",kj rfl (xl (wl "between" (by decide+kernel))<|xl (dU g hn)<|xl (jC (by omega) (by omega))<|xl (jC (by omega) (by omega))<|x0) (by simp),au0 g hn⟩
 |@after l m n k hn hk hne=>
  have hlm:l≠m:=by rintro rfl;rw[hn]at hk;cases hk;simp at hne
  have hl:l<f.names.length:=(List.getElem?_eq_some_iff.mp hn).1
  have hm:m<f.names.length:=(List.getElem?_eq_some_iff.mp hk).1
  have mk:=cs0 g hn hk hne rfl
  refine qP g (r:=[]) (by decide+kernel) hk ⟨hn,c8 "After" (by decide+kernel),wo.2.2.2.2.1,rfl,by simp,mk,by clear mk;walk_at "x",kj rfl (xl (wl "after" (by decide+kernel))<|xl (dU g hn)<|xl (dU g hk)<|x0) (by simp),?_⟩
  refine oU g (r:=[.str k]) (by decide+kernel) hn rfl na2.1 λy=>?_
  have:=cl8 g hn hk (at1 hl (f.first+y)) (wK hm hlm (f.first+y))
  rw[show f.first+y-f.first=y by omega]at this
  exact this
 |@same l m n k hn hk hne=>
  have hlm:l≠m:=by rintro rfl;rw[hn]at hk;cases hk;simp at hne
  have hl:l<f.names.length:=(List.getElem?_eq_some_iff.mp hn).1
  have hm:m<f.names.length:=(List.getElem?_eq_some_iff.mp hk).1
  have mk:=cz5 g hn hk hne rfl
  refine qP g (r:=[]) (by decide+kernel) hk ⟨hn,c8 "Same" (by decide+kernel),wo.2.2.2.2.2.1,rfl,by simp,mk,by clear mk;walk_at "x",kj rfl (xl (wl "same" (by decide+kernel))<|xl (dU g hn)<|xl (dU g hk)<|x0) (by simp),?_⟩
  refine oU g (r:=[.str k]) (by decide+kernel) hn rfl na2.2.1 λy=>?_
  have:=db3 g hn hk (at1 hl (f.first+y)) (wK hm hlm (f.first+y))
  rw[show f.first+y-f.first=y by omega]at this
  exact this
 |@within l m n k hi hn hk hne h1 h2=>
  have hlm:l≠m:=by rintro rfl;rw[hn]at hk;cases hk;simp at hne
  have hl:l<f.names.length:=(List.getElem?_eq_some_iff.mp hn).1
  have hm:m<f.names.length:=(List.getElem?_eq_some_iff.mp hk).1
  have g_h:=jD (show -10000000<=hi by omega) (by omega)
  have mk:=bq8 g hn hk hne h1 h2 rfl
  refine qP g (r:=[.int hi]) (by decide+kernel) hk ⟨hn,c8 "Within" (by decide+kernel),wo.2.2.2.2.2.2.1,rfl,by simp,mk,by clear mk;walk_at "x",kj rfl (xl (wl "within" (by decide+kernel))<|xl (dU g hn)<|xl (dU g hk)<|xl (jC (by omega) (by omega))<|x0) (by simp),?_⟩
  refine oU g (r:=[.str k,.int hi]) (by decide+kernel) hn rfl na2.2.2.1 λy=>?_
  have:=ci3 g hn hk (at1 hl (f.first+y)) (wK hm hlm (f.first+y)) hi
  rw[show f.first+y-f.first=y by omega]at this
  exact this
 |@apart l m n k lo hi hn hk hne h1 h2 h3=>
  have hlm:l≠m:=by rintro rfl;rw[hn]at hk;cases hk;simp at hne
  have hl:l<f.names.length:=(List.getElem?_eq_some_iff.mp hn).1
  have hm:m<f.names.length:=(List.getElem?_eq_some_iff.mp hk).1
  have g_l:=jD (show -10000000<=lo by omega) (by omega)
  have g_h:=jD (show -10000000<=hi by omega) (by omega)
  have mk:=bt9 g hn hk hne h1 h2 h3 rfl
  refine qP g (r:=[.int lo,.int hi]) (by decide+kernel) hk ⟨hn,c8 "Apart" (by decide+kernel),wo.2.2.2.2.2.2.2,rfl,by simp,mk,by clear mk;walk_at "x",kj rfl (xl (wl "apart" (by decide+kernel))<|xl (dU g hn)<|xl (dU g hk)<|xl (jC (by omega) (by omega))<|xl (jC (by omega) (by omega))<|x0) (by simp),?_⟩
  refine oU g (r:=[.str k,.int lo,.int hi]) (by decide+kernel) hn rfl na2.2.2.2 λy=>?_
  have:=cc8 g hn hk (at1 hl (f.first+y)) (wK hm hlm (f.first+y)) lo hi
  rw[show f.first+y-f.first=y by omega]at this
  exact this
theorem main(ns:List Int)(h63:ns.length<=63)(hb:∀n∈ns,Builtin.Int.intBits n<=1048576):aq8 [.lst false (ns.map .int)]=.ok (.bl true):=by
 unfold aq8 at8
 obtain⟨ms,hms,ml,mp⟩:=vU ns h63 hb
 obtain⟨z,hz,z0⟩:=ch5 ms 0
 have d3:jU z 3:=⟨by decide,by decide⟩
 obtain⟨wide,hw,mw⟩:=iR [12,300,5] (i:=z%3) (by omega) (by simp;omega)
 have wb:5<=wide/\wide<=300:=by simp at mw;omega
 obtain⟨f,hf,g⟩:=dl0 ms wide wb.1 wb.2
 have s0:=g.s0
 have s1:=g.s1
 obtain⟨far,hfar,mfar⟩:=iR [f.first+f.span-f.first,300,3] (i:=z/3%3) (by omega) (by simp;omega)
 have fb:0<=far/\far<=300:=by simp at mfar;omega
 have zf:=rM true f
 have zf2:=rM false f
 have nf:=fA f
 have cf:fN (cH true f)=true:=by simp only[cH,fN,fB,uH,uD,sJ,Bool.and_self]
 have ni:=cR f.inks
 have nr:=cV f.reigns
 have zi:=lN true f.inks
 have zr:=oJ f.reigns
 have ci:=uD f.inks
 have cr:=sJ f.reigns
 have ka:=bp0 g
 have ca:=cl3 f
 have za:=lG true f
 have li:f.inks.length<=100000:=by have:=g.i6;omega
 have hc:∀x0 x1 x2 x3 x4 x6 x7 x8 x9:Option T,bY (eF (bA (aI 10) (bA (aI 11) eI))) cZ (kS (aD (bE (aB 10)) (aD (bT jW (aD (aB 11) aJ)) aJ))) [x0,x1,x2,x3,x4,some (.lst false (f.inks.map (dR false))),x6,x7,x8,x9,none,none] (f.inks.map (dR false))=.ok (f.inks.map (dR true)):=λx0 x1 x2 x3 x4 x6 x7 x8 x9=>
  nM λp _=>by simp only[dR];walk_at "ev"
 simp only[List.map_cons,List.map_nil]at hw hfar
 have lm:ms.length<=100000:=by omega
 have cm:=bh3 T.int ms (some 1) (some 25)
 have lc:(fP ms (some 1) (some 25)).length+1<=100000:=by
  unfold fP
  simp only[List.length_take,List.length_drop]
  omega
 have zr2:=oJ f.reigns
 clear mw mfar hb mp
 have fm:cH false f=.tup [.int f.first,.int (f.first+f.span),.lst false (f.names.map .str),.lst false (f.inks.map (dR false)),.lst false (f.reigns.map eW)]:=rfl
 walk_at "ev"
 have hfz:frzs (List.map T.int (fP ms (some 1) (some 25))++[T.int 5])=(fP ms (some 1) (some 25)++[5]).map T.int:=by
  rw[show List.map T.int (fP ms (some 1) (some 25))++[T.int 5]=(fP ms (some 1) (some 25)++[5]).map T.int by rw[List.map_append];rfl]
  exact tQ _
 rw[hfz,if_pos (kP _)]
 generalize fP ms (some 1) (some 25)++[5]=qs
 clear hfz cm lc hc ka hf hw hz hms
 simp only
 generalize hL:iT _ _ _ _=o
 obtain⟨ρ',rfl,x9,rfl⟩:=lJ (λi ρ=>∃x9:Option T,ρ=[some (T.lst true (List.map T.int ms)),some (.tup [.int f.first,.int (f.first+f.span),.lst false (f.names.map .str),.lst false (f.inks.map (dR false)),.lst false (f.reigns.map eW)]),some (.int f.first),some (.int (f.first+f.span)),some (.lst false (f.names.map .str)),some (.lst false (f.inks.map (dR false))),some (.lst false (f.reigns.map eW)),some (cP true f),some (.int far),x9,none,none]) hL ⟨none,rfl⟩ (by
  rintro i t ρ et ⟨x9,rfl⟩
  obtain⟨q,rfl,_⟩:=cy4 et
  obtain⟨ws,h1,wd⟩:=bc0 g (if q<0 then -q else q) far fb.1 fb.2
  have h2:=dr2 g wd
  have hw:aP ws=true/\fB ws=true:=by cases wd<;>exact⟨rfl,rfl⟩
  have hw1:=hw.1
  have hw2:=hw.2
  have zw:=fK ws hw1
  rw[fm]at h1 h2
  have zi2:=lN false f.inks
  clear hL et wd hw g fm zf zf2
  walk_at "ev"
  exact⟨_,rfl⟩)
 rfl
end Nk12
namespace PySem.W.Fast
def tw1000584859827859338:=Nat
def tw10068942608536176677:=Nat
def tw10116192425881665792:=Nat
def tw10205727152785367298:=Nat
def tw10247438596949940664:=Nat
def tw10263609584995594585:=Nat
def tw10269050291109514271:=Nat
def tw10289618669158402122:=Nat
def tw10329932823455389629:=Nat
def tw10380768854713113355:=Nat
def tw103996572875614394:=Nat
def tw10409928766525172337:=Nat
def tw10418695566722349330:=Nat
def tw10419255496926068617:=Nat
def tw1045912785134967953:=Nat
def tw10470097550972899821:=Nat
def tw10482476175441363942:=Nat
def tw10497269044745092934:=Nat
def tw10513990519522015930:=Nat
def tw10531614342358952330:=Nat
def tw10536239841362160352:=Nat
def tw10602100297572165546:=Nat
def tw1065451970249347687:=Nat
def tw10679617640965132655:=Nat
def tw107152596579792976:=Nat
def tw10746526145377349974:=Nat
def tw10799645584859530714:=Nat
def tw10892154082557751858:=Nat
def tw10893522419625944110:=Nat
def tw10938352593072606942:=Nat
def tw10938549834471803981:=Nat
def tw10962149320868415505:=Nat
def tw11004098182940541218:=Nat
def tw11065513346056492954:=Nat
def tw11070278406918315756:=Nat
def tw11093898983862546054:=Nat
def tw1110535107755450026:=Nat
def tw11127657876026978780:=Nat
def tw11180109163200964124:=Nat
def tw11235754295380630065:=Nat
def tw11278239612375161529:=Nat
def tw11338511187079788085:=Nat
def tw11342165276341390271:=Nat
def tw11373782276786210384:=Nat
def tw1140356605843686657:=Nat
def tw1144101147913346596:=Nat
def tw11448020344390242336:=Nat
def tw11459177993159917155:=Nat
def tw11472671813541466761:=Nat
def tw11508820214328033221:=Nat
def tw11519746389108533710:=Nat
def tw11539958004887111641:=Nat
def tw11543120832159640309:=Nat
def tw1164454285833821311:=Nat
def tw11648899902635752473:=Nat
def tw11670590171562233671:=Nat
def tw11747672715374367890:=Nat
def tw11767203845921234608:=Nat
def tw11773325670224652359:=Nat
def tw11787462692238663265:=Nat
def tw11856937997448958554:=Nat
def tw11881048659770894178:=Nat
def tw11952208409035209627:=Nat
def tw12012043192266906987:=Nat
def tw12016049177533658408:=Nat
def tw12026065194728529116:=Nat
def tw12084427012283025694:=Nat
def tw12159512344448001950:=Nat
def tw12195939298927502061:=Nat
def tw12220172700191276862:=Nat
def tw12255291976894050943:=Nat
def tw1228691939032774882:=Nat
def tw12348348505325133927:=Nat
def tw12377297085913637492:=Nat
def tw12400331693934210794:=Nat
def tw12404329349772848251:=Nat
def tw12500373727575235013:=Nat
def tw12525882538861625040:=Nat
def tw12547787100289054038:=Nat
def tw12617085095836097848:=Nat
def tw12657180999705326196:=Nat
def tw12658761819756228585:=Nat
def tw12664586289724620374:=Nat
def tw12736314025028402886:=Nat
def tw12772013601533594713:=Nat
def tw12805157165064440918:=Nat
def tw1281692492541778745:=Nat
def tw12820738039114553578:=Nat
def tw12826453897728388343:=Nat
def tw12840829761904308187:=Nat
def tw12852550059967633721:=Nat
def tw12887294180197425:=Nat
def tw12954402790376834138:=Nat
def tw12981639610494774778:=Nat
def tw12991951017801540900:=Nat
def tw13001961015054445323:=Nat
def tw13038874466699730816:=Nat
def tw13079505686700999753:=Nat
def tw1312505271663998622:=Nat
def tw13138181793700020862:=Nat
def tw13215767026089159538:=Nat
def tw13235586386962738008:=Nat
def tw13246720731816569070:=Nat
def tw13300232878708119700:=Nat
def tw13311173001498188205:=Nat
def tw13315561951769538594:=Nat
def tw13353388294074797899:=Nat
def tw1337459422465864410:=Nat
def tw13419911372456824296:=Nat
def tw13456065218574072343:=Nat
def tw13460614049198139245:=Nat
def tw13479210148935128192:=Nat
def tw13514826412392407807:=Nat
def tw13529566881852716912:=Nat
def tw13583107306942806917:=Nat
def tw13606629347356923636:=Nat
def tw13659802157353685828:=Nat
def tw1368568583013062055:=Nat
def tw136972732475675336:=Nat
def tw13698714059086630020:=Nat
def tw13709060137260297566:=Nat
def tw13714029026534963947:=Nat
def tw13733899327755889159:=Nat
def tw13743619216991393429:=Nat
def tw13769712401935325505:=Nat
def tw13834028167080675057:=Nat
def tw13851663940790137369:=Nat
def tw13870495378439117204:=Nat
def tw13890223924822088052:=Nat
def tw13918196615288823677:=Nat
def tw13920077146883625102:=Nat
def tw13921139994141398980:=Nat
def tw13974828843774822267:=Nat
def tw13978169244579913905:=Nat
def tw14024565393795222380:=Nat
def tw14028159095367806241:=Nat
def tw14126395673677749565:=Nat
def tw14173117689591010341:=Nat
def tw14174119684067801674:=Nat
def tw14181482667145220248:=Nat
def tw14186507798174311720:=Nat
def tw14196707001935864183:=Nat
def tw14372116725165467846:=Nat
def tw14419639674094082750:=Nat
def tw14465396204880261619:=Nat
def tw14485855528095145111:=Nat
def tw14528723192570037686:=Nat
def tw14538780095072148832:=Nat
def tw14553367059010956083:=Nat
def tw14631659295269867976:=Nat
def tw14636177617749832750:=Nat
def tw14653914815704376047:=Nat
def tw14663273134453489029:=Nat
def tw14707408654551105458:=Nat
def tw14731254925418821448:=Nat
def tw14740095636784160888:=Nat
def tw14744231165640960704:=Nat
def tw14751477319085792679:=Nat
def tw1475533793920127280:=Nat
def tw14758382392691933469:=Nat
def tw14795291385975199145:=Nat
def tw14803769000043442832:=Nat
def tw14825107806141819727:=Nat
def tw14858221923849311338:=Nat
def tw14858242626422561808:=Nat
def tw14859805474723148628:=Nat
def tw14894040878015341666:=Nat
def tw14923645255055486303:=Nat
def tw14929736859199079009:=Nat
def tw14969902498419513543:=Nat
def tw14971298585755677966:=Nat
def tw14972221553880147438:=Nat
def tw15002262208631053940:=Nat
def tw1501816059768492928:=Nat
def tw15080479696467174516:=Nat
def tw15084646769409379566:=Nat
def tw15128988181717138273:=Nat
def tw15216399124105581766:=Nat
def tw15260858278598420005:=Nat
def tw15345962473588643577:=Nat
def tw1541059980072531335:=Nat
def tw15414449985382035329:=Nat
def tw15433124881810333751:=Nat
def tw15453180821601768648:=Nat
def tw15496543812128989221:=Nat
def tw15500368268583915424:=Nat
def tw15534318586123591483:=Nat
def tw15537943494582156156:=Nat
def tw15589548746608157348:=Nat
def tw15597596024546461405:=Nat
def tw1562181699411459379:=Nat
def tw15654839028743612676:=Nat
def tw15671914217894441484:=Nat
def tw15685539549581340977:=Nat
def tw15745179940340124152:=Nat
def tw1582297270736680167:=Nat
def tw15882986979555606591:=Nat
def tw15889764669470115045:=Nat
def tw15907555805524358878:=Nat
def tw1592895484535556737:=Nat
def tw15973952497447550426:=Nat
def tw16046705321672939136:=Nat
def tw16059903721761841327:=Nat
def tw16101166669758394041:=Nat
def tw16142231402739975493:=Nat
def tw16157009795986455087:=Nat
def tw16159126971770762292:=Nat
def tw16177027945926771723:=Nat
def tw16212357923639795784:=Nat
def tw16213460068250282239:=Nat
def tw16356997620145204641:=Nat
def tw16403059870895520344:=Nat
def tw16407004341549570850:=Nat
def tw16450255786086893298:=Nat
def tw16477363281802697982:=Nat
def tw16486033870821277142:=Nat
def tw16614385653328522777:=Nat
def tw16699938045691690132:=Nat
def tw16728428904361591990:=Nat
def tw16802146415392083661:=Nat
def tw16815072852671196080:=Nat
def tw16818992870609535191:=Nat
def tw16819313337338545468:=Nat
def tw16920611189399220630:=Nat
def tw17057612940237341529:=Nat
def tw1718220089134377365:=Nat
def tw17245161677560526095:=Nat
def tw17245302007803054754:=Nat
def tw17246791036349217060:=Nat
def tw17251497767328581706:=Nat
def tw17259561682398279608:=Nat
def tw17278886806972259016:=Nat
def tw17286222283261854457:=Nat
def tw17290377453989458023:=Nat
def tw17291550018207588485:=Nat
def tw173043655382368975:=Nat
def tw1730714909515930688:=Nat
def tw17324810910136190534:=Nat
def tw17373115363181389543:=Nat
def tw1742905250518355667:=Nat
def tw17458832295943037648:=Nat
def tw17467299018437840266:=Nat
def tw17529951147224794898:=Nat
def tw17556011060508566713:=Nat
def tw17570703599857476561:=Nat
def tw17581065314271075902:=Nat
def tw17597961328962680336:=Nat
def tw17599386087845920405:=Nat
def tw17756464901045474515:=Nat
def tw17792515679862006186:=Nat
def tw17799296466875540369:=Nat
def tw17814179962118893605:=Nat
def tw1785000453090278159:=Nat
def tw17928302846662597106:=Nat
def tw17963904948742916239:=Nat
def tw1797096425904995766:=Nat
def tw1804502065646291113:=Nat
def tw18081666056529342778:=Nat
def tw18210106346594041415:=Nat
def tw18243211095372491074:=Nat
def tw18301990360934913856:=Nat
def tw18350635086956368141:=Nat
def tw18389150032713623500:=Nat
def tw1868364044887911583:=Nat
def tw1870194865179321019:=Nat
def tw2004016020950142287:=Nat
def tw2014564808788472296:=Nat
def tw203598327371597793:=Nat
def tw2056490237754104533:=Nat
def tw2138821681191383800:=Nat
def tw2228228626434003069:=Nat
def tw2228719725447739655:=Nat
def tw2259164351401734472:=Nat
def tw2259885266158342220:=Nat
def tw2262774094774348769:=Nat
def tw2300545761182211612:=Nat
def tw2335615804087443824:=Nat
def tw2341171902047490172:=Nat
def tw2361866069305691967:=Nat
def tw2387212545390122201:=Nat
def tw2389783829105571460:=Nat
def tw249054531730326249:=Nat
def tw2523846366852430182:=Nat
def tw2545335962327050220:=Nat
def tw2577957222029553545:=Nat
def tw2592640864346919612:=Nat
def tw2593241494198289839:=Nat
def tw2705443812325714029:=Nat
def tw2719158268483843996:=Nat
def tw2738365531386851214:=Nat
def tw2776721542433866497:=Nat
def tw2794449098029994308:=Nat
def tw2820523726356434638:=Nat
def tw2901658563724491446:=Nat
def tw2931086330337845827:=Nat
def tw2988304836362480957:=Nat
def tw2991223606221256817:=Nat
def tw2991400198946125729:=Nat
def tw3002959768459689746:=Nat
def tw3011121083372649046:=Nat
def tw3018217631139890369:=Nat
def tw3018333417894134578:=Nat
def tw3062255464300300678:=Nat
def tw3140475095644626230:=Nat
def tw3157870139029393852:=Nat
def tw3237347897469107088:=Nat
def tw3246039930546789391:=Nat
def tw327128932908865930:=Nat
def tw3304234876060124335:=Nat
def tw3313481056697558122:=Nat
def tw3392500458026680251:=Nat
def tw3401668418798456710:=Nat
def tw3424141290501893147:=Nat
def tw3452656468508916144:=Nat
def tw345643030299088643:=Nat
def tw3485954178061250534:=Nat
def tw3550936540908945035:=Nat
def tw3557721610268003213:=Nat
def tw3681985769419965081:=Nat
def tw3752084828809152452:=Nat
def tw3757945356643885138:=Nat
def tw3758148218176733310:=Nat
def tw381470707595064046:=Nat
def tw3837854106456175222:=Nat
def tw3849595579671293609:=Nat
def tw387021147576517547:=Nat
def tw3898536965768682336:=Nat
def tw3919220155577225920:=Nat
def tw3962913311677313818:=Nat
def tw3972277400555306433:=Nat
def tw3984779177585634001:=Nat
def tw4015629484537387732:=Nat
def tw4035550936046850951:=Nat
def tw4046144724615004379:=Nat
def tw4089194535238530983:=Nat
def tw4101370930198505736:=Nat
def tw422127584674805228:=Nat
def tw4233104482363185436:=Nat
def tw4258827030153282999:=Nat
def tw4297020170317366150:=Nat
def tw4316627491512668896:=Nat
def tw4321566537067310564:=Nat
def tw4400141753778500825:=Nat
def tw4478985086776901573:=Nat
def tw4480031452801384074:=Nat
def tw4489642989774633123:=Nat
def tw4507084348591930181:=Nat
def tw4513549045070512724:=Nat
def tw4523121877525195528:=Nat
def tw4543963134985975610:=Nat
def tw4556550523931897791:=Nat
def tw4580022772087312054:=Nat
def tw4586072364275298264:=Nat
def tw4610822106694167220:=Nat
def tw4620063913934903890:=Nat
def tw4630756122648447476:=Nat
def tw4655157337470233145:=Nat
def tw4669507404053219584:=Nat
def tw4751303350245784377:=Nat
def tw4758596166220278960:=Nat
def tw4780161610348741915:=Nat
def tw4807639238735363433:=Nat
def tw4811309826046464383:=Nat
def tw4911796555633420711:=Nat
def tw4926446428967940863:=Nat
def tw4946302972886790660:=Nat
def tw4957612906169025747:=Nat
def tw5009728889482150846:=Nat
def tw5047395375008260237:=Nat
def tw5112694650170717861:=Nat
def tw513747681564355542:=Nat
def tw5159367993047338148:=Nat
def tw5227849563212221093:=Nat
def tw5274510522209119459:=Nat
def tw5322704221874768677:=Nat
def tw5351191954581034346:=Nat
def tw5390929309725782895:=Nat
def tw5394059407112300409:=Nat
def tw5435110341162185:=Nat
def tw5491728568356941129:=Nat
def tw5510812453344760444:=Nat
def tw5516710260690392865:=Nat
def tw5534165715901953519:=Nat
def tw555214195393139391:=Nat
def tw5584941473867701741:=Nat
def tw5662040139991702943:=Nat
def tw5684433101607952063:=Nat
def tw575329845816524240:=Nat
def tw5782624735035825301:=Nat
def tw5809636314101452527:=Nat
def tw586013432994900678:=Nat
def tw5910271859645479510:=Nat
def tw5954281964637061367:=Nat
def tw5962942800576897188:=Nat
def tw6043894116054826184:=Nat
def tw6094931156510520588:=Nat
def tw6132376032867081447:=Nat
def tw6137489941035046285:=Nat
def tw6141514441862807740:=Nat
def tw6186408563430443984:=Nat
def tw6191927183219772137:=Nat
def tw6196509603018690751:=Nat
def tw6228469504325269605:=Nat
def tw6232897677652702777:=Nat
def tw6320712087775235690:=Nat
def tw6352968628651607293:=Nat
def tw6384730207489750560:=Nat
def tw6389996142309524652:=Nat
def tw6411702392888017683:=Nat
def tw6451342795675551116:=Nat
def tw6467960508301508376:=Nat
def tw6473723215761332251:=Nat
def tw6517977277622932775:=Nat
def tw6524073692247528824:=Nat
def tw6544336157111567294:=Nat
def tw6593067510401936485:=Nat
def tw6593663980470188927:=Nat
def tw6661115275151200484:=Nat
def tw6718248338545655547:=Nat
def tw6801855304300210975:=Nat
def tw684846013979483176:=Nat
def tw6873026591502096509:=Nat
def tw6879016389848575298:=Nat
def tw6956698159972107654:=Nat
def tw6987672908431847385:=Nat
def tw7055745089874865520:=Nat
def tw7064088282266274629:=Nat
def tw714291428728164325:=Nat
def tw716040371919167095:=Nat
def tw7187410020739037713:=Nat
def tw7194022421585558929:=Nat
def tw7205469702419282075:=Nat
def tw7230235451366241218:=Nat
def tw7281184282249703163:=Nat
def tw7284313685747549510:=Nat
def tw7296352694393382737:=Nat
def tw7297465574695423698:=Nat
def tw73195189122638334:=Nat
def tw7345768329540122511:=Nat
def tw7349434318766200928:=Nat
def tw7486097054591183118:=Nat
def tw751126311823626954:=Nat
def tw7526820728199865752:=Nat
def tw7612968964179441507:=Nat
def tw7687943244806040995:=Nat
def tw7717250695576526295:=Nat
def tw7786989628810934303:=Nat
def tw7795539173269352210:=Nat
def tw7827091332520539172:=Nat
def tw783381322951751866:=Nat
def tw7899128898150617743:=Nat
def tw7905060152068145512:=Nat
def tw7905245287375378104:=Nat
def tw7939458372129678960:=Nat
def tw7944000929367612282:=Nat
def tw7952116228944585568:=Nat
def tw7964978205491559094:=Nat
def tw8006186743961174692:=Nat
def tw8011446904965273225:=Nat
def tw8171996935357929097:=Nat
def tw8235584880087841899:=Nat
def tw8252964147569936498:=Nat
def tw82956824265933787:=Nat
def tw8306220355148662764:=Nat
def tw8341210772703374905:=Nat
def tw8418211116084784931:=Nat
def tw8454133413978564419:=Nat
def tw8530994197892130367:=Nat
def tw8550773142577926385:=Nat
def tw8551870386240875163:=Nat
def tw8563341161621908180:=Nat
def tw8574116094221114066:=Nat
def tw8675550968542781835:=Nat
def tw8689013185906255032:=Nat
def tw8711756343406975765:=Nat
def tw8718191200141575622:=Nat
def tw8734140082802999833:=Nat
def tw8760779581363745155:=Nat
def tw8771068306360588724:=Nat
def tw8789610299117663710:=Nat
def tw8799368529973646512:=Nat
def tw880161636108203769:=Nat
def tw8904780634413014065:=Nat
def tw8922588242098269747:=Nat
def tw892647060705077864:=Nat
def tw8951813690170452339:=Nat
def tw8961250222615500230:=Nat
def tw8978527093853751835:=Nat
def tw900328321477548282:=Nat
def tw9012883404953287012:=Nat
def tw9055065678012512604:=Nat
def tw9076362121919932083:=Nat
def tw9095405070902599073:=Nat
def tw9108263953610587749:=Nat
def tw9209624212598679793:=Nat
def tw9225273499233745562:=Nat
def tw9267901123781119614:=Nat
def tw9323891349695619072:=Nat
def tw937346387064840835:=Nat
def tw9412220106906613243:=Nat
def tw9419203229847366799:=Nat
def tw9462031125672191726:=Nat
def tw9468835635442332599:=Nat
def tw9477731301136990852:=Nat
def tw9489485767607963586:=Nat
def tw9511504780769858340:=Nat
def tw9610805783019927439:=Nat
def tw9648647686791264837:=Nat
def tw9658399206308659564:=Nat
def tw967605981220992524:=Nat
def tw9712690355881885803:=Nat
def tw9739445551207060177:=Nat
def tw9840961325778148632:=Nat
def tw9848248582357960248:=Nat
def tw9871878545590226644:=Nat
def tw9900820093732504185:=Nat
def tw9949911102210019569:=Nat
def tw9951106017026022568:=Nat
def tw9952873430702843550:=Nat
def tw999343301539252101:=Nat
end PySem.W.Fast
open PySem PySem.W PyProof.Rows
set_option maxRecDepth 100000 in
set_option maxHeartbeats 0 in
theorem PySem.Challenge.cw_inkyears_k12_what_sayings_say_holds : PySem.Challenge.rw_inkyears_k12_what_sayings_say.Holds := by
 w_on;o_law;k_head;(case hw=>w_witness2)
 k_fill
 refine L2.cf0 (l:=PySem.Challenge.rw_inkyears_k12_what_sayings_say) (k:=7) (x:="_law_script") rfl rfl ⟨rfl,by decide,by decide⟩ (λw h Y=>PySem.W.kIn_of Y) ?F
 case F=>
  intro w mg fa h KX G hmg
  refine' Nk12.dn4 (cn:=λx=>[(("Ink":Str),?c_Ink),(("Reign":Str),?c_Reign),(("Under":Str),?c_Under),(("Between":Str),?c_Between),(("After":Str),?c_After),(("Same":Str),?c_Same),(("Within":Str),?c_Within),(("Apart":Str),?c_Apart),(("Archive":Str),?c_Archive)].lookup x) (c_Ink:=?c_Ink) (c_Reign:=?c_Reign) (c_Under:=?c_Under) (c_Between:=?c_Between) (c_After:=?c_After) (c_Same:=?c_Same) (c_Within:=?c_Within) (c_Apart:=?c_Apart) (c_Archive:=?c_Archive) (c_Saying:=?c_Saying) KX G hmg ?a0 ?l0 ?c0 ?k0 ⟨?T0,?T1,?T2,?T3,?T4,?T5,?T6,?T7,?T8,?T9,?T10,?T11,?T12,?T13,?T14,?T15,?T16,?T17,?T18,?T19,?T20,?T21,?T22,?T23,?T24,?T25,?T26,?T27,?T28,?T29,?T30,?T31,?T32,?T33,?T34,?T35,?T36,?T37,?T38,?T39,?T40,?T41,?T42,?T43,?T44,?T45,?T46,?T47,?T48,?T49,?T50,?T51,?T52,?T53,?T54,?T55,?T56,?T57,?T58,?T59,?T60,?T61,?T62,?T63,?T64,?T65,?T66,?T67,?T68,?T69,?T70,?T71,?T72,?T73,?T74,?T75,?T76,?T77,?T78,?T79,?T80,?T81,?T82,?T83,?T84,?T85,?T86,?T87,?T88,?T89,?T90,?T91,?T92,?T93,?T94,?T95,?T96,?T97,?T98,?T99,?T100,?T101,?T102,?T103,?T104,?T105,?T106,?T107,?T108,?T109,?T110,?T111,?T112,?T113,?T114,?T115,?T116,?T117,?T118,?T119,?T120,?T121,?T122,?T123,?T124,?T125,?T126,?T127,?T128,?T129,?T130,?T131,?T132,?T133,?T134,?T135,?T136,?T137,?T138,?T139,?T140,?T141,?T142,?T143,?T144,?T145,?T146,?T147,?T148,?T149,?T150,?T151,?T152,?T153,?T154,?T155,?T156,?T157,?T158,?T159,?T160,?T161,?T162,?T163,?T164,?T165,?T166,?T167,?T168,?T169,?T170,?T171,?T172,?T173,?T174,?t0,?t1,?t2,?t3,?t4,?t5,?t6,?t7,?t8,?t9,?t10,?t11,?t12,?t13,?t14,?t15,?t16,?t17,?t18,?t19,?t20,?t21,?t22,?t23,?t24,?t25,?t26,?t27,?t28,?t29,?t30,?t31,?t32,?t33,?t34,?t35,?t36,?t37,?t38,?t39,?t40,?t41,?t42,?t43,?t44,?t45,?t46,?t47,?t48,?t49,?t50,?t51,?t52,?t53,?t54,?t55,?t56,?t57,?t58,?t59,?t60,?t61,?t62,?t63,?t64,?t65,?t66,?t67,?t68,?t69,?t70,?t71,?t72,?t73,?t74,?t75,?t76,?t77,?t78,?t79,?t80,?t81,?t82,?t83,?t84⟩ Nk12.main
  (case a0=>k_is);(case l0=>k_is);(case c0=>k_is);(case k0=>k_is)
  all_goals try(refine' L2.cs9 KX G ?a ?l ?c ?k;(case a=>k_is);(case l=>k_is);(case c=>k_is);(case k=>k_is))
  all_goals try(refine' L2.cy7 KX G ?g ?mk ?a ?b ?kc ?l ?c ?k;(case g=>k_is);(case mk=>k_is);(case a=>k_is);(case b=>k_is);(case kc=>k_is);(case l=>k_is);(case c=>k_is);(case k=>k_is))
  all_goals try(refine' L2.cg7 ?a ?b ?l ?c ?k;(case a=>k_is);(case b=>k_is);(case l=>k_is);(case c=>k_is);(case k=>k_is))
  case t76=>(refine' L2.al4 KX G ?g ?l ?r ?nd ?sm;(case g=>k_is);(case l=>k_is);(case r=>exact .cons (.cons (.cons (.cons (.cons (.cons (.cons (.cons (.nil)))))))));(case nd=>decide+kernel);(case sm=>rfl))
  all_goals try exact L2.dc7 KX G (by k_is) rfl
  all_goals try exact PySem.W.mg_none_of KX G (by k_is)
  all_goals try(refine' L2.dv2 KX G ?a ?r;(case a=>k_is);(case r=>exact⟨_,rfl⟩))
  case T27=>(refine' L2.al4 KX G ?g ?l ?r ?nd ?sm;(case g=>k_is);(case l=>k_is);(case r=>exact .cons (.cons (.cons (.cons (.cons (.nil))))));(case nd=>decide+kernel);(case sm=>rfl))
  case T28=>exact .cons (TL.lC (by k_is) (.int (.int .nil)) (by decide)) (.cons (TL.lC (by k_is) (.int (.int .nil)) (by decide)) (.cons (TL.lC (by k_is) (.int (.int .nil)) (by decide)) (.cons (TL.lC (by k_is) (.int (.int .nil)) (by decide)) (.cons (TL.lC (by k_is) (.int (.int .nil)) (by decide)) (.nil)))))
  case T29=>(refine' L2.al4 KX G ?g ?l ?r ?nd ?sm;(case g=>k_is);(case l=>k_is);(case r=>exact .cons (.cons (.cons (.cons (.cons (.cons (.cons (.cons (.nil)))))))));(case nd=>decide+kernel);(case sm=>rfl))
  case T30=>exact .cons (TL.lC (by k_is) (.str (.str (.str (.str .nil)))) (by decide)) (.cons (TL.lC (by k_is) (.str (.str (.str .nil))) (by decide)) (.cons (TL.lC (by k_is) (.str (.str .nil)) (by decide)) (.cons (TL.lC (by k_is) (.str (.str (.str .nil))) (by decide)) (.cons (TL.lC (by k_is) (.str (.str .nil)) (by decide)) (.cons (TL.lC (by k_is) (.str (.str .nil)) (by decide)) (.cons (TL.lC (by k_is) (.str (.str (.str .nil))) (by decide)) (.cons (TL.lC (by k_is) (.str (.str (.str (.str .nil)))) (by decide)) (.nil))))))))
  case T31=>rfl
  all_goals try exact L2.glc_mk KX G (by k_is)
  all_goals try(refine' L2.cm9 ?a ?b ?c ?d;(case a=>k_is);(case b=>k_is);(case c=>k_is);(case d=>k_is))
  all_goals try(refine' L2.dy2 ?a ?b ?c ?d;(case a=>k_is);(case b=>k_is);(case c=>k_is);(case d=>k_is))
  all_goals try exact L2.cq1 (by rfl)
  case T33=>rfl
  case T35=>rfl
  case T37=>rfl
  case T39=>rfl
  case T41=>rfl
  case T43=>rfl
  case T45=>rfl
  case T47=>rfl
  all_goals try exact L2.dk7 (by k_is)
