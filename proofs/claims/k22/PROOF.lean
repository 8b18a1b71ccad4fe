import PyProof.Rows.All
import Wide.All
import OpenK.AllK
import Wide.FinOn
import Lean
import PyProof.EqAt
import PyProof.EqKinds
import PyProof.TupleCall
import PyProof.NeKinds
import PyProof.ZipIter
import PyProof.EnumMake
import PyProof.Rows.ZipGen
import PyProof.Rows.SetFrom
import PyProof.IsiNone
import KE.KRevSl
import PyProof.Rows.ListMul
import PyProof.ListRange
import PyProof.Rows.SumAny
import PySem.Challenge.RW_inkyears_k22_what_datings_are
set_option Elab.async false
set_option linter.all false
set_option maxRecDepth 100000
set_option maxHeartbeats 4000000

namespace L2
open PySem PySem.Spec PyProof.Rows
abbrev qW:=Sum Int Str
def ck5:qW->Value->Bool
 |.inl k,v=>Value.isInt k v
 |.inr x,v=>Value.isStrOf x v
def dn9(w:World):qW->Int
 |.inl k=>hashInt k
 |.inr x=>hashStr w x
theorem gJ:∀{k:qW}{v:Value},ck5 k v=true->(∃i t,k=Sum.inl i/\v=Value.int i t)\/(∃x t,k=Sum.inr x/\v=Value.str x t)
 |.inl i,v,h=>by
  obtain⟨t,e⟩:=Value.isInt_shape (k:=i) (v:=v) h
  exact .inl ⟨i,t,rfl,e⟩
 |.inr x,v,h=>by
  obtain⟨t,e⟩:=Value.isStrOf_shape (x:=x) (v:=v) h
  exact .inr ⟨x,t,rfl,e⟩
theorem dt3(a b:Int):decide ((Sum.inl a:qW)=Sum.inl b)=(a==b):=by
 by_cases e:a=b
 . subst e;simp
 . have h:¬(Sum.inl a:qW)=Sum.inl b:=λq=>e (Sum.inl.inj q)
   rw[decide_eq_false h]
   exact(beq_eq_false_iff_ne.mpr e).symm
theorem dm0(a b:Str):decide ((Sum.inr a:qW)=Sum.inr b)=decide (a=b):=by
 by_cases e:a=b
 . subst e;simp
 . have h:¬(Sum.inr a:qW)=Sum.inr b:=λq=>e (Sum.inr.inj q)
   rw[decide_eq_false h,decide_eq_false e]
theorem df4(a:Int)(b:Str):decide ((Sum.inl a:qW)=Sum.inr b)=false:=decide_eq_false (λq=>nomatch q)
theorem dg2(a:Str)(b:Int):decide ((Sum.inr a:qW)=Sum.inl b)=false:=decide_eq_false (λq=>nomatch q)
def ag4(prog:Program)(w:World):PySem.KeyKind prog w qW where
 is:=ck5
 hash:=dn9 w
 inj:=λv a b ha hb=>by
  rcases gJ ha with⟨i,t,rfl,rfl⟩|⟨x,t,rfl,rfl⟩
  . rcases gJ hb with⟨j,u,rfl,e⟩|⟨y,u,rfl,e⟩
    . injection e with e1 _;rw[e1]
    . exact nomatch e
  . rcases gJ hb with⟨j,u,rfl,e⟩|⟨y,u,rfl,e⟩
    . exact nomatch e
    . injection e with e1 _;rw[e1]
 byValue:=λk v h=>by
  rcases gJ h with⟨i,t,rfl,rfl⟩|⟨x,t,rfl,rfl⟩<;>rfl
 pyHash:=λhv h=>by
  rcases gJ hv with⟨i,t,rfl,rfl⟩|⟨x,t,rfl,rfl⟩
  . exact wpAny_pyHash_int h
  . exact wpAny_pyHash_str h
 eqBool:=λhu hv h=>by
  rcases gJ hu with⟨i,t,rfl,rfl⟩|⟨x,t,rfl,rfl⟩
  . rcases gJ hv with⟨j,u,rfl,rfl⟩|⟨y,u,rfl,rfl⟩
    . rw[dt3]at h;exact wpAny_eqBool_int h
    . rw[df4]at h;exact SeqAt.EqAt.int_str i t y u _ _ _ _ h
  . rcases gJ hv with⟨j,u,rfl,rfl⟩|⟨y,u,rfl,rfl⟩
    . rw[dg2]at h;exact SeqAt.EqAt.str_int x t j u _ _ _ _ h
    . rw[dm0]at h;exact wpAny_eqBool_str h
 «strs»:=λk x t v h=>by
  rcases gJ h with⟨i,u,rfl,e⟩|⟨y,u,rfl,e⟩
  . exact nomatch e
  . injection e with e1 _
    subst e1
    cases v<;>rfl
end L2
namespace L2
open PySem PySem.Spec PyProof.Rows
inductive V where
 |non|bl (b:Bool)|int (i:Int)|str (x:Str)|byt (b:Array UInt8)|flt (b:UInt64)|ref (a:Addr)|ty (n:String)
 deriving DecidableEq
def RelV:V->Value->Prop
 |.non,u=>u=Value.none
 |.bl b,u=>u=Value.bool b
 |.int i,u=>∃t,u=Value.int i t
 |.str x,u=>∃t,u=Value.str x t
 |.byt b,u=>∃t,u=Value.bytes b t
 |.flt b,u=>∃t,u=Value.float b t
 |.ref a,u=>u=Value.ref a
 |.ty n,u=>u=Value.type n
abbrev Vals:List V->List Value->Prop:=Paired RelV
theorem Vals.length(r:Vals xs us):xs.length=us.length:=Paired.length r
theorem Vals.get:∀{xs:List V}{us:List Value}{i:Nat}{x:V},Vals xs us->xs[i]?=some x->∃u,us[i]?=some u/\RelV x u
 |_,_,_,_,.nil,e=>by simp at e
 |_,_,0,_,.cons r _,e=>by simp at e;subst e;exact⟨_,rfl,r⟩
 |_,_,i+1,x,.cons _ t,e=>by
  obtain⟨u,h1,h2⟩:=Vals.get (i:=i) (x:=x) t (by simpa using e)
  exact⟨u,by simpa using h1,h2⟩
theorem Vals.set(r:RelV x u):∀{xs:List V}{us:List Value}(i:Nat),Vals xs us->Vals (xs.set i x) (us.set i u)
 |_,_,_,.nil=>.nil
 |_,_,0,.cons _ t=>.cons r t
 |_,_,i+1,.cons q t=>.cons q (Vals.set r i t)
theorem Vals.append:∀{xs ys:List V}{us ws:List Value},Vals xs us->Vals ys ws->Vals (xs++ys) (us++ws)
 |_,_,_,_,.nil,s=>s
 |_,_,_,_,.cons r t,s=>.cons r (Vals.append t s)
theorem Vals.take:∀{xs:List V}{us:List Value}(n:Nat),Vals xs us->Vals (xs.take n) (us.take n)
 |_,_,0,_=>.nil
 |_,_,_+1,.nil=>.nil
 |_,_,n+1,.cons r t=>.cons r (Vals.take n t)
theorem Vals.drop:∀{xs:List V}{us:List Value}(n:Nat),Vals xs us->Vals (xs.drop n) (us.drop n)
 |_,_,0,r=>r
 |_,_,_+1,.nil=>.nil
 |_,_,n+1,.cons _ t=>Vals.drop n t
def RelO:Option V->Option Value->Prop
 |some v,some u=>RelV v u
 |none,none=>True
 |_,_=>False
def KV{κ:Type}:List (κ×V)->List (κ×Value)->Prop:=Paired λ(p:κ×V)(q:κ×Value)=>p.1=q.1/\RelV p.2 q.2
def kV:qW->V
 |.inl i=>.int i
 |.inr x=>.str x
inductive HO where
 |lst (xs:List V)
 |tup (xs:List V)
 |dK (kvs:List (qW×V))|dT (kvs:List (List qW×V))
 |set (S:Int->Bool) (n:Nat)
 |ins (C dx:Addr) (fs:List (Str×V))
 |own (x:Addr)
 |xd (fs:List (Str×V))
 |met (f x:Addr)
 |rng (lo hi:Int)
 |frz (o:Obj) (u:HO)
 |tbl (ps:Array Value)
 |ext (φ:Heap->Prop)
abbrev Hp:=Addr->Option HO
def upd(H:Hp)(a:Addr)(o:HO):Hp:=λb=>if b=a then some o else H b
theorem eD:upd H a o a=some o:=by unfold upd;rw[if_pos rfl]
theorem cH(h:b≠a):upd H a o b=H b:=by unfold upd;rw[if_neg h]
theorem gK{H:Hp}{a b:Addr}{o:HO}(h:H a=some o)(h':H b=none):a≠b:=by
 intro e;subst e;rw[h]at h';cases h'
section
variable (P : Program) (w : World)
def ObjOk(H:Hp)(h:Heap)(a:Addr):HO->Prop
 |.lst xs=>xs.length<=sizeLine/\∃(its:List Value)(n:Nat),Vals xs its/\h.get? a=some {cls:=.type "list",data:=.seq its.toArray n}
 |.tup xs=>xs.length<=sizeLine/\∃its:List Value,Vals xs its/\IsTup h a its.toArray
 |.dK kvs=>kvs.length<=sizeLine/\(a==sysModules)=false/\∃vs,KV kvs vs/\h.DictOf (ag4 P w) a vs
 |.dT kvs=>kvs.length<=sizeLine/\(a==sysModules)=false/\∃xs:List (List qW×Addr×Value),
  Paired (λ(p:List qW×V)(q:List qW×Addr×Value)=>p.1=q.1/\H q.2.1=some (.tup (p.1.map kV))/\RelV p.2 q.2.2) kvs xs/\
  ∃o es ep,h.get? a=some o/\o.ExactDict/\o.data=.dict es ep/\es.toList=xs.map (entryOfKey (tupleKind (ag4 P w)))/\(xs.map (·.1)).Nodup
 |.set S n=>h.SetOf (intKind P w) a S n
 |.ins C dx fs=>H dx=some (.own a)/\fs.length<=1000/\dx≠a/\h.get? a=some (PySem.W.instObj C dx)/\
  ∃mA,h.Ns1 dx mA/\(∀f,RelO (fs.lookup f) (mA f))/\PySem.Within mA (fs.map (·.1))
 |.own _=>∃o,h.get? a=some o
 |.xd fs=>∃mA,h.Ns1 a mA/\∀f,RelO (fs.lookup f) (mA f)
 |.rng lo hi=>∃t u v,h.get? a=some {cls:=.type "range",data:=.fields #[.int lo t,.int hi u,.int 1 v]}
 |.frz o u=>h.get? a=some o/\ObjOk H h a u
 |.tbl ps=>h.get? a=some {cls:=.none,data:=.fields ps}
 |.met f x=>h.get? a=some (PySem.W.methodObj (.ref f) (.ref x))
 |.ext φ=>φ h/\(∃o,h.get? a=some o)/\∀h1 h2:Heap,φ h1->(∀o,h1.get? a=some o->h2.get? a=some o)->φ h2
def HOk(H:Hp)(h:Heap):Prop:=∀a o,H a=some o->ObjOk P w H h a o
end
section
variable {P : Program} {w : World} {H H' : Hp} {h h' : Heap} {a : Addr} {o : HO}
theorem ObjOk.lt(x:ObjOk P w H h a o):a<h.objs.size:=by
 cases o with
 |lst xs=>obtain⟨_,_,_,_,e⟩:=x;exact Heap.lt_size e
 |tup xs=>obtain⟨_,_,_,p⟩:=x;exact p.lt
 |dK kvs=>obtain⟨_,_,_,_,o,_,_,e,_⟩:=x;exact Heap.lt_size e
 |dT kvs=>obtain⟨_,_,_,_,o,_,_,e,_⟩:=x;exact Heap.lt_size e
 |set S n=>obtain⟨o,_,_,_,e,_⟩:=x;exact Heap.lt_size e
 |ins C dx fs=>obtain⟨_,_,_,e,_⟩:=x;exact Heap.lt_size e
 |own y=>obtain⟨_,e⟩:=x;exact Heap.lt_size e
 |xd fs=>obtain⟨_,⟨_,_,_,e,_⟩,_⟩:=x;exact Heap.lt_size e
 |rng lo hi=>obtain⟨_,_,_,e⟩:=x;exact Heap.lt_size e
 |frz ob u=>obtain⟨e,_⟩:=x;exact Heap.lt_size e
 |tbl ps=>exact Heap.lt_size (show h.get? a=some _ from x)
 |met f y=>exact Heap.lt_size (show h.get? a=some _ from x)
 |ext φ=>obtain⟨_,⟨_,e⟩,_⟩:=x;exact Heap.lt_size e
theorem Paired.mapP:∀{l₁:List α}{l₂:List β},Paired F l₁ l₂->(∀a b,F a b->G a b)->Paired G l₁ l₂
 |_,_,.nil,_=>.nil
 |_,_,.cons r t,f=>.cons (f _ _ r) (Paired.mapP t f)
theorem ObjOk.stay(x:ObjOk P w H h a o)(k:∀b u,(b=a\/H b=some (.own a))->h.get? b=some u->h'.get? b=some u)
 (ho:∀b,H b=some (.own a)->H' b=some (.own a))(ht:∀b xs,H b=some (.tup xs)->H' b=some (.tup xs)):ObjOk P w H' h' a o:=by
 induction o with
 |lst xs=>obtain⟨z,its,n,r,e⟩:=x;exact⟨z,its,n,r,k _ _ (.inl rfl) e⟩
 |tup xs=>obtain⟨z,its,r,ob,e,c⟩:=x;exact⟨z,its,r,ob,k _ _ (.inl rfl) e,c⟩
 |dK kvs=>obtain⟨z,y,vs,r,ob,es,ep,e,c⟩:=x;exact⟨z,y,vs,r,ob,es,ep,k _ _ (.inl rfl) e,c⟩
 |dT kvs=>
  obtain⟨z,y,xs,r,ob,es,ep,e,c⟩:=x
  exact⟨z,y,xs,Paired.mapP r λp q z=>⟨z.1,ht _ _ z.2.1,z.2.2⟩,ob,es,ep,k _ _ (.inl rfl) e,c⟩
 |set S n=>obtain⟨ob,es,ep,t,e,c⟩:=x;exact⟨ob,es,ep,t,k _ _ (.inl rfl) e,c⟩
 |ins C dx fs=>
  obtain⟨d,z,ne,e,mA,⟨od,es,ep,e2,c⟩,r⟩:=x
  exact⟨ho _ d,z,ne,k _ _ (.inl rfl) e,mA,⟨od,es,ep,k _ _ (.inr d) e2,c⟩,r⟩
 |own y=>obtain⟨ob,e⟩:=x;exact⟨ob,k _ _ (.inl rfl) e⟩
 |xd fs=>obtain⟨mA,⟨od,es,ep,e,c⟩,r⟩:=x;exact⟨mA,⟨od,es,ep,k _ _ (.inl rfl) e,c⟩,r⟩
 |rng lo hi=>obtain⟨t,u,v,e⟩:=x;exact⟨t,u,v,k _ _ (.inl rfl) e⟩
 |frz ob u ih=>obtain⟨e,q⟩:=x;exact⟨k _ _ (.inl rfl) e,ih q⟩
 |tbl ps=>
  have e:h.get? a=some {cls:=.none,data:=.fields ps}:=x
  show h'.get? a=some {cls:=.none,data:=.fields ps}
  exact k a _ (.inl rfl) e
 |met f y=>
  have e:h.get? a=some (PySem.W.methodObj (.ref f) (.ref y)):=x
  show h'.get? a=some (PySem.W.methodObj (.ref f) (.ref y))
  exact k a _ (.inl rfl) e
 |ext φ=>obtain⟨p,⟨o,e⟩,st⟩:=x;exact⟨st _ _ p λo q=>k _ _ (.inl rfl) q,⟨o,k _ _ (.inl rfl) e⟩,st⟩
theorem HOk.lt(x:HOk P w H h)(e:H a=some o):a<h.objs.size:=(x a o e).lt
theorem HOk.fresh(x:HOk P w H h)(e:h.objs.size<=a):H a=none:=by
 cases q:H a with
 |none=>rfl
 |some u=>exact absurd (Nat.lt_of_lt_of_le (x.lt q) e) (Nat.lt_irrefl _)
theorem HOk.kept(x:HOk P w H h)(k:∀b u,h.get? b=some u->h'.get? b=some u):HOk P w H h':=λa o e=>
 (x a o e).stay (λb u _ q=>k b u q) (λ_ q=>q) λ_ _ q=>q
theorem HOk.laid(x:HOk P w H h)(k:∀b u,h.get? b=some u->h'.get? b=some u)(hp:h.objs.size<=a)(new:ObjOk P w (upd H a o) h' a o):HOk P w (upd H a o) h':=λb u e=>by
 have hn:=x.fresh hp
 by_cases hb:b=a
 . subst hb;rw[eD]at e;cases e;exact new
 . rw[cH hb]at e
   exact(x b u e).stay (λc v _ q=>k c v q) (λc q=>by rw[cH (gK q hn)];exact q) λc xs q=>by rw[cH (gK q hn)];exact q
end
def Rd(H:Hp)(a:Addr)(u:HO):Prop:=H a=some u\/∃o,H a=some (.frz o u)
theorem Rd.ok(r:Rd H a u)(x:HOk P w H h):ObjOk P w H h a u:=by
 rcases r with r|⟨o,r⟩
 . exact x a u r
 . obtain⟨_,q⟩:=x a _ r
   exact q
def Mut:Option HO->Prop
 |some (.lst _)=>True
 |some (.dK _)=>True
 |some (.dT _)=>True
 |some (.set _ _)=>True
 |some (.ins _ _ _)=>True
 |some (.ext _)=>True
 |_=>False
section
variable {P : Program} {w : World} {H : Hp} {h h' : Heap} {x e : Addr} {o' : HO}
theorem HOk.write(ok:HOk P w H h)(mu:Mut (H x))(he:e=x\/H e=some (.own x))(k:∀b u,b≠e->h.get? b=some u->h'.get? b=some u)(heo:∃u,h'.get? e=some u)
 (new:ObjOk P w (upd H x o') h' x o'):HOk P w (upd H x o') h':=λb u q=>by
 have nown:∀c y,H c=some (.own y)->c≠x:=λc y r z=>by subst z;rw[r]at mu;exact mu
 have ntup:∀c xs,H c=some (.tup xs)->c≠x:=λc xs r z=>by subst z;rw[r]at mu;exact mu
 by_cases hb:b=x
 . subst hb;rw[eD]at q;cases q;exact new
 . rw[cH hb]at q
   by_cases hbe:b=e
   . have q':H b=some (.own x):=by
      rcases he with z|z
      . exact absurd (hbe.trans z) hb
      . rw[hbe];exact z
     rw[q]at q';cases q'
     obtain⟨v,hv⟩:=heo
     exact⟨v,by rw[hbe];exact hv⟩
   . refine(ok b u q).stay (λc v hc r=>k c v ?_ r) (λc r=>by rw[cH (nown c b r)];exact r) λc xs r=>by rw[cH (ntup c xs r)];exact r
     rcases hc with rfl|hc
     . exact hbe
     . rintro rfl
       rcases he with z|z
       . exact nown c b hc z
       . rw[hc]at z;cases z;exact hb rfl
end
structure Un (fs ex:List Addr) (H H':Hp) (h h':Heap):Prop where
 keep:∀b o,h.get? b=some o->H b=none->b∉fs->b∉ex->h'.get? b=some o
 slot:∀b o,h.get? b=some o->H b=none->b∈fs->b∉ex->∃sl,h'.get? b=some {o with slots:=sl}
 free:∀b o,h.get? b=some o->H b=none->b∉ex->H' b=none
 there:∀b o,h.get? b=some o->b∉ex->∃o',h'.get? b=some o'
 tups:∀b xs,H b=some (.tup xs)->H' b=some (.tup xs)
 frzs:∀b o u,H b=some (.frz o u)->H' b=some (.frz o u)
 tbls:∀b ps,H b=some (.tbl ps)->∃more,H' b=some (.tbl (ps++more))
section
variable {fs fs' ex ex' : List Addr} {H H1 H2 : Hp} {h h1 h2 h' : Heap} {a x e : Addr} {o : HO}
theorem Un.any(u:Un fs ex H H1 h h1)(q:h.get? b=some ob)(n:H b=none)(hx:b∉ex):∃sl,h1.get? b=some {ob with slots:=sl}:=by
 by_cases hb:b∈fs
 . exact u.slot b ob q n hb hx
 . exact⟨ob.slots,u.keep b ob q n hb hx⟩
theorem Un.kept(k:∀b u,h.get? b=some u->h'.get? b=some u):Un fs ex H H h h':=
 ⟨λb ob q _ _ _=>k b ob q,λb ob q _ _ _=>⟨ob.slots,k b ob q⟩,λ_ _ _ n _=>n,λb ob q _=>⟨ob,k b ob q⟩,λ_ _ q=>q,λ_ _ _ q=>q,λ_ ps q=>⟨#[],by rw[q];simp⟩⟩
theorem Un.refl:Un fs ex H H h h:=Un.kept λ_ _ q=>q
theorem Un.laid(k:∀b u,h.get? b=some u->h'.get? b=some u)(hp:h.objs.size<=a)(hn:H a=none):Un fs ex H (upd H a o) h h' where
 keep:=λb u q _ _ _=>k b u q
 slot:=λb u q _ _ _=>⟨u.slots,k b u q⟩
 free:=λb u q n _=>by rw[cH (Nat.ne_of_lt (Nat.lt_of_lt_of_le (Heap.lt_size q) hp))];exact n
 there:=λb u q _=>⟨u,k b u q⟩
 tups:=λb xs q=>by rw[cH (gK q hn)];exact q
 frzs:=λb u xs q=>by rw[cH (gK q hn)];exact q
 tbls:=λb ps q=>⟨#[],by rw[cH (gK q hn),q];simp⟩
theorem Un.write(mu:Mut (H x))(he:e=x\/H e=some (.own x))(k:∀b u,b≠e->h.get? b=some u->h'.get? b=some u)(heo:∃u,h'.get? e=some u):Un fs ex H (upd H x o) h h':=by
 have hx:∀b,H b=none->b≠x:=λb n z=>by subst z;rw[n]at mu;exact mu
 have hb:∀b,H b=none->b≠e:=λb n z=>by
  subst z
  rcases he with r|r
  . exact hx b n r
  . rw[n]at r;cases r
 have hm:∀b u,H b=some u->¬Mut (some u)->b≠x:=λb u q nm z=>by subst z;rw[q]at mu;exact nm mu
 refine⟨λb u q n _ _=>k b u (hb b n) q,λb u q n _ _=>⟨u.slots,k b u (hb b n) q⟩,λb u q n _=>by rw[cH (hx b n)];exact n,λb u q _=>?_,
  λb xs q=>by rw[cH (hm b _ q λz=>z)];exact q,λb u xs q=>by rw[cH (hm b _ q λz=>z)];exact q,λb ps q=>⟨#[],by rw[cH (hm b _ q λz=>z),q];simp⟩⟩
 by_cases hbe:b=e
 . subst hbe;exact heo
 . exact⟨u,k b u hbe q⟩
end
def trk(h:Heap)(H:Hp):List Addr:=(List.range h.objs.size).filter λa=>(H a).isSome
def vQ(h:Heap)(H:Hp):Heap:=PySem.W.hideAll h (trk h H)
theorem ca0(h:Heap)(H:Hp):(vQ h H).objs.size=h.objs.size:=PySem.W.hideAll_size _ _
theorem cg1(e:h.get? b=some o)(n:H b=none):(vQ h H).get? b=some o:=
 PySem.W.hideAll_get _ e λhm=>by
  have q:(H b).isSome=true:=(List.mem_filter.mp hm).2
  rw[n]at q;simp at q
theorem cn8(e:(vQ h H).get? b=some o):h.get? b=some o/\H b=none:=by
 have e':h.get? b=some o:=PySem.W.of_hideAll (trk h H) e
 refine⟨e',?_⟩
 cases q:H b with
 |none=>rfl
 |some x=>
  have hm:b∈trk h H:=List.mem_filter.mpr ⟨List.mem_range.mpr (Heap.lt_size e'),by simp[q]⟩
  have z:(vQ h H).get? b=none:=PySem.W.hideAll_none (trk h H) hm
  rw[z]at e;cases e
end L2
namespace L2
open PySem PySem.Spec PyProof.Rows
structure Mod (K:PySem.W.Frag) (mg:Str->Option Value) (base:Heap):Prop where
 kin:K.In base
 glob:base.Ns mainGlobals mg
 blt:∃mb,base.Ns builtinsNs mb/\∀x:Str,x≠"__name__"->mb x=bootBuiltins x
 nolimit:base.NoLimit
structure Cx where
 prog:Program
 w:World
 K:PySem.W.Frag
 mg:Str->Option Value
 base:Heap
 A:Around
 N:List Str
 s₀:Shared
 H₀:Hp
 env:Env
 outer:List Env
 stack:List Env
 ex:List Addr
 fn:Str->Bool
 calm:Bool
 pn:List (Addr×Obj)
 xe:Value->Shared->Prop
def uW(l:List Env):List Addr:=l.filterMap (·.frame)
abbrev Cx.fs(X:Cx):List Addr:=uW X.outer
def Vis(sc:Scope)(x:Str):Prop:=sc.names.lookup x=some .local\/sc.names.lookup x=some .cell\/sc.names.lookup x=some .free
def Loc(sc:Scope)(x:Str):Prop:=sc.names.lookup x=some .local\/sc.names.lookup x=some .cell
def df9(env:Env)(h:Heap)(m:Str->Option Value)(x:Str)(u:Value):Prop:=
 (env.kindOf x=some .local/\m x=some u)\/((env.kindOf x=some .cell\/env.kindOf x=some .free)/\∃c,env.cells.lookup x=some c/\h.IsCell c (some u))
structure Cx.Ok (X:Cx):Prop where
 mod:Mod X.K X.mg X.base
 kind:X.env.scope.kind=.function
 glob:X.env.globals=mainGlobals
 blt:X.env.builtins=builtinsNs
 above:X.s₀.heap.objs.size<=X.env.locals
 inj:∀x y c,X.env.cells.lookup x=some c->X.env.cells.lookup y=some c->x=y
 has:∀x,(X.env.kindOf x=some .cell\/X.env.kindOf x=some .free)->∃c,X.env.cells.lookup x=some c
 cab:∀x c,X.fn x=true->X.env.cells.lookup x=some c->X.s₀.heap.objs.size<=c
 hd:X.calm=true->X.A.handled=none
 frames:X.A.frames=some X.stack
 stk:X.stack=X.outer\/(X.stack=X.env::X.outer/\X.env.frame=some X.env.locals)
 exf:∀b∈X.ex,b≠X.env.locals/\∀x c,X.env.cells.lookup x=some c->c≠b
 bs:∀b o,X.base.get? b=some o->X.s₀.heap.get? b=some o/\X.H₀ b=none
 bsz:X.base.objs.size<=X.s₀.heap.objs.size
 noex:∀b o,X.base.get? b=some o->b∉X.ex
 exfs:∀b∈X.ex,b∉X.fs
 funs:X.s₀.heap.FunFrames X.base X.outer
 frf:∀b∈X.fs,X.H₀ b=none
structure Inv (X:Cx) (pins:List (Addr×Obj)) (σ:List (Option V)) (H:Hp) (s:Shared):Prop where
 ok:X.Ok
 os:s.os=X.s₀.os
 bare:AllBare s.gens
 base:Un X.fs X.ex X.H₀ H X.s₀.heap s.heap
 loc:∃m,s.heap.Ns X.env.locals m/\∀(i:Nat)(x:Str)(v:V),X.N[i]?=some x->σ[i]?=some (some v)->Vis X.env.scope x->∃u,RelV v u/\df9 X.env s.heap m x u
 cell:∀x c,X.env.cells.lookup x=some c->∃v,s.heap.IsCell c v
 free:H X.env.locals=none
 freeC:∀x c,X.env.cells.lookup x=some c->H c=none
 pin:∀p∈X.pn++pins,s.heap.get? p.1=some p.2/\H p.1=none/\p.1≠X.env.locals/\p.1∉X.fs/\∀v,p.2.data≠ .cell v
 hok:HOk X.prog X.w H s.heap
 len:σ.length=X.N.length
section
variable {X : Cx} {pins : List (Addr × Obj)} {σ : List (Option V)} {H H' : Hp} {s : Shared} {h' : Heap}
theorem Cx.Ok.nofr(ok:X.Ok)(e:X.base.get? b=some o):b∉X.fs:=λhb=>by
 have:=(ok.funs.mem hb).1
 rw[e]at this;cases this
theorem Inv.bs(I:Inv X pins σ H s):∀b o,X.base.get? b=some o->s.heap.get? b=some o/\H b=none:=λb o e=>
 ⟨I.base.keep b o (I.ok.bs b o e).1 (I.ok.bs b o e).2 (I.ok.nofr e) (I.ok.noex b o e),I.base.free b o (I.ok.bs b o e).1 (I.ok.bs b o e).2 (I.ok.noex b o e)⟩
theorem Inv.bk(I:Inv X pins σ H s):∀b o,X.base.get? b=some o->s.heap.get? b=some o:=λb o e=>(I.bs b o e).1
theorem Inv.mod(I:Inv X pins σ H s):Mod X.K X.mg X.base:=I.ok.mod
theorem Inv.kIn(I:Inv X pins σ H s):X.K.In s.heap:=I.ok.mod.kin.keeps I.bk
theorem Inv.fr(I:Inv X pins σ H s):∃m,Fr X.base X.env.locals s.heap m:=
 let⟨m,hn,_⟩:=I.loc
 ⟨m,hn,I.bk,Nat.le_trans I.ok.bsz I.ok.above⟩
theorem Inv.lt(I:Inv X pins σ H s):X.env.locals<s.heap.objs.size:=let⟨_,hn,_⟩:=I.loc;hn.lt
theorem Inv.sz(I:Inv X pins σ H s):X.s₀.heap.objs.size<=s.heap.objs.size:=Nat.le_trans I.ok.above (Nat.le_of_lt I.lt)
theorem Inv.nofs(I:Inv X pins σ H s)(h:s.heap.objs.size<=a):a∉X.fs:=λhb=>by
 obtain⟨_,o,ho,_⟩:=I.ok.funs.mem hb
 exact absurd (Nat.lt_of_lt_of_le (Heap.lt_size ho) (Nat.le_trans I.sz h)) (Nat.lt_irrefl _)
theorem Inv.cne(I:Inv X pins σ H s):∀x c,X.env.cells.lookup x=some c->c≠X.env.locals:=λx c e z=>by
 obtain⟨v,o,ho,hd⟩:=I.cell x c e
 obtain⟨m,⟨o',es,ep,ho',hd',_⟩,_⟩:=I.loc
 rw[z,ho']at ho;cases ho;rw[hd']at hd;cases hd
theorem Inv.funs(I:Inv X pins σ H s):s.heap.FunFrames X.base X.outer:=by
 have all:∀(l:List Env),(∀b∈uW l,b∈X.fs)->X.s₀.heap.FunFrames X.base l->s.heap.FunFrames X.base l:=by
  intro l
  induction l with
  |nil=>intro _ _;trivial
  |cons env r ih=>
   intro hs hl
   obtain⟨hk,⟨L,o,hf,hn,ho,hd⟩,hr⟩:=hl
   have hL:L∈X.fs:=hs L (by unfold uW;rw[List.filterMap_cons,hf];exact List.mem_cons_self)
   obtain⟨sl,e⟩:=I.base.slot L o ho (I.ok.frf L hL) hL λz=>I.ok.exfs L z hL
   exact⟨hk,⟨L,_,hf,hn,e,hd⟩,ih (λb hb=>hs b (by unfold uW;rw[List.filterMap_cons,hf];exact List.mem_cons_of_mem _ hb)) hr⟩
 exact all X.outer (λ_ hb=>hb) I.ok.funs
theorem Inv.stack(I:Inv X pins σ H s):s.heap.FunFrames X.base X.stack:=by
 rcases I.ok.stk with e|⟨e,hf⟩
 . rw[e];exact I.funs
 . rw[e]
   obtain⟨m,hn,_⟩:=I.loc
   refine .cons (by rw[I.ok.kind];decide) hf hn ?_ I.funs
   exact Heap.get?_none_of_le (Nat.le_trans I.ok.bsz I.ok.above)
theorem Inv.stkSub(I:Inv X pins σ H s):∀b∈uW X.stack,b∈X.env.locals::X.fs:=λb hb=>by
 rcases I.ok.stk with e|⟨e,hf⟩
 . rw[e]at hb;exact List.mem_cons_of_mem _ hb
 . rw[e]at hb
   unfold uW at hb
   rw[List.filterMap_cons,hf]at hb
   exact hb
theorem Inv.stkFree(I:Inv X pins σ H s):∀b∈uW X.stack,H b=none:=λb hb=>by
 rcases List.mem_cons.mp (I.stkSub b hb)with e|hb
 . rw[e];exact I.free
 . obtain⟨_,o,ho,_⟩:=I.ok.funs.mem hb
   exact I.base.free b o ho (I.ok.frf b hb) λz=>I.ok.exfs b z hb
theorem Inv.step{g':Array GenState}{t':Nat}{d':Drawn}{ch:List Addr}(I:Inv X pins σ H s)
 (hch:∀b∈ch,(b∈X.ex\/X.s₀.heap.objs.size<=b)/\b≠X.env.locals/\(∀x c,X.env.cells.lookup x=some c->c≠b)/\∀p∈X.pn++pins,p.1≠b)
 (keep:∀b o,b≠X.env.locals->b∉X.fs->b∉ch->s.heap.get? b=some o->H b=none->h'.get? b=some o)
 (slot:∀b o,b≠X.env.locals->b∈X.fs->b∉ch->s.heap.get? b=some o->H b=none->∃sl,h'.get? b=some {o with slots:=sl})(free:∀b o,b∉ch->s.heap.get? b=some o->H b=none->H' b=none)
 (there:∀b o,b∉ch->s.heap.get? b=some o->∃o',h'.get? b=some o')
 (tups:∀b xs,H b=some (.tup xs)->H' b=some (.tup xs))(frzs:∀b o u,H b=some (.frz o u)->H' b=some (.frz o u))(tbls:∀b ps,H b=some (.tbl ps)->∃more,H' b=some (.tbl (ps++more)))
 (ns:∀m,s.heap.Ns X.env.locals m->h'.Ns X.env.locals m)(hok:HOk X.prog X.w H' h')(hg:AllBare g'):
 Inv X pins σ H' {s with heap:=h',gens:=g',drawn:=d',toks:=t'}:=by
 have neL:∀b o,X.s₀.heap.get? b=some o->b≠X.env.locals:=λb o e=>Nat.ne_of_lt (Nat.lt_of_lt_of_le (Heap.lt_size e) I.ok.above)
 have neC:∀b o,X.s₀.heap.get? b=some o->b∉X.ex->b∉ch:=λb o e hx hb=>by
  rcases(hch b hb).1 with z|z
  . exact hx z
  . exact absurd (Nat.lt_of_lt_of_le (Heap.lt_size e) z) (Nat.lt_irrefl _)
 have cellK:∀x c,X.env.cells.lookup x=some c->∀v,s.heap.IsCell c v->h'.IsCell c v:=λx c e v ⟨o,ho,hd⟩=>by
  have nch:c∉ch:=λz=>(hch c z).2.2.1 x c e rfl
  by_cases hc:c∈X.fs
  . obtain⟨sl,q⟩:=slot c o (I.cne x c e) hc nch ho (I.freeC x c e)
    exact⟨_,q,hd⟩
  . exact⟨o,keep c o (I.cne x c e) hc nch ho (I.freeC x c e),hd⟩
 refine⟨I.ok,I.os,hg,⟨λb o e n hb hx=>?_,λb o e n hb hx=>?_,λb o e n hx=>?_,λb o e hx=>?_,λb xs e=>tups b xs (I.base.tups b xs e),λb o xs e=>frzs b o xs (I.base.frzs b o xs e),λb ps e=>?_⟩,?_,λx c e=>?_,?_,λx c e=>?_,λp hp=>?_,hok,I.len⟩
 . exact keep b o (neL b o e) hb (neC b o e hx) (I.base.keep b o e n hb hx) (I.base.free b o e n hx)
 . obtain⟨sl,e1⟩:=I.base.slot b o e n hb hx
   obtain⟨sl',e2⟩:=slot b _ (neL b o e) hb (neC b o e hx) e1 (I.base.free b o e n hx)
   exact⟨sl',e2⟩
 . obtain⟨o',e1⟩:=I.base.there b o e hx
   exact free b o' (neC b o e hx) e1 (I.base.free b o e n hx)
 . obtain⟨o',e1⟩:=I.base.there b o e hx
   exact there b o' (neC b o e hx) e1
 . obtain⟨m1,e1⟩:=I.base.tbls b ps e
   obtain⟨m2,e2⟩:=tbls b _ e1
   exact⟨m1++m2,by rw[e2,Array.append_assoc]⟩
 . obtain⟨m,hn,hl⟩:=I.loc
   refine⟨m,ns m hn,λi x v e1 e2 e3=>?_⟩
   obtain⟨u,r,l⟩:=hl i x v e1 e2 e3
   refine⟨u,r,?_⟩
   rcases l with l|⟨k,c,e,z⟩
   . exact .inl l
   . exact .inr ⟨k,c,e,cellK x c e _ z⟩
 . obtain⟨v,z⟩:=I.cell x c e
   exact⟨v,cellK x c e v z⟩
 . obtain⟨m,⟨o,_,_,ho,_⟩,_⟩:=I.loc
   exact free _ o (λz=>(hch _ z).2.1 rfl) ho I.free
 . obtain⟨v,o,ho,hd⟩:=I.cell x c e
   exact free c o (λz=>(hch c z).2.2.1 x c e rfl) ho (I.freeC x c e)
 . obtain⟨e,n,ne,nf,d⟩:=I.pin p hp
   have nch:p.1∉ch:=λz=>(hch p.1 z).2.2.2 p hp rfl
   exact⟨keep p.1 p.2 ne nf nch e n,free p.1 p.2 nch e n,ne,nf,d⟩
theorem Inv.un{t':Nat}(I:Inv X pins σ H s)(u:Un X.fs [] H H' s.heap h')(hok:HOk X.prog X.w H' h'):Inv X pins σ H' {s with heap:=h',toks:=t'}:=by
 obtain⟨m,⟨o,es,ep,ho,r⟩,_⟩:=id I.loc
 obtain⟨sl,hL⟩:=u.any ho I.free (by simp)
 exact I.step (g':=s.gens) (d':=s.drawn) (ch:=[]) (λ_ z=>nomatch z) (λb o _ hb _ e n=>u.keep b o e n hb (by simp)) (λb o _ hb _ e n=>u.slot b o e n hb (by simp)) (λb o _ e n=>u.free b o e n (by simp)) (λb o _ e=>u.there b o e (by simp)) u.tups u.frzs u.tbls (λm' hm=>by
  obtain⟨o',es',ep',ho',r'⟩:=hm
  rw[ho]at ho';cases ho'
  exact⟨_,es',ep',hL,r'⟩) hok I.bare
theorem Inv.call{g':Array GenState}{t':Nat}{d':Drawn}{ch:List Addr}(I:Inv X pins σ H s)(u:Un (uW X.stack) ch H H' s.heap h')(hok:HOk X.prog X.w H' h')(hg:AllBare g')
 (hch:∀b∈ch,(b∈X.ex\/X.s₀.heap.objs.size<=b)/\b≠X.env.locals/\(∀x c,X.env.cells.lookup x=some c->c≠b)/\∀p∈X.pn++pins,p.1≠b):
 Inv X pins σ H' {s with heap:=h',gens:=g',drawn:=d',toks:=t'}:=by
 obtain⟨m,⟨o,es,ep,ho,r⟩,_⟩:=id I.loc
 obtain⟨sl,hL⟩:=u.any ho I.free λz=>(hch _ z).2.1 rfl
 exact I.step (ch:=ch) hch (λb o hL hb hc e n=>u.keep b o e n (λz=>(List.mem_cons.mp (I.stkSub b z)).elim hL hb) hc) (λb o _ _ hc e n=>u.any e n hc) (λb o hc e n=>u.free b o e n hc) (λb o hc e=>u.there b o e hc) u.tups u.frzs u.tbls (λm' hm=>by
  obtain⟨o',es',ep',ho',r'⟩:=hm
  rw[ho]at ho';cases ho'
  exact⟨_,es',ep',hL,r'⟩) hok hg
theorem Inv.turned{t':Nat}{it:Addr}(I:Inv X pins σ H s)(k:∀b o,b≠it->s.heap.get? b=some o->h'.get? b=some o)(hn:H it=none)(hL:it≠X.env.locals)
 (h1:it∈X.ex\/X.s₀.heap.objs.size<=it)(h2:∀x c,X.env.cells.lookup x=some c->c≠it)(h3:∀p∈X.pn++pins,p.1≠it):Inv X pins σ H {s with heap:=h',toks:=t'}:=by
 have nit:∀b u,H b=some u->b≠it:=λb u e z=>by rw[z,hn]at e;cases e
 refine I.step (g':=s.gens) (d':=s.drawn) (ch:=[it]) (λb hb=>?_) (λb o _ _ hc e _=>k b o (λz=>hc (by simp[z])) e) (λb o _ _ hc e _=>⟨o.slots,k b o (λz=>hc (by simp[z])) e⟩) (λ_ _ _ _ n=>n)
  (λb o hc e=>⟨o,k b o (λz=>hc (by simp[z])) e⟩) (λ_ _ e=>e) (λ_ _ _ e=>e) (λb ps e=>⟨#[],by rw[e];simp⟩) (λm hm=>?_) (λb u e=>?_) I.bare
 . have e:b=it:=by simpa using hb
   subst e
   exact⟨h1,hL,h2,h3⟩
 . obtain⟨o,es,ep,ho,r⟩:=hm
   exact⟨o,es,ep,k _ o (Ne.symm hL) ho,r⟩
 . refine(I.hok b u e).stay (λc v hc q=>k c v ?_ q) (λ_ q=>q) λ_ _ q=>q
   rcases hc with z|z
   . rw[z];exact nit b u e
   . exact nit c _ z
theorem Inv.tok(I:Inv X pins σ H s)(t:Nat):Inv X pins σ H {s with toks:=t}:=I.un (h':=s.heap) (t':=t) Un.refl I.hok
theorem Inv.kept(I:Inv X pins σ H s)(k:∀b u,s.heap.get? b=some u->h'.get? b=some u):Inv X pins σ H {s with heap:=h',toks:=t'}:=I.un (Un.kept k) (I.hok.kept k)
theorem Inv.laid(I:Inv X pins σ H s)(k:∀b u,s.heap.get? b=some u->h'.get? b=some u)(hp:s.heap.objs.size<=a)(new:ObjOk X.prog X.w (upd H a o) h' a o):
 Inv X pins σ (upd H a o) {s with heap:=h',toks:=t'}:=I.un (Un.laid k hp (I.hok.fresh hp)) (I.hok.laid k hp new)
theorem Inv.write(I:Inv X pins σ H s)(mu:Mut (H x))(he:e=x\/H e=some (.own x))(k:∀b u,b≠e->s.heap.get? b=some u->h'.get? b=some u)(heo:∃u,h'.get? e=some u)
 (new:ObjOk X.prog X.w (upd H x o) h' x o):Inv X pins σ (upd H x o) {s with heap:=h',toks:=t'}:=I.un (Un.write mu he k heo) (I.hok.write mu he k heo new)
theorem Inv.weak(I:Inv X pins σ H s)(hl:σ'.length=σ.length)(w:∀(i:Nat) v,σ'[i]?=some (some v)->σ[i]?=some (some v)):Inv X pins σ' H s:=
 ⟨I.ok,I.os,I.bare,I.base,let⟨m,hn,hl'⟩:=I.loc;⟨m,hn,λi x v e1 e2 e3=>hl' i x v e1 (w i v e2) e3⟩,I.cell,I.free,I.freeC,I.pin,I.hok,hl.trans I.len⟩
theorem Inv.pins_of(I:Inv X pins σ H s)(h:∀p∈pins',s.heap.get? p.1=some p.2/\H p.1=none/\p.1≠X.env.locals/\p.1∉X.fs/\∀v,p.2.data≠ .cell v):Inv X pins' σ H s:=
 ⟨I.ok,I.os,I.bare,I.base,I.loc,I.cell,I.free,I.freeC,λp hp=>(List.mem_append.mp hp).elim (λz=>I.pin p (List.mem_append_left _ z)) (h p),I.hok,I.len⟩
theorem bj0{N:List Str}(hN:N.Nodup){i j:Nat}{x:Str}(a:N[i]?=some x)(b:N[j]?=some x):i=j:=by
 obtain⟨h1,e1⟩:=List.getElem?_eq_some_iff.mp a
 obtain⟨h2,e2⟩:=List.getElem?_eq_some_iff.mp b
 exact(List.getElem_inj hN).mp (e1.trans e2.symm)
theorem af7 {M : Model} {A : Around} {E : Value → Shared → Prop} {i : Nat} {x : Str} {v : V} {u : Value} {Q : Unit → Shared → Prop} (I : Inv X pins σ H s) (hN : X.N.Nodup) (hi : X.N[i]? = some x) (hx : Loc X.env.scope x) (r : RelV v u)
    (h : ∀ s', Inv X pins (σ.set i (some v)) H s' → (∃ a, Heap.SameBut a s.heap s'.heap ∧ (a = X.env.locals ∨ X.env.cells.lookup x = some a)) → Q () s') (hf : X.fn x = true ∨ X.env.scope.names.lookup x = some .local := by first | exact .inl rfl | exact .inr rfl | assumption) : wpAny M A (storeName X.env x u) Q E s := by
  obtain ⟨m, hn, hl⟩ := id I.loc
  have hcls : (X.env.scope.kind == .class || (X.env.scope.kind == .module && X.env.locals != X.env.globals)) = false := by rw [I.ok.kind]; rfl
  have hiσ : i < σ.length := by rw [I.len]; exact (List.getElem?_eq_some_iff.mp hi).1
  have cne := I.cne
  have tracked : ∀ {a : Addr} {h' : Heap}, (∃ o, s.heap.get? a = some o ∧ H a = none) → Heap.SameBut a s.heap h' → HOk X.prog X.w H h' := fun {a h'} ha hs b ob e => by
    obtain ⟨_, _, hfree⟩ := ha
    refine (I.hok b ob e).stay (fun c w' hc q => (hs.2 c ?_).trans q) (fun _ q => q) fun _ _ q => q
    rintro rfl
    rcases hc with rfl | hc
    · rw [hfree] at e; cases e
    · rw [hfree] at hc; cases hc
  rcases hx with hk | hk
  · refine wpAny_storeName_local hk hn (fun h' hn' hs => ?_) hcls
    obtain ⟨oL, _, _, hoL, _⟩ := id hn
    refine h _ ⟨I.ok, I.os, I.bare, ⟨fun b o e n hb hx => ?_, fun b o e n hb hx => ?_, I.base.free, fun b o e hx => ?_, I.base.tups, I.base.frzs, I.base.tbls⟩, ⟨_, hn', fun j y v' e1 e2 e3 => ?_⟩, fun y c e => ?_, I.free, I.freeC, fun p hp => ?_, tracked ⟨oL, hoL, I.free⟩ hs, by simpa using I.len⟩ ⟨_, hs, .inl rfl⟩
    · exact (hs.2 b (Nat.ne_of_lt (Nat.lt_of_lt_of_le (Heap.lt_size e) I.ok.above))).trans (I.base.keep b o e n hb hx)
    · obtain ⟨sl, e1⟩ := I.base.slot b o e n hb hx
      exact ⟨sl, (hs.2 b (Nat.ne_of_lt (Nat.lt_of_lt_of_le (Heap.lt_size e) I.ok.above))).trans e1⟩
    · obtain ⟨o', e1⟩ := I.base.there b o e hx
      exact ⟨o', (hs.2 b (Nat.ne_of_lt (Nat.lt_of_lt_of_le (Heap.lt_size e) I.ok.above))).trans e1⟩
    · by_cases hj : j = i
      · subst hj
        rw [hi] at e1; cases e1
        rw [List.getElem?_set_self hiσ] at e2
        cases e2
        exact ⟨u, r, .inl ⟨hk, by simp⟩⟩
      · rw [List.getElem?_set_ne (Ne.symm hj)] at e2
        obtain ⟨u', r', q⟩ := hl j y v' e1 e2 e3
        refine ⟨u', r', ?_⟩
        rcases q with ⟨k, e⟩ | ⟨k, c, e, z⟩
        · refine .inl ⟨k, ?_⟩
          have : y ≠ x := fun e => hj (bj0 hN e1 (e ▸ hi))
          simp [this, e]
        · exact .inr ⟨k, c, e, z.sameBut hs (cne y c e)⟩
    · obtain ⟨w', z⟩ := I.cell y c e
      exact ⟨w', z.sameBut hs (cne y c e)⟩
    · obtain ⟨e, n, ne, nf, d⟩ := I.pin p hp
      exact ⟨(hs.2 p.1 ne).trans e, n, ne, nf, d⟩
  · have hfn : X.fn x = true := by
      rcases hf with z | z
      · exact z
      · rw [z] at hk; cases hk
    obtain ⟨c, hc⟩ := I.ok.has x (.inl hk)
    obtain ⟨w', z⟩ := I.cell x c hc
    refine wpAny_storeName_cell I.ok.kind hk hc z (fun h' hc' hs => ?_)
    obtain ⟨oc, hoc, hocd⟩ := id z
    refine h { s with heap := h' } ⟨I.ok, I.os, I.bare, ⟨fun b o e n hb hx => ?_, fun b o e n hb hx => ?_, I.base.free, fun b o e hx => ?_, I.base.tups, I.base.frzs, I.base.tbls⟩, ⟨m, hn.sameBut hs (Ne.symm (cne x c hc)), fun j y v' e1 e2 e3 => ?_⟩, fun y c' e => ?_, I.free, I.freeC, fun p hp => ?_, tracked ⟨oc, hoc, I.freeC x c hc⟩ hs, by simpa using I.len⟩ ⟨c, hs, .inr hc⟩
    · exact (hs.2 b (Nat.ne_of_lt (Nat.lt_of_lt_of_le (Heap.lt_size e) (I.ok.cab x c hfn hc)))).trans (I.base.keep b o e n hb hx)
    · obtain ⟨sl, e1⟩ := I.base.slot b o e n hb hx
      exact ⟨sl, (hs.2 b (Nat.ne_of_lt (Nat.lt_of_lt_of_le (Heap.lt_size e) (I.ok.cab x c hfn hc)))).trans e1⟩
    · obtain ⟨o', e1⟩ := I.base.there b o e hx
      exact ⟨o', (hs.2 b (Nat.ne_of_lt (Nat.lt_of_lt_of_le (Heap.lt_size e) (I.ok.cab x c hfn hc)))).trans e1⟩
    · by_cases hj : j = i
      · subst hj
        rw [hi] at e1; cases e1
        rw [List.getElem?_set_self hiσ] at e2
        cases e2
        exact ⟨u, r, .inr ⟨.inl hk, c, hc, hc'⟩⟩
      · rw [List.getElem?_set_ne (Ne.symm hj)] at e2
        obtain ⟨u', r', q⟩ := hl j y v' e1 e2 e3
        refine ⟨u', r', ?_⟩
        rcases q with q | ⟨k, c', e, z'⟩
        · exact .inl q
        · refine .inr ⟨k, c', e, z'.sameBut hs ?_⟩
          rintro rfl
          exact hj (bj0 hN e1 (I.ok.inj _ _ _ e hc ▸ hi))
    · by_cases hcc : c' = c
      · subst hcc; exact ⟨_, hc'⟩
      · obtain ⟨w2, z2⟩ := I.cell y c' e
        exact ⟨w2, z2.sameBut hs hcc⟩
    · obtain ⟨e, n, ne, nf, d⟩ := I.pin p hp
      refine ⟨(hs.2 p.1 ?_).trans e, n, ne, nf, d⟩
      intro q
      rw [q, hoc] at e
      have q' : oc = p.2 := Option.some.inj e
      exact d w' (by rw [← q']; exact hocd)
theorem br1(I:Inv X pins σ H s)(hN:X.N.Nodup)(hi:X.N[i]?=some x)(hx:Loc X.env.scope x)(r:RelV v u)
 (h:∀s',Inv X pins (σ.set i (some v)) H s'->Q () s')(hf:X.fn x=true\/X.env.scope.names.lookup x=some .local:=by first|exact .inl rfl|exact .inr rfl|assumption):wpAny M A (storeName X.env x u) Q E s:=
 af7 I hN hi hx r (λs' I' _=>h s' I') hf
theorem Inv.call'(I:Inv X pins σ H s)(ho:s'.os=s.os)(u:Un (uW X.stack) ch H H' s.heap s'.heap)(hok:HOk X.prog X.w H' s'.heap)(hg:AllBare s'.gens)
 (hch:∀b∈ch,(b∈X.ex\/X.s₀.heap.objs.size<=b)/\b≠X.env.locals/\(∀x c,X.env.cells.lookup x=some c->c≠b)/\∀p∈X.pn++pins,p.1≠b):Inv X pins σ H' s':=by
 obtain⟨h',g',d',t',o'⟩:=s'
 have e:o'=s.os:=ho
 subst e
 exact I.call (g':=g') (t':=t') (d':=d') u hok hg hch
end
abbrev XK:=Value->Option Addr->Hp->Prop
abbrev St:=List (Option V)
abbrev VK:=V->Hp->Prop
abbrev TE:=St->Hp->VK->Prop
abbrev TT:=St->Hp->(Bool->Hp->Prop)->Prop
abbrev TA:=St->Hp->(List V->Hp->Prop)->Prop
structure at0 where
 nx:St->Hp->Prop
 rt:VK
 bk:St->Hp->Prop:=λ_ _=>False
 ct:St->Hp->Prop:=λ_ _=>False
abbrev TS:=at0->St->Hp->Prop
def EP(X:Cx)(pins:List (Addr×Obj))(σ:St)(Q:VK)(u:Value)(s':Shared):Prop:=∃v H',Inv X pins σ H' s'/\RelV v u/\Q v H'
def TP(X:Cx)(pins:List (Addr×Obj))(σ:St)(Q:Bool->Hp->Prop)(b:Bool)(s':Shared):Prop:=∃H',Inv X pins σ H' s'/\Q b H'
def AP(X:Cx)(pins:List (Addr×Obj))(σ:St)(Q:List V->Hp->Prop)(us:List Value)(s':Shared):Prop:=∃vs H',Inv X pins σ H' s'/\Vals vs us/\Q vs H'
def SP(X:Cx)(pins:List (Addr×Obj))(D:at0)(f:Flow)(s':Shared):Prop:=
 match f with
 |.next=>∃σ' H',Inv X pins σ' H' s'/\D.nx σ' H'
 |.brk=>∃σ' H',Inv X pins σ' H' s'/\D.bk σ' H'
 |.cont=>∃σ' H',Inv X pins σ' H' s'/\D.ct σ' H'
 |.ret u=>∃v σ' H',Inv X pins σ' H' s'/\RelV v u/\D.rt v H'
def PE(X:Cx)(e:Expr)(t:TE):Prop:=
 ∀⦃pins:List (Addr×Obj)⦄ (s:Shared)(σ:St)(H:Hp)(Q:VK),Inv X pins σ H s->t σ H Q->wpAny (model X.prog X.w) X.A (eval e X.env) (EP X pins σ Q) X.xe s
def PT(X:Cx)(e:Expr)(t:TT):Prop:=
 ∀⦃pins:List (Addr×Obj)⦄ (s:Shared)(σ:St)(H:Hp)(Q:Bool->Hp->Prop),Inv X pins σ H s->t σ H Q->wpAny (model X.prog X.w) X.A (isTrue e X.env (eval e X.env)) (TP X pins σ Q) X.xe s
def PW(X:Cx)(e:Expr)(t:TT):Prop:=
 ∀⦃whole:Sem Value⦄ (pins:List (Addr×Obj))(s:Shared)(σ:St)(H:Hp)(Q:Bool->Hp->Prop),Inv X pins σ H s->t σ H Q->wpAny (model X.prog X.w) X.A (isTrue e X.env whole) (TP X pins σ Q) X.xe s
theorem PW.pt(h:PW X e t):PT X e t:=λ_ s σ H Q I q=>h _ s σ H Q I q
def PA(X:Cx)(es:List Expr)(t:TA):Prop:=
 ∀⦃pos:Pos⦄ (pins:List (Addr×Obj))(s:Shared)(σ:St)(H:Hp)(Q:List V->Hp->Prop),Inv X pins σ H s->t σ H Q->wpAny (model X.prog X.w) X.A (spliced (backTo pos (starEach es X.env))) (AP X pins σ Q) X.xe s
def PS(X:Cx)(st:Stmt)(t:TS):Prop:=
 ∀⦃pins:List (Addr×Obj)⦄ (s:Shared)(σ:St)(H:Hp)(D:at0),Inv X pins σ H s->t D σ H->wpAny (model X.prog X.w) X.A (exec st X.env) (SP X pins D) X.xe s
def PSs(X:Cx)(st:List Stmt)(t:TS):Prop:=
 ∀⦃pins:List (Addr×Obj)⦄ (s:Shared)(σ:St)(H:Hp)(D:at0),Inv X pins σ H s->t D σ H->wpAny (model X.prog X.w) X.A (execs st X.env) (SP X pins D) X.xe s
theorem bY(h:wpAny M A t Q E s)(hQ:∀a s,Q a s->Q' a s):wpAny M A t Q' E s:=wpAny_mono h hQ λ_ _ x=>x
end L2
namespace L2
open PySem PySem.Spec PyProof.Rows
section
variable {X : Cx}
theorem bin{a b:Expr}{ta tb:TE}(ha:PE X a ta)(hb:PE X b tb){pins:List (Addr×Obj)}{s:Shared}{σ:St}{H:Hp}{R:V->V->Hp->Prop}(I:Inv X pins σ H s)(h:ta σ H λx H1=>tb σ H1 λy H2=>R x y H2)
 {α:Type}{Q:α->Shared->Prop}{f:Value->Value->Sem α}
 (hf:∀v u s2 x y H2,Inv X pins σ H2 s2->RelV x v->RelV y u->R x y H2->wpAny (model X.prog X.w) X.A (f v u) Q X.xe s2):
 wpAny (model X.prog X.w) X.A (eval a X.env) (λv s₁=>wpAny (model X.prog X.w) X.A (eval b X.env) (λu s₂=>wpAny (model X.prog X.w) X.A (f v u) Q X.xe s₂) X.xe s₁) X.xe s:=by
 refine bY (ha s σ H _ I h) λv s1 ⟨x,H1,I1,r1,q1⟩=>?_
 refine bY (hb s1 σ H1 _ I1 q1) λu s2 ⟨y,H2,I2,r2,q2⟩=>?_
 exact hf v u s2 x y H2 I2 r1 r2 q2
def bs0(i:Nat):TE:=λσ H Q=>∃v,σ[i]?=some (some v)/\Q v H
def tC(v:V):TE:=λ_ H Q=>Q v H
theorem dv4(hN:X.N[i]?=some x)(hv:Vis X.env.scope x)(hd:(x==("__debug__":Str))=false:=by decide)(hcd:(x==("__classdict__":Str))=false:=by decide):PE X (.Name x pos) (bs0 i):=by
 intro pins s σ H Q I h
 obtain⟨v,e,h⟩:=h
 obtain⟨m,hn,hl⟩:=I.loc
 obtain⟨u,r,l⟩:=hl i x v hN e hv
 have bP:EP X pins σ Q u s:=⟨v,H,I,r,h⟩
 rcases l with⟨hk,hm⟩|⟨hk,c,hc,hcell⟩
 . exact wpAny_Name (wpAny_loadName_local I.ok.kind hk hn hm bP) hd
 . rcases hk with hk|hk
   . exact wpAny_Name (wpAny_loadName_cell I.ok.kind hk hc hcell bP) hd
   . exact wpAny_Name (wpAny_loadName_free I.ok.kind hk hc hcell bP hcd) hd
theorem aF{i j pos}:PE X (.Constant (.int i) j pos) (tC (.int i)):=λ_ _ _ H _ I h=>wpAny_Constant_int ⟨.int i,H,I.tok _,⟨_,rfl⟩,h⟩
theorem lO{b j pos}:PE X (.Constant (.bool b) j pos) (tC (.bl b)):=λ_ _ _ H _ I h=>Constant_bool ⟨.bl b,H,I,rfl,h⟩
theorem dW{j pos}:PE X (.Constant .none j pos) (tC .non):=λ_ _ _ H _ I h=>Constant_none ⟨.non,H,I,rfl,h⟩
theorem bS{x j pos}:PE X (.Constant (.str x) j pos) (tC (.str x)):=λ_ _ _ H _ I h=>Calls.Constant_str ⟨.str x,H,I.tok _,⟨_,rfl⟩,h⟩
def Gl(X:Cx)(x:Str):Prop:=X.env.kindOf x=some .globalImplicit
theorem uP(I:Inv X pins σ H s)(hg:Gl X x)(hm:X.mg x=some u)(h:Q u s)
 (hd:(x==("__debug__":Str))=false:=by decide):wpAny (model X.prog X.w) X.A (eval (.Name x pos) X.env) Q E s:=
 Calls.Name_function_global I.ok.kind hg (Calls.loadGlobal_global (by rw[I.ok.glob];exact I.mod.glob.keeps I.bk) hm h) hd
theorem oV(I:Inv X pins σ H s)(hg:Gl X x)(hm:X.mg x=none)(hv:bootBuiltins x=some u)(h:Q u s)
 (hn:x≠"__name__":=by decide)(hd:(x==("__debug__":Str))=false:=by decide):wpAny (model X.prog X.w) X.A (eval (.Name x pos) X.env) Q E s:=by
 obtain⟨mb,h1,h2⟩:=I.mod.blt
 exact Calls.Name_function_global I.ok.kind hg (Calls.loadGlobal_builtin (by rw[I.ok.glob];exact I.mod.glob.keeps I.bk) hm (by rw[I.ok.blt];exact h1.keeps I.bk) ((h2 x hn).trans hv) h) hd
theorem ct6(hg:Gl X x)(hm:X.mg x=some u)(r:RelV v u)(hd:(x==("__debug__":Str))=false:=by decide):PE X (.Name x pos) (tC v):=
 λ_ _ _ H _ I h=>uP I hg hm ⟨v,H,I,r,h⟩ hd
theorem cu8(hg:Gl X x)(hm:X.mg x=none)(hv:bootBuiltins x=some u)(r:RelV v u)(hn:x≠"__name__":=by decide)(hd:(x==("__debug__":Str))=false:=by decide):PE X (.Name x pos) (tC v):=
 λ_ _ _ H _ I h=>oV I hg hm hv ⟨v,H,I,r,h⟩ hn hd
variable {a b : Expr} {ta tb : TE} {pos : Pos}
def PC(X:Cx)(op:CmpOp)(a b:Expr)(t:TE):Prop:=
 ∀⦃pins:List (Addr×Obj)⦄ (s:Shared)(σ:St)(H:Hp)(Q:VK),Inv X pins σ H s->t σ H Q->
  wpAny (model X.prog X.w) X.A (eval a X.env) (λv s₁=>wpAny (model X.prog X.w) X.A (eval b X.env) (λu s₂=>wpAny (model X.prog X.w) X.A (compareOp op v u) (EP X pins σ Q) X.xe s₂) X.xe s₁) X.xe s
def tB(t:TE):TT:=λσ H Q=>t σ H λx H1=>∃c,x=.bl c/\Q c H1
theorem db0(h:PC X op a b t)(h1:behindInMarks op b=false:=by first|exact du9 _ (by decide) (by decide)|rfl):PT X (.Compare a [op] [b] pos) (tB t):=by
 intro pins s σ H Q I hw
 refine wpAny_isTrue_Compare1 (bY (h s σ H _ I hw) λv s1 h1=>bY h1 λu s2 h2=>bY h2 λc s3 ⟨x,H1,I1,r1,q1⟩=>?_) h1
 obtain⟨d,rfl,q⟩:=q1
 cases r1
 exact wpAny_truthy_bool ⟨H1,I1,q⟩
variable {tA tB' : TT} {rest : List Expr}
def dy3(t u:TT):TT:=λσ H Q=>t σ H λc H1=>if c=true then u σ H1 Q else Q false H1
def tOr(t u:TT):TT:=λσ H Q=>t σ H λc H1=>if c=true then Q true H1 else u σ H1 Q
def di3(t:TT):TT:=λσ H Q=>t σ H λc H1=>Q (!c) H1
theorem pF(ha:PT X a tA):PW X (.BoolOp .And [a] pos) tA:=by
 intro wh pins s σ H Q I h
 refine isTrue_and (bY (ha s σ H Q I h) λc s1 e=>?_)
 cases c with
 |true=>exact isTrue_and_nil e
 |false=>exact e
theorem uI(ha:PT X a tA):PW X (.BoolOp .Or [a] pos) tA:=by
 intro wh pins s σ H Q I h
 refine isTrue_or (bY (ha s σ H Q I h) λc s1 e=>?_)
 cases c with
 |false=>exact isTrue_or_nil e
 |true=>exact e
theorem sN(ha:PT X a tA)(hb:PW X (.BoolOp .And (b::rest) pos) tB'):PW X (.BoolOp .And (a::b::rest) pos) (dy3 tA tB'):=by
 intro wh pins s σ H Q I h
 refine isTrue_and (bY (ha s σ H _ I h) λc s1 ⟨H1,I1,q1⟩=>?_)
 cases c with
 |true=>exact hb pins s1 σ H1 Q I1 q1
 |false=>exact⟨H1,I1,q1⟩
theorem vX(ha:PT X a tA)(hb:PW X (.BoolOp .Or (b::rest) pos) tB'):PW X (.BoolOp .Or (a::b::rest) pos) (tOr tA tB'):=by
 intro wh pins s σ H Q I h
 refine isTrue_or (bY (ha s σ H _ I h) λc s1 ⟨H1,I1,q1⟩=>?_)
 cases c with
 |true=>exact⟨H1,I1,q1⟩
 |false=>exact hb pins s1 σ H1 Q I1 q1
theorem iH(ha:PT X a tA):PT X (.UnaryOp .Not a pos) (di3 tA):=by
 intro pins s σ H Q I h
 exact isTrue_not (ha s σ H (λc H1=>Q (!c) H1) I h)
def ci5(ta tb:TE):TE:=λσ H Q=>ta σ H λx H1=>∃c,x=.bl c/\if c=true then tb σ H1 Q else Q (.bl false) H1
def cd6(ta:TE):TE:=λσ H Q=>ta σ H λx H1=>∃c,x=.bl c/\Q (.bl (!c)) H1
theorem sI{op}(h:PE X a t):PE X (.BoolOp op [a] pos) t:=λpins s σ H Q I hw=>BoolOp_one (h s σ H Q I hw)
theorem sL(ha:PE X a ta)(hb:PE X (.BoolOp .And (b::rest) pos) tb):PE X (.BoolOp .And (a::b::rest) pos) (ci5 ta tb):=by
 intro pins s σ H Q I h
 refine BoolOp_and (bY (ha s σ H _ I h) λv s1 ⟨x,H1,I1,r1,q1⟩=>?_)
 obtain⟨c,rfl,q1⟩:=q1
 cases r1
 refine wpAny_truthy_bool ?_
 cases c with
 |true=>exact hb s1 σ H1 Q I1 q1
 |false=>exact⟨.bl false,H1,I1,rfl,q1⟩
theorem dc3(ha:PE X a ta):PE X (.UnaryOp .Not a pos) (cd6 ta):=by
 intro pins s σ H Q I h
 refine UnaryOp_ (bY (ha s σ H _ I h) λv s1 ⟨x,H1,I1,r1,q1⟩=>?_)
 obtain⟨c,rfl,q1⟩:=q1
 cases r1
 exact not_of (wpAny_truthy_bool ⟨.bl (!c),H1,I1,rfl,q1⟩)
def tIf(t:TT)(ta tb:TE):TE:=λσ H Q=>t σ H λc H1=>if c=true then ta σ H1 Q else tb σ H1 Q
theorem aj0(hc:PT X c tA)(ha:PE X a ta)(hb:PE X b tb):PE X (.IfExp c a b pos) (tIf tA ta tb):=by
 intro pins s σ H Q I h
 refine wpAny_IfExp (bY (hc s σ H _ I h) λd s1 ⟨H1,I1,q1⟩=>?_)
 cases d with
 |true=>exact ha s1 σ H1 Q I1 q1
 |false=>exact hb s1 σ H1 Q I1 q1
end
end L2
namespace L2
open PySem PySem.Spec PyProof.Rows
def SqL(K:PySem.W.Frag)(H:Hp)(a:Addr)(xs:List V):Prop:=
 Rd H a (.lst xs)\/
  ∃(o:Obj)(its:Array Value)(n:Nat),K.lookup a=some o/\o.cls=.type "list"/\o.dict=none/\o.data=.seq its n/\its.size<=sizeLine/\Vals xs its.toList
def SqT(K:PySem.W.Frag)(H:Hp)(a:Addr)(xs:List V):Prop:=
 Rd H a (.tup xs)\/
  ∃(o:Obj)(its:Array Value)(n:Nat),K.lookup a=some o/\o.cls=.type "tuple"/\o.data=.seq its n/\its.size<=sizeLine/\Vals xs its.toList
def di9:Value->Option V
 |.none=>some .non
 |.bool b=>some (.bl b)
 |.int i _=>some (.int i)
 |.str x _=>some (.str x)
 |.bytes b _=>some (.byt b)
 |.float b _=>some (.flt b)
 |.ref a=>some (.ref a)
 |.type n=>some (.ty n)
 |_=>none
theorem RelV.abs(r:RelV x u):di9 u=some x:=by
 cases x with
 |non=>cases r;rfl
 |bl _=>cases r;rfl
 |int _=>obtain⟨t,rfl⟩:=r;rfl
 |str _=>obtain⟨t,rfl⟩:=r;rfl
 |byt _=>obtain⟨t,rfl⟩:=r;rfl
 |flt _=>obtain⟨t,rfl⟩:=r;rfl
 |ref _=>cases r;rfl
 |ty _=>cases r;rfl
theorem RelV.inj(r:RelV x u)(q:RelV y u):x=y:=Option.some.inj (r.abs.symm.trans q.abs)
theorem Vals.inj:∀{xs ys:List V}{us:List Value},Vals xs us->Vals ys us->xs=ys
 |_,_,_,.nil,.nil=>rfl
 |_,_,_,.cons r t,.cons r' t'=>by rw[r.inj r',Vals.inj t t']
section
variable {X : Cx} {pins : List (Addr × Obj)} {σ : St} {H : Hp} {s : Shared} {a : Addr} {xs ys : List V}
theorem SqL.of{K:PySem.W.Frag}(h:H a=some (.lst xs)):SqL K H a xs:=.inl (.inl h)
theorem SqT.of{K:PySem.W.Frag}(h:H a=some (.tup xs)):SqT K H a xs:=.inl (.inl h)
theorem Inv.list(I:Inv X pins σ H s)(h:SqL X.K H a xs):∃its:List Value,Vals xs its/\PlainL s.heap a its.toArray/\xs.length<=sizeLine:=by
 rcases h with h|⟨o,its,n,hk,hc,hd,hs,hz,r⟩
 . obtain⟨z,its,n,r,e⟩:=h.ok I.hok
   exact⟨its,r,⟨_,n,e,rfl,rfl,rfl⟩,z⟩
 . refine⟨its.toList,r,⟨o,n,I.kIn a o hk,hc,hd,by simpa using hs⟩,?_⟩
   have e:=r.length
   simp only[Array.length_toList]at e
   omega
theorem Inv.tuple(I:Inv X pins σ H s)(h:SqT X.K H a xs):∃its:List Value,Vals xs its/\IsTup s.heap a its.toArray/\xs.length<=sizeLine:=by
 rcases h with h|⟨o,its,n,hk,hc,hs,hz,r⟩
 . obtain⟨z,its,r,p⟩:=h.ok I.hok
   exact⟨its,r,p,z⟩
 . refine⟨its.toList,r,⟨o,I.kIn a o hk,hc,n,by simpa using hs⟩,?_⟩
   have e:=r.length
   simp only[Array.length_toList]at e
   omega
theorem Inv.list_inj(I:Inv X pins σ H s)(h:SqL X.K H a xs)(h':SqL X.K H a ys):xs=ys:=by
 obtain⟨its,r,⟨o,n,e,_,_,d⟩,_⟩:=I.list h
 obtain⟨its',r',⟨o',n',e',_,_,d'⟩,_⟩:=I.list h'
 rw[e]at e';cases e'
 rw[d]at d'
 injection d' with d1 _
 have:its=its':=by simpa using congrArg Array.toList d1
 subst this
 exact r.inj r'
theorem Inv.tuple_inj(I:Inv X pins σ H s)(h:SqT X.K H a xs)(h':SqT X.K H a ys):xs=ys:=by
 obtain⟨its,r,⟨o,e,_,n,d⟩,_⟩:=I.tuple h
 obtain⟨its',r',⟨o',e',_,n',d'⟩,_⟩:=I.tuple h'
 rw[e]at e';cases e'
 rw[d]at d'
 injection d' with d1 _
 have:its=its':=by simpa using congrArg Array.toList d1
 subst this
 exact r.inj r'
end
abbrev Cx.wish(X:Cx)(E:Value->Shared->Prop):Cx:={X with xe:=E}
abbrev Cx.nox(X:Cx):Cx:=X.wish λ_ _=>False
theorem Cx.Ok.wish{X:Cx}(ok:X.Ok)(E:Value->Shared->Prop):(X.wish E).Ok:=
 ⟨ok.mod,ok.kind,ok.glob,ok.blt,ok.above,ok.inj,ok.has,ok.cab,ok.hd,ok.frames,ok.stk,ok.exf,ok.bs,ok.bsz,ok.noex,ok.exfs,ok.funs,ok.frf⟩
theorem Cx.Ok.unwish{X:Cx}{E:Value->Shared->Prop}(ok:(X.wish E).Ok):X.Ok:=
 ⟨ok.mod,ok.kind,ok.glob,ok.blt,ok.above,ok.inj,ok.has,ok.cab,ok.hd,ok.frames,ok.stk,ok.exf,ok.bs,ok.bsz,ok.noex,ok.exfs,ok.funs,ok.frf⟩
section
variable {X : Cx} {pins : List (Addr × Obj)} {σ : St} {H : Hp} {s : Shared} {E : Value → Shared → Prop}
theorem Inv.wish(I:Inv X pins σ H s)(E:Value->Shared->Prop):Inv (X.wish E) pins σ H s:=⟨I.ok.wish E,I.os,I.bare,I.base,I.loc,I.cell,I.free,I.freeC,I.pin,I.hok,I.len⟩
theorem Inv.unwish(I:Inv (X.wish E) pins σ H s):Inv X pins σ H s:=⟨I.ok.unwish,I.os,I.bare,I.base,I.loc,I.cell,I.free,I.freeC,I.pin,I.hok,I.len⟩
theorem SP.unwish(h:SP (X.wish E) pins D f s'):SP X pins D f s':=by
 cases f with
 |next=>obtain⟨σ',H',I,q⟩:=h;exact⟨σ',H',I.unwish,q⟩
 |brk=>obtain⟨σ',H',I,q⟩:=h;exact⟨σ',H',I.unwish,q⟩
 |cont=>obtain⟨σ',H',I,q⟩:=h;exact⟨σ',H',I.unwish,q⟩
 |ret u=>obtain⟨v,σ',H',I,r,q⟩:=h;exact⟨v,σ',H',I.unwish,r,q⟩
theorem PSs.nox{st:List Stmt}{t:TS}(h:PSs X.nox st t):PSs X st t:=λpins s σ H D I hw=>
 wpAny_mono (h s σ H D (I.wish _) hw) (λ_ _ q=>q.unwish) λ_ _ z=>False.elim z
end
section
variable {X : Cx} {st : Stmt} {rest : List Stmt} {t u : TS} {e : Expr} {te : TE} {pos : Pos}
def cv5:TS:=λD σ H=>D.nx σ H
def dh0(t u:TS):TS:=λD σ H=>t {D with nx:=u D} σ H
theorem bN:PSs X [] cv5:=λ_ _ σ H _ I h=>wpAny_execs_nil ⟨σ,H,I,h⟩
theorem aH(h1:PS X st t)(h2:PSs X rest u):PSs X (st::rest) (dh0 t u):=by
 intro pins s σ H D I h
 refine wpAny_execs_cons (bY (h1 s σ H {D with nx:=u D} I h) λf s1 q=>?_)
 cases f with
 |next=>
  obtain⟨σ',H',I',q⟩:=q
  exact h2 s1 σ' H' D I' q
 |ret v=>exact q
 |brk=>exact q
 |cont=>exact q
theorem aL(h1:PS X st t):PSs X [st] t:=by
 intro pins s σ H D I h
 refine wpAny_execs_cons (bY (h1 s σ H D I h) λf s1 q=>?_)
 cases f with
 |next=>exact wpAny_execs_nil q
 |ret v=>exact q
 |brk=>exact q
 |cont=>exact q
theorem Inv.quiet(I:Inv X pins σ H s):interactive X.env=false:=by simp[interactive,I.ok.kind]
def bz5(te:TE):TS:=λD σ H=>te σ H λ_ H1=>D.nx σ H1
theorem fG(he:PE X e te)(hs:swapsWith e none pos.line X.env=pure false:=by rfl):PS X (.Expr e pos) (bz5 te):=by
 intro pins s σ H D I h
 exact wpAny_Expr_any (bY (he s σ H _ I h) λv s1 ⟨x,H1,I1,r1,q1⟩=>⟨σ,H1,I1,q1⟩) I.quiet hs
def dw2(te:TE):TS:=λD σ H=>te σ H D.rt
theorem aW(he:PE X e te):PS X (.Return (some e) pos) (dw2 te):=by
 intro pins s σ H D I h
 exact wpAny_Return_some (bY (he s σ H _ I h) λv s1 ⟨x,H1,I1,r1,q1⟩=>⟨x,σ,H1,I1,r1,q1⟩)
def df1(c:TT)(t u:TS):TS:=λD σ H=>c σ H λb H1=>if b=true then t D σ H1 else u D σ H1
theorem bW(hc:PT X c tc)(ha:PSs X a t)(hb:PSs X b u):PS X (.If c a b pos) (df1 tc t u):=by
 intro pins s σ H D I h
 refine wpAny_If (bY (hc s σ H _ I h) λd s1 ⟨H1,I1,q1⟩=>?_)
 cases d with
 |true=>exact ha s1 σ H1 D I1 q1
 |false=>exact hb s1 σ H1 D I1 q1
end
abbrev TG:=V->St->Hp->(St->Hp->Prop)->Prop
abbrev TGs:=List V->St->Hp->(St->Hp->Prop)->Prop
def PG(X:Cx)(target:Expr)(t:TG):Prop:=
 ∀⦃pins:List (Addr×Obj)⦄ (s:Shared)(σ:St)(H:Hp)(v:V)(u:Value)(Q:St->Hp->Prop),Inv X pins σ H s->RelV v u->t v σ H Q->
  wpAny (model X.prog X.w) X.A (assign target X.env u) (λ_ s'=>∃σ' H',Inv X pins σ' H' s'/\Q σ' H') X.xe s
def PGs(X:Cx)(ts:List Expr)(t:TGs):Prop:=
 ∀⦃pins:List (Addr×Obj)⦄ (s:Shared)(σ:St)(H:Hp)(vs:List V)(us:List Value)(Q:St->Hp->Prop),Inv X pins σ H s->Vals vs us->t vs σ H Q->
  wpAny (model X.prog X.w) X.A (assignInOrder ((assignEach ts X.env).map (·.2)) us) (λ_ s'=>∃σ' H',Inv X pins σ' H' s'/\Q σ' H') X.xe s
abbrev dl1:=V->V->V->Hp->(Hp->Prop)->Prop
def du3(X:Cx)(t:dl1):Prop:=
 ∀⦃pins:List (Addr×Obj)⦄ (s:Shared)(σ:St)(H:Hp)(o i v:V)(ov iv u:Value)(Q:Hp->Prop),Inv X pins σ H s->RelV o ov->RelV i iv->RelV v u->t o i v H Q->
  wpAny (model X.prog X.w) X.A (setItem ov iv u) (λ_ s'=>∃H',Inv X pins σ H' s'/\Q H') X.xe s
section
variable {X : Cx} {pos : Pos}
def au2(i:Nat):TG:=λv σ H Q=>Q (σ.set i (some v)) H
theorem cd8(hN:X.N.Nodup)(hi:X.N[i]?=some x)(hx:Loc X.env.scope x)(hf:X.fn x=true\/X.env.scope.names.lookup x=some .local:=by first|exact .inl rfl|exact .inr rfl|assumption):PG X (.Name x pos) (au2 i):=by
 intro pins s σ H v u Q I r h
 exact wpAny_assign_Name (br1 I hN hi hx r (λs' I'=>⟨_,H,I',h⟩) hf)
def dy1:TGs:=λvs σ H Q=>vs=[]/\Q σ H
def bc5(t:TG)(u:TGs):TGs:=λvs σ H Q=>∃v r,vs=v::r/\t v σ H λσ' H'=>u r σ' H' Q
theorem fR:PGs X [] dy1:=by
 intro pins s σ H vs us Q I r h
 obtain⟨e,h⟩:=h
 subst e
 cases r
 exact assignInOrder_nil ⟨σ,H,I,h⟩
theorem bL(h1:PG X e t)(h2:PGs X es u)
 (hs:(assignEach (e::es) X.env).map (·.2)=assign e X.env::(assignEach es X.env).map (·.2):=by rfl):PGs X (e::es) (bc5 t u):=by
 intro pins s σ H vs us Q I r h
 obtain⟨v,vr,e1,h⟩:=h
 subst e1
 cases r with
 |cons r rr=>
  rw[hs]
  refine assignInOrder_cons (bY (h1 s σ H _ _ _ I r h) λ_ s1 ⟨σ1,H1,I1,q1⟩=>?_)
  exact h2 s1 σ1 H1 _ _ Q I1 rr q1
def cv0(K:PySem.W.Frag)(n:Nat)(t:TGs):TG:=λv σ H Q=>∃a xs,v=.ref a/\SqT K H a xs/\xs.length=n/\t xs σ H Q
theorem da3(hc:X.calm=true)(h:PGs X es t)
 (hn:(assignEach es X.env).length=n:=by rfl)(hst:(assignEach es X.env).findIdx? (·.1)=none:=by rfl):PG X (.Tuple es k pos) (cv0 X.K n t):=by
 intro pins s σ H v u Q I r hw
 obtain⟨a,xs,e1,hq,hl,hw⟩:=hw
 subst e1
 cases r
 obtain⟨its,rv,ht,hz⟩:=I.tuple hq
 refine assign_Tuple_tuple (I.ok.hd hc) ht (by simp[hn,<-hl,rv.length]) hst λh' hx=>?_
 have I1:Inv X pins σ H {s with heap:=h'}:=I.kept (t':=s.toks) λb o e=>hx b o (Nat.ne_of_lt (Heap.lt_size e)) e
 exact h _ σ H xs _ Q I1 (by simpa using rv) hw
def du4(to ti:TE)(t:dl1):TG:=λv σ H Q=>to σ H λo H1=>ti σ H1 λi H2=>t o i v H2 λH3=>Q σ H3
theorem bk8(ho:PE X o to)(hi:PE X i ti)(hs:du3 X t)
 (ha:∀v,assign (.Subscript o i pos) X.env v=(do
  let ov<-holding [v] (eval o X.env)
  let iv<-holding [v,ov] (eval i X.env)
  standAt pos
  holding [v,ov,iv] (setItem ov iv v)
  release [v,ov,iv] []):=by intro _;rfl):PG X (.Subscript o i pos) (du4 to ti t):=by
 intro pins s σ H v u Q I r h
 rw[ha]
 refine wpAny_bind (wpAny_holding (bY (ho s σ H _ I h) λov s1 ⟨x,H1,I1,r1,q1⟩=>?_))
 refine wpAny_bind (wpAny_holding (bY (hi s1 σ H1 _ I1 q1) λiv s2 ⟨y,H2,I2,r2,q2⟩=>?_))
 refine wpAny_bind (wpAny_standAt (wpAny_bind (wpAny_holding (bY (hs s2 σ H2 x y v ov iv u _ I2 r1 r2 r q2) λ_ s3 ⟨H3,I3,q3⟩=>?_))))
 exact wpAny_release ⟨σ,H3,I3,q3⟩
def ba1(te:TE)(g:TG):TS:=λD σ H=>te σ H λx H1=>g x σ H1 D.nx
theorem xJ(he:PE X e te)(hg:PG X tg g)(hs:swapsWithSole [tg] e pos.line X.env=pure false:=by rfl)(hw:swappedStores [tg] e X.env=pure none:=by rfl)
 (h1:(assignEach [tg] X.env).map (·.2)=[assign tg X.env]:=by rfl):PS X (.Assign [tg] e pos) (ba1 te g):=by
 intro pins s σ H D I h
 refine wpAny_Assign_stores (bY (he s σ H _ I h) λv s1 ⟨x,H1,I1,r1,q1⟩=>?_) hs hw
 rw[h1]
 exact bY (hg s1 σ H1 x v _ I1 r1 q1) λ_ s2 q=>q
theorem dr0(hN:X.N.Nodup)(hi:X.N[i]?=some x)(hx:Loc X.env.scope x)(he:PE X e te)(hs:swapsWith e (some (.Name x pos')) pos.line X.env=pure false:=by rfl)(hf:X.fn x=true\/X.env.scope.names.lookup x=some .local:=by first|exact .inl rfl|exact .inr rfl|assumption):
 PS X (.Assign [.Name x pos'] e pos) (ba1 te (au2 i)):=by
 intro pins s σ H D I h
 refine wpAny_Assign_Name (bY (he s σ H _ I h) λv s1 ⟨y,H1,I1,r1,q1⟩=>?_) hs
 exact br1 I1 hN hi hx r1 (λs2 I2=>⟨_,H1,I2,q1⟩) hf
end
section
variable {X : Cx} {pos : Pos}
end
structure It where
 go:Nat->Hp->Prop
 yld:Nat->Hp->V->Hp->Prop
 stop:Nat->Hp->Prop
def pM(X:Cx)(pins:List (Addr×Obj))(H:Hp)(b:Addr):Prop:=
 H b=none/\b≠X.env.locals/\b∉X.fs/\(b∈X.ex\/X.s₀.heap.objs.size<=b)/\(∀x c,X.env.cells.lookup x=some c->c≠b)/\∀p∈X.pn++pins,p.1≠b
theorem Inv.fpOk(I:Inv X pins σ H s)(hb:s.heap.objs.size<=b)(hn:H' b=none):pM X pins H' b:=by
 refine⟨hn,Nat.ne_of_gt (Nat.lt_of_lt_of_le I.lt hb),I.nofs hb,.inr (Nat.le_trans I.sz hb),λx c e z=>?_,λp hp z=>?_⟩
 . obtain⟨v,q⟩:=I.cell x c e
   exact absurd (Nat.lt_of_lt_of_le q.lt (by rw[z];exact hb)) (Nat.lt_irrefl _)
 . exact absurd (Nat.lt_of_lt_of_le (Heap.lt_size (I.pin p hp).1) (by rw[z];exact hb)) (Nat.lt_irrefl _)
structure xY (P:Program) (w:World) (K:PySem.W.Frag) (tg:Expr) (J:It) (fp:List Addr) (it:Addr) (tn:Nat->Heap->Prop):Prop where
 mem:it∈fp
 obj:∀i h,tn i h->∀b∈fp,∃o,h.get? b=some o/\∀v,o.data≠ .cell v
 keep:∀i h h',tn i h->(∀b∈fp,∀o,h.get? b=some o->h'.get? b=some o)->tn i h'
 item:∀(X:Cx),X.prog=P->X.w=w->X.K=K->X.calm=true->∀(i:Nat)(pins:List (Addr×Obj))(s:Shared)(σ:St)(H:Hp)(E:Value->Shared->Prop),Inv X pins σ H s->(∀b∈fp,pM X pins H b)->tn i s.heap->J.go i H->
  wpAny (model P w) X.A (pyNext (.ref it)) (λr s1=>∃u,r=some u/\
   wpAny (model P w) X.A (letOwnedTupleGo tg (.ref it) u) (λ_ s2=>∃x H',Inv X pins σ H' s2/\RelV x u/\J.yld i H x H'/\tn (i+1) s2.heap/\∀b∈fp,H' b=none) E s1) E s
 done:∀(X:Cx),X.prog=P->X.w=w->X.K=K->X.calm=true->∀(i:Nat)(pins:List (Addr×Obj))(s:Shared)(σ:St)(H:Hp)(E:Value->Shared->Prop),Inv X pins σ H s->(∀b∈fp,pM X pins H b)->tn i s.heap->J.stop i H->
  wpAny (model P w) X.A (pyNext (.ref it)) (λr s1=>r=none/\Inv X pins σ H s1) E s
 self:∀(A:Around)(i:Nat)(s:Shared)(Q:Value->Shared->Prop)(E:Value->Shared->Prop),tn i s.heap->Q (.ref it) s->wpAny (model P w) A (pyIter (.ref it)) Q E s
abbrev TI:=St->Hp->(It->Hp->Prop)->Prop
def PIE(X:Cx)(pins:List (Addr×Obj))(σ:St)(tg:Expr)(R:It->Hp->Prop)(itv:Value)(s2:Shared):Prop:=
 ∃(it:Addr)(fp:List Addr)(tn:Nat->Heap->Prop)(J:It)(H':Hp),itv=.ref it/\Inv X pins σ H' s2/\xY X.prog X.w X.K tg J fp it tn/\tn 0 s2.heap/\(∀b∈fp,pM X pins H' b)/\R J H'
def PI(X:Cx)(tg iter:Expr)(wi:TI):Prop:=
 ∀⦃pins:List (Addr×Obj)⦄ (s:Shared)(σ:St)(H:Hp)(R:It->Hp->Prop),Inv X pins σ H s->wi σ H R->
  wpAny (model X.prog X.w) X.A (eval iter X.env) (λv s1=>wpAny (model X.prog X.w) X.A (pyIter v) (PIE X pins σ tg R) X.xe s1) X.xe s
theorem be6 (ho : s.heap.get? it = some o) (hc : o.cls = .type n) (hd : o.data = .fields vs)
    (hn : ["enumerate", "zip", "dict_itemiterator", "dict_reverseitemiterator", "odict_iterator", "itertools.zip_longest", "itertools.pairwise"].contains n = false) (hQ : Q () s) : wpAny M A (letOwnedTupleGo tg (.ref it) u) Q E s := by
  unfold letOwnedTupleGo
  cases tg <;> first
    | exact wpAny_pure hQ
    | (cases u <;> first
        | exact wpAny_pure hQ
        | (refine wpAny_bind (wpAny_load ho ?_)
           rw [hc, hd]
           show wpAny M A (if (["enumerate", "zip", "dict_itemiterator", "dict_reverseitemiterator", "odict_iterator", "itertools.zip_longest", "itertools.pairwise"].contains n && vs[0]? == some (rawInt _)) = true then _ else _) Q E s
           rw [if_neg (by intro h; rw [hn, Bool.false_and] at h; cases h)]
           exact wpAny_pure hQ))
def Itl(K:PySem.W.Frag)(a:Addr):It:=
 ⟨λi H=>∃xs x,SqL K H a xs/\xs[i]?=some x,λi H x H'=>H'=H/\∀xs,SqL K H a xs->xs[i]?=some x,λi H=>∃xs,SqL K H a xs/\xs.length<=i⟩
def Itt(K:PySem.W.Frag)(a:Addr):It:=
 ⟨λi H=>∃xs x,SqT K H a xs/\xs[i]?=some x,λi H x H'=>H'=H/\∀xs,SqT K H a xs->xs[i]?=some x,λi H=>∃xs,SqT K H a xs/\xs.length<=i⟩
def Itr(lo:Int)(n:Nat):It:=⟨λi _=>i<n,λi H x H'=>H'=H/\x=.int (lo+i),λi _=>n<=i⟩
theorem bt9{P:Program}{w:World}{K:PySem.W.Frag}{tg:Expr}(a it:Addr):xY P w K tg (Itl K a) [it] it (λi h=>h.IsListIter it a i) where
 mem:=by simp
 obj:=λi h st b hb=>by
  have e:b=it:=by simpa using hb
  subst e
  obtain⟨o,e,c,d⟩:=st
  exact⟨o,e,λv z=>by rw[d]at z;cases z⟩
 keep:=λi h h' st k=>st.at λo e=>k it (by simp) o e
 item:=by
  intro X hP hw hK hc i pins s σ H E I hf st hg
  subst hP hw hK
  obtain⟨xs,x,hq,hx⟩:=hg
  obtain⟨its,rv,p,hz⟩:=I.list hq
  obtain⟨u,hu,ru⟩:=rv.get hx
  obtain⟨f0,f1,f2,f3,f4,f5⟩:=hf it (by simp)
  refine wpAny_pyNext_list_item st p.isList (x:=u) (by simpa using hu) λh' st' sb=>?_
  have I1:Inv X pins σ H {s with heap:=h'}:=I.turned (t':=s.toks) (λb o hb e=>(sb.2 b hb).trans e) f0 f1 f3 f4 f5
  obtain⟨o,e,c,d⟩:=id st'
  exact⟨u,rfl,be6 (s:={s with heap:=h'}) e c d (by decide) ⟨x,H,I1,ru,⟨rfl,λys hy=>by rw[I.list_inj hy hq];exact hx⟩,st',λb hb=>(hf b hb).1⟩⟩
 done:=by
  intro X hP hw hK hc i pins s σ H E I hf st hg
  subst hP hw hK
  obtain⟨xs,hq,hx⟩:=hg
  obtain⟨its,rv,p,hz⟩:=I.list hq
  obtain⟨f0,f1,f2,f3,f4,f5⟩:=hf it (by simp)
  have hl:=rv.length
  exact wpAny_pyNext_list_end (I.ok.hd hc) st p.isList (by simp;omega) λh' eb=>⟨rfl,I.turned (t':=s.toks) (λb o hb e=>eb b o hb e) f0 f1 f3 f4 f5⟩
 self:=λ_ _ _ _ _ st h=>wpAny_pyIter_listiter st h
theorem bv6{P:Program}{w:World}{K:PySem.W.Frag}{tg:Expr}(a it:Addr):xY P w K tg (Itt K a) [it] it (λi h=>h.IsTupleIter it a i) where
 mem:=by simp
 obj:=λi h st b hb=>by
  have e:b=it:=by simpa using hb
  subst e
  obtain⟨o,e,c,d⟩:=st
  exact⟨o,e,λv z=>by rw[d]at z;cases z⟩
 keep:=λi h h' st k=>st.at λo e=>k it (by simp) o e
 item:=by
  intro X hP hw hK hc i pins s σ H E I hf st hg
  subst hP hw hK
  obtain⟨xs,x,hq,hx⟩:=hg
  obtain⟨its,rv,p,hz⟩:=I.tuple hq
  obtain⟨u,hu,ru⟩:=rv.get hx
  obtain⟨f0,f1,f2,f3,f4,f5⟩:=hf it (by simp)
  refine wpAny_pyNext_tuple_item st (show s.heap.IsTuple a its.toArray from p) (x:=u) (by simpa using hu) λh' st' sb=>?_
  have I1:Inv X pins σ H {s with heap:=h'}:=I.turned (t':=s.toks) (λb o hb e=>(sb.2 b hb).trans e) f0 f1 f3 f4 f5
  obtain⟨o,e,c,d⟩:=id st'
  exact⟨u,rfl,be6 (s:={s with heap:=h'}) e c d (by decide) ⟨x,H,I1,ru,⟨rfl,λys hy=>by rw[I.tuple_inj hy hq];exact hx⟩,st',λb hb=>(hf b hb).1⟩⟩
 done:=by
  intro X hP hw hK hc i pins s σ H E I hf st hg
  subst hP hw hK
  obtain⟨xs,hq,hx⟩:=hg
  obtain⟨its,rv,p,hz⟩:=I.tuple hq
  obtain⟨f0,f1,f2,f3,f4,f5⟩:=hf it (by simp)
  have hl:=rv.length
  exact wpAny_pyNext_tuple_end (I.ok.hd hc) st (show s.heap.IsTuple a its.toArray from p) (by simp;omega) λh' eb=>⟨rfl,I.turned (t':=s.toks) (λb o hb e=>eb b o hb e) f0 f1 f3 f4 f5⟩
 self:=λ_ _ _ _ _ st h=>wpAny_pyIter_tupleiter st h
theorem bh5{P:Program}{w:World}{K:PySem.W.Frag}{tg:Expr}(it:Addr)(lo:Int)(n:Nat):xY P w K tg (Itr lo n) [it] it (λi h=>IsRangeIter h it (lo+(i:Nat)*1) ((n:Int)-(i:Nat)) 1) where
 mem:=by simp
 obj:=λi h st b hb=>by
  have e:b=it:=by simpa using hb
  subst e
  exact⟨_,st,λv z=>by
   have z':Data.fields _=Data.cell v:=z
   cases z'⟩
 keep:=λi h h' st k=>k it (by simp) _ st
 item:=by
  intro X hP hw hK hc i pins s σ H E I hf st hg
  subst hP hw hK
  obtain⟨f0,f1,f2,f3,f4,f5⟩:=hf it (by simp)
  have W:=Walks.range (prog:=X.prog) (w:=X.w) (I.ok.hd hc) it lo 1 n
  refine W.item i s _ _ hg st λv h' tk hv st' kk=>?_
  obtain⟨t,rfl⟩:=hv
  have I1:Inv X pins σ H {s with heap:=h',toks:=tk}:=I.turned (λb o hb e=>kk b o (by simpa using hb) e) f0 f1 f3 f4 f5
  refine⟨_,rfl,be6 (s:={s with heap:=h',toks:=tk}) (n:="range_iterator") st' rfl rfl (by decide) ⟨.int (lo+i),H,I1,⟨t,?_⟩,⟨rfl,rfl⟩,st',λb hb=>(hf b hb).1⟩⟩
  rw[Int.mul_one]
 done:=by
  intro X hP hw hK hc i pins s σ H E I hf st hg
  subst hP hw hK
  obtain⟨f0,f1,f2,f3,f4,f5⟩:=hf it (by simp)
  exact wpAny_pyNext_range_end (I.ok.hd hc) st (by have:n<=i:=hg;omega) λh' eb=>⟨rfl,I.turned (t':=s.toks) (λb o hb e=>eb b o hb e) f0 f1 f3 f4 f5⟩
 self:=λ_ _ _ _ _ st h=>wpAny_pyIter_rangeiter st h
end L2
namespace L2
open PySem PySem.Spec PyProof.Rows
section
variable {X : Cx} {tg : Expr}
theorem az8{pins:List (Addr×Obj)}{σ:St}{H:Hp}{s:Shared}{R:It->Hp->Prop}{E:Value->Shared->Prop}{lo hi:Int}{t u v:Tok}{tk:Nat}(I:Inv X pins σ H s)(h1:-(2^62)<=lo)(h2:lo<2^62)(h3:-(2^62)<=hi)(h4:hi<2^62)
 (q:R (Itr lo (hi-lo).toNat) H):wpAny (model X.prog X.w) X.A (pyIter (.ref s.heap.objs.size)) (PIE X pins σ tg R) E {s with heap:=s.heap.push {cls:=.type "range",data:=.fields #[.int lo t,.int hi u,.int 1 v]},toks:=tk}:=by
 refine wpAny_pyIter_range (IsRange.new ..) (small_one h1 h2 h3 h4) ?_
 have I1:Inv X pins σ H {s with heap:=s.heap.push {cls:=.type "range",data:=.fields #[.int lo t,.int hi u,.int 1 v]},toks:=tk}:=I.kept λb o e=>Heap.get?_push_of_some _ e
 refine⟨(s.heap.push {cls:=.type "range",data:=.fields #[.int lo t,.int hi u,.int 1 v]}).objs.size,[(s.heap.push {cls:=.type "range",data:=.fields #[.int lo t,.int hi u,.int 1 v]}).objs.size],_,_,H,rfl,
  I1.kept (t':=tk) λb o e=>Heap.get?_push_of_some _ e,bh5 _ lo (hi-lo).toNat,?_,λb hb=>?_,q⟩
 . have e1:lo+((0:Nat):Int)*1=lo:=by simp
   have e2:(((hi-lo).toNat:Nat):Int)-((0:Nat):Int)=Builtin.Range.rangeSize lo hi 1:=by rw[rangeSize_one];split<;>omega
   show IsRangeIter _ _ (lo+((0:Nat):Int)*1) ((((hi-lo).toNat:Nat):Int)-((0:Nat):Int)) 1
   rw[e1,e2]
   exact Heap.get?_push_size _ rfl
 . have e:b=(s.heap.push {cls:=.type "range",data:=.fields #[.int lo t,.int hi u,.int 1 v]}).objs.size:=by simpa using hb
   subst e
   exact I1.fpOk (Nat.le_refl _) (I1.hok.fresh (Nat.le_refl _))
def cj5(ta:TA):TI:=λσ H R=>ta σ H λvs H1=>∃j:Int,vs=[.int j]/\-(2^62)<=j/\j<2^62/\R (Itr 0 j.toNat) H1
def ch6(ta:TA):TI:=λσ H R=>ta σ H λvs H1=>∃i j:Int,vs=[.int i,.int j]/\(-(2^62)<=i/\i<2^62/\-(2^62)<=j/\j<2^62)/\R (Itr i (j-i).toNat) H1
theorem iC{a:Expr}{ta:TA}{p pos:Pos}(hg:Gl X "range")(hm:X.mg "range"=none)(ha:PA X [a] ta)(hs:starEach [a] X.env=[(false,eval a X.env)]:=by rfl):PI X tg (.Call (.Name "range" p) [a] [] pos) (cj5 ta):=by
 intro pins s σ H R I h
 refine Call_ (oV I hg hm boot_range (PyProof.Rows.callWith_type1 (bY (ha pins s σ H _ I h) λus s1 ⟨vs,H1,I1,r1,q1⟩=>?_) hs rfl))
 obtain⟨j,e,q1,q2,q⟩:=q1
 subst e
 cases r1 with
 |cons r rr=>
  cases rr
  obtain⟨t,rfl⟩:=r
  exact call_range_1 (az8 I1 (by omega) (by omega) q1 q2 (by simpa using q))
theorem bj8(hg:Gl X "range")(hm:X.mg "range"=none)(ha:PA X [a,b] ta)(hs:starEach [a,b] X.env=[(false,eval a X.env),(false,eval b X.env)]:=by rfl)(hs2:starEach [b] X.env=[(false,eval b X.env)]:=by rfl):
 PI X tg (.Call (.Name "range" p) [a,b] [] pos) (ch6 ta):=by
 intro pins s σ H R I h
 refine Call_ (oV I hg hm boot_range (PyProof.Rows.callWith_type1 (bY (ha pins s σ H _ I h) λus s1 ⟨vs,H1,I1,r1,q1⟩=>?_) (by rw[hs,hs2]) (by rw[hs2];rfl)))
 obtain⟨i,j,e,⟨q1,q2,q3,q4⟩,q⟩:=q1
 subst e
 cases r1 with
 |cons r rr=>
  cases rr with
  |cons r' rr=>
   cases rr
   obtain⟨t,rfl⟩:=r
   obtain⟨t',rfl⟩:=r'
   exact call_range_2 (az8 I1 q1 q2 q3 q4 q)
def df3(wi:TI)(g:TG)(tb:TS):TS:=λD σ H=>wi σ H λJ H1=>∃W:Nat->Nat->St->Hp->Prop,(∃m,W 0 m σ H1)/\∀i m σ H,W i m σ H->
 (J.stop i H/\D.nx σ H)\/(J.go i H/\∃N:St->Hp->Prop,(∀σ' H',N σ' H'->∃m',m'<m/\W (i+1) m' σ' H')/\∀x H',J.yld i H x H'->g x σ H' λσ2 H2=>tb {D with nx:=N,ct:=N,bk:=D.nx} σ2 H2)
def uK(fp:List Addr)(h:Heap):List (Addr×Obj):=fp.filterMap λb=>(h.get? b).map λo=>(b,o)
theorem qY(hb:b∈fp)(e:h.get? b=some o):(b,o)∈uK fp h:=List.mem_filterMap.mpr ⟨b,hb,by rw[e];rfl⟩
theorem bn8(hp:p∈uK fp h):p.1∈fp/\h.get? p.1=some p.2:=by
 obtain⟨b,hb,e⟩:=List.mem_filterMap.mp hp
 cases q:h.get? b with
 |none=>rw[q]at e;cases e
 |some o=>
  rw[q]at e
  have e':(b,o)=p:=Option.some.inj e
  subst e'
  exact⟨hb,q⟩
theorem Inv.pinned(I:Inv X pins σ H s)(hf:∀b∈fp,pM X pins H b)(ho:∀b∈fp,∃o,s.heap.get? b=some o/\∀v,o.data≠ .cell v):Inv X (pins++uK fp s.heap) σ H s:=
 I.pins_of λp hp=>(List.mem_append.mp hp).elim (λz=>I.pin p (List.mem_append_right _ z)) λz=>by
  obtain⟨hb,e⟩:=bn8 z
  obtain⟨f0,f1,f2,_⟩:=hf p.1 hb
  obtain⟨o,e',d⟩:=ho p.1 hb
  rw[e]at e';cases e'
  exact⟨e,f0,f1,f2,d⟩
theorem Inv.unpinned(I:Inv X (pins++pl) σ H s):Inv X pins σ H s:=I.pins_of λp hp=>I.pin p (List.mem_append_right _ (List.mem_append_left _ hp))
theorem iE(hp:PassesOwn (model X.prog X.w) X.A X.env X.xe)(hc:X.calm=true)(hi:PI X tg iter wi)(hg:PG X tg g)(hb:PSs X body tb)
 (hs:∀x,foldedSetIterable iter X.env x=pure x:=by intro _;rfl):PS X (.For tg iter body [] pos) (df3 wi g tb):=by
 intro pins s σ H D I h
 refine wpAny_For (bY (hi s σ H _ I h) λv s1 h1=>bY h1 λitv s2 h2=>?_) hs
 obtain⟨it,fp,tn,J,H2,e,I2,T,st2,f2,W,⟨m0,w0⟩,turn⟩:=h2
 subst e
 have stat:∀{H':Hp},(∀b∈fp,H' b=none)->∀b∈fp,pM X pins H' b:=λhn b hb=>⟨hn b hb,(f2 b hb).2⟩
 refine codeAny_forLoop_any (λn s'=>∃i σ' H',Inv X pins σ' H' s'/\tn i s'.heap/\(∀b∈fp,H' b=none)/\W i n σ' H') ?_ m0 ⟨0,σ,H2,I2,st2,λb hb=>(f2 b hb).1,w0⟩
 rintro n s3 ⟨i,σ3,H3,I3,st3,fr3,w3⟩
 rcases turn i n σ3 H3 w3 with⟨stop,qn⟩|⟨go,N,hN,step⟩
 . refine wpAny_passesOwn hp (bY (T.done X rfl rfl rfl hc i pins s3 σ3 H3 X.xe I3 (stat fr3) st3 stop) λr s4 ⟨hr,I4⟩=>?_)
   subst hr
   exact wpAny_execs_nil ⟨σ3,H3,I4,qn⟩
 . refine wpAny_passesOwn hp (bY (T.item X rfl rfl rfl hc i pins s3 σ3 H3 X.xe I3 (stat fr3) st3 go) λr s4 ⟨u,hr,h4⟩=>?_)
   subst hr
   refine wpAny_passesOwn hp (bY h4 λ_ s5 ⟨x,H5,I5,r5,y5,st5,fr5⟩=>?_)
   have I5':=I5.pinned (stat fr5) (T.obj _ _ st5)
   refine wpAny_passesOwn hp (bY (hg s5 σ3 H5 x u _ I5' r5 (step x H5 y5)) λ_ s6 ⟨σ6,H6,I6,q6⟩=>?_)
   refine wpAny_passesOwn hp (bY (hb s6 σ6 H6 _ I6 q6) λf s7 q7=>?_)
   have again:∀{σ7:St}{H7:Hp},Inv X (pins++uK fp s5.heap) σ7 H7 s7->N σ7 H7->∃m,m<n/\∃i σ' H',Inv X pins σ' H' s7/\tn i s7.heap/\(∀b∈fp,H' b=none)/\W i m σ' H':=λ{σ7 H7} I7 n7=>by
    obtain⟨m',hm,w7⟩:=hN σ7 H7 n7
    refine⟨m',hm,i+1,σ7,H7,I7.unpinned,T.keep _ _ _ st5 λb hb o e=>(I7.pin (b,o) (List.mem_append_right _ (List.mem_append_right _ (qY hb e)))).1,λb hb=>?_,w7⟩
    obtain⟨o,e,d⟩:=T.obj _ _ st5 b hb
    exact(I7.pin (b,o) (List.mem_append_right _ (List.mem_append_right _ (qY hb e)))).2.1
   cases f with
   |next=>obtain⟨σ7,H7,I7,n7⟩:=q7;exact again I7 n7
   |cont=>obtain⟨σ7,H7,I7,n7⟩:=q7;exact again I7 n7
   |brk=>obtain⟨σ7,H7,I7,q7⟩:=q7;exact⟨σ7,H7,I7.unpinned,q7⟩
   |ret v=>obtain⟨x7,σ7,H7,I7,r7,q7⟩:=q7;exact⟨x7,σ7,H7,I7.unpinned,r7,q7⟩
end
end L2
namespace L2
open PySem PySem.Spec PyProof.Rows
abbrev R2:=V->V->Hp->VK->Prop
def OpR(X:Cx)(f:Value->Value->Sem Value)(r:R2):Prop:=
 ∀⦃pins:List (Addr×Obj)⦄ (s:Shared)(σ:St)(H:Hp)(x y:V)(v u:Value)(Q:VK),Inv X pins σ H s->RelV x v->RelV y u->r x y H Q->
  wpAny (model X.prog X.w) X.A (f v u) (EP X pins σ Q) X.xe s
def UnR(X:Cx)(f:Value->Sem Value)(r:V->Hp->VK->Prop):Prop:=
 ∀⦃pins:List (Addr×Obj)⦄ (s:Shared)(σ:St)(H:Hp)(x:V)(v:Value)(Q:VK),Inv X pins σ H s->RelV x v->r x H Q->
  wpAny (model X.prog X.w) X.A (f v) (EP X pins σ Q) X.xe s
def CallR(X:Cx)(f:Value)(r:List V->Hp->VK->Prop):Prop:=
 ∀⦃pins:List (Addr×Obj)⦄ (s:Shared)(σ:St)(H:Hp)(xs:List V)(us:List Value)(Q:VK),Inv X pins σ H s->Vals xs us->r xs H Q->
  wpAny (model X.prog X.w) X.A (call f us) (EP X pins σ Q) X.xe s
def dd9(X:Cx)(r:V->Hp->(Bool->Hp->Prop)->Prop):Prop:=
 ∀⦃pins:List (Addr×Obj)⦄ (s:Shared)(σ:St)(H:Hp)(x:V)(v:Value)(Q:Bool->Hp->Prop),Inv X pins σ H s->RelV x v->r x H Q->
  wpAny (model X.prog X.w) X.A (truthy v) (TP X pins σ Q) X.xe s
def tOp(r:R2)(ta tb:TE):TE:=λσ H Q=>ta σ H λx H1=>tb σ H1 λy H2=>r x y H2 Q
def tUn(r:V->Hp->VK->Prop)(ta:TE):TE:=λσ H Q=>ta σ H λx H1=>r x H1 Q
def rI(C:Int->Int->Prop)(g:Int->Int->V):R2:=λx y H Q=>∃i j,x=.int i/\y=.int j/\C i j/\Q (g i j) H
def sR(g:Int->Int->V):R2:=λx y H Q=>∃i j,x=.int i/\y=.int j/\Q (g i j) H
def rU(g:Int->V):V->Hp->VK->Prop:=λx H Q=>∃i,x=.int i/\Q (g i) H
section
variable {X : Cx} {a b c : Expr} {ta tb tc : TE} {pos : Pos}
theorem cq1(ha:PE X a ta)(hb:PE X b tb){pins:List (Addr×Obj)}{s:Shared}{σ:St}{H:Hp}{R:V->V->Hp->Prop}(I:Inv X pins σ H s)
 (h:ta σ H λx H1=>tb σ H1 λy H2=>R x y H2){Q:Value->Shared->Prop}{f:Value->Value->Sem Value}
 (hf:∀v u s2 x y H2,Inv X pins σ H2 s2->RelV x v->RelV y u->R x y H2->wpAny (model X.prog X.w) X.A (f v u) Q X.xe s2):
 wpAny (model X.prog X.w) X.A (eval a X.env) (λv s₁=>wpAny (model X.prog X.w) X.A (eval b X.env) (λu s₂=>wpAny (model X.prog X.w) X.A (f v u) Q X.xe s₂) X.xe s₁) X.xe s:=by
 refine bY (ha s σ H _ I h) λv s1 ⟨x,H1,I1,r1,q1⟩=>?_
 refine bY (hb s1 σ H1 _ I1 q1) λu s2 ⟨y,H2,I2,r2,q2⟩=>?_
 exact hf v u s2 x y H2 I2 r1 r2 q2
theorem aK{op:Operator}{r:R2}(ho:OpR X (binaryOp op) r)(ha:PE X a ta)(hb:PE X b tb):PE X (.BinOp a op b pos) (tOp r ta tb):=by
 intro pins s σ H Q I h
 exact wpAny_BinOp (cq1 ha hb I h λv u s2 x y H2 I2 rx ry q=>ho s2 σ H2 x y v u Q I2 rx ry q)
theorem tR(ho:UnR X (unaryOp op) r)(ha:PE X a ta):PE X (.UnaryOp op a pos) (tUn r ta):=by
 intro pins s σ H Q I h
 exact UnaryOp_ (bY (ha s σ H _ I h) λv s1 ⟨x,H1,I1,r1,q1⟩=>ho s1 σ H1 x v Q I1 r1 q1)
theorem opI{f:Value->Value->Sem Value}{C:Int->Int->Prop}{g:Int->Int->Int}
 (rule:∀(i j:Int)(t u:Tok)(s:Shared)(Q:Value->Shared->Prop)(E:Value->Shared->Prop),C i j->Q (.int (g i j) s.toks) {s with toks:=s.toks+1}->wpAny (model X.prog X.w) X.A (f (.int i t) (.int j u)) Q E s):
 OpR X f (rI C λi j=>.int (g i j)):=by
 intro pins s σ H x y v u Q I rx ry h
 obtain⟨i,j,rfl,rfl,hc,q⟩:=h
 obtain⟨t,rfl⟩:=rx
 obtain⟨t',rfl⟩:=ry
 exact rule i j t t' s _ _ hc ⟨.int (g i j),H,I.tok _,⟨_,rfl⟩,q⟩
theorem dk1{f:Value->Value->Sem Value}{g:Int->Int->Int}
 (rule:∀(i j:Int)(t u:Tok)(s:Shared)(Q:Value->Shared->Prop)(E:Value->Shared->Prop),Q (.int (g i j) s.toks) {s with toks:=s.toks+1}->wpAny (model X.prog X.w) X.A (f (.int i t) (.int j u)) Q E s):
 OpR X f (sR λi j=>.int (g i j)):=by
 intro pins s σ H x y v u Q I rx ry h
 obtain⟨i,j,rfl,rfl,q⟩:=h
 obtain⟨t,rfl⟩:=rx
 obtain⟨t',rfl⟩:=ry
 exact rule i j t t' s _ _ ⟨.int (g i j),H,I.tok _,⟨_,rfl⟩,q⟩
theorem bu6{f:Value->Value->Sem Value}{g:Int->Int->Bool}
 (rule:∀(i j:Int)(t u:Tok)(s:Shared)(Q:Value->Shared->Prop)(E:Value->Shared->Prop),Q (.bool (g i j)) s->wpAny (model X.prog X.w) X.A (f (.int i t) (.int j u)) Q E s):
 OpR X f (sR λi j=>.bl (g i j)):=by
 intro pins s σ H x y v u Q I rx ry h
 obtain⟨i,j,rfl,rfl,q⟩:=h
 obtain⟨t,rfl⟩:=rx
 obtain⟨t',rfl⟩:=ry
 exact rule i j t t' s _ _ ⟨.bl (g i j),H,I,rfl,q⟩
def uA(i j:Int):Prop:=0<j/\j<1073741824
def xF(i j:Int):Prop:=0<=j/\j<=1000000/\i.natAbs<2^64
theorem op_add:OpR X (binaryOp .Add) (sR λi j=>.int (i+j)):=dk1 λ_ _ _ _ _ _ _ q=>add_int q
theorem cD:OpR X (binaryOp .Sub) (sR λi j=>.int (i-j)):=dk1 λ_ _ _ _ _ _ _ q=>sub_int q
theorem dZ:OpR X (binaryOp .FloorDiv) (rI uA λi j=>.int (i/j)):=opI λi j _ _ _ _ _ hc q=>by
 have h1:(0:Int)<j:=hc.1
 have h2:j<1073741824:=hc.2
 exact floordiv_int (by omega) (by rw[Int.fdiv_eq_ediv_of_nonneg i (by omega)];exact q) (.inl (PyProof.noPylong_small (by omega)))
theorem bH:OpR X (binaryOp .Mod) (rI (λ_ j=>0<j) λi j=>.int (i%j)):=opI λi j _ _ _ _ _ hc q=>by
 have h1:(0:Int)<j:=hc
 exact mod_int' (by omega) (by rw[Int.fmod_eq_emod_of_nonneg i (by omega)];exact q)
theorem aj1:OpR X (binaryOp .Pow) (rI xF λi j=>.int (i^j.toNat)):=opI λ_ _ _ _ _ _ _ hc q=>pow_int_small hc.1 hc.2.1 hc.2.2 q
theorem unI{f:Value->Sem Value}{g:Int->Int}
 (rule:∀(i:Int)(t:Tok)(s:Shared)(Q:Value->Shared->Prop)(E:Value->Shared->Prop),Q (.int (g i) s.toks) {s with toks:=s.toks+1}->wpAny (model X.prog X.w) X.A (f (.int i t)) Q E s):
 UnR X f (rU λi=>.int (g i)):=by
 intro pins s σ H x v Q I rx h
 obtain⟨i,rfl,q⟩:=h
 obtain⟨t,rfl⟩:=rx
 exact rule i t s _ _ ⟨.int (g i),H,I.tok _,⟨_,rfl⟩,q⟩
theorem qE:UnR X (unaryOp .USub) (rU λi=>.int (-i)):=unI λ_ _ _ _ _ q=>neg_int q
end
def cw2:V->V->Bool
 |.non,.non=>true|.non,.int _=>true|.int _,.non=>true|.non,.bl _=>true|.bl _,.non=>true|.non,.str _=>true|.str _,.non=>true
 |.int _,.int _=>true|.bl _,.bl _=>true|.str _,.str _=>true|.byt _,.byt _=>true
 |.int _,.str _=>true|.str _,.int _=>true|.bl _,.str _=>true|.str _,.bl _=>true
 |_,_=>false
def rEq:R2:=λx y H Q=>cw2 x y=true/\Q (.bl (decide (x=y))) H
def rNe:R2:=λx y H Q=>cw2 x y=true/\Q (.bl (!decide (x=y))) H
theorem at4:decide (V.int i=V.int j)=(i==j):=by
 rw[Bool.eq_iff_iff]
 simp
theorem bb1:decide (V.bl i=V.bl j)=(i==j):=by
 rw[Bool.eq_iff_iff]
 simp
theorem as4:decide (V.str i=V.str j)=(i==j):=by
 rw[Bool.eq_iff_iff]
 simp
theorem bz3:decide (V.byt i=V.byt j)=(i.toList==j.toList):=by
 rw[Bool.eq_iff_iff]
 cases i
 cases j
 simp
section
variable {X : Cx} {a b c : Expr} {ta tb tc : TE} {pos : Pos}
theorem cO(I:Inv X pins σ H s)(q:Q (.bl k) H)(e:k=k'):EP X pins σ Q (.bool k') s:=by
 subst e
 exact⟨.bl k,H,I,rfl,q⟩
theorem dk6:OpR X (compareOp .Eq) rEq:=by
 intro pins s σ H x y v u Q I rx ry h
 obtain⟨hs,q⟩:=h
 cases x with
 |non=>
  cases rx
  cases y with
  |non=>cases ry;exact PySem.EqNone.eq_none_none (cO I q (by simp))
  |bl j=>cases ry;exact PySem.EqNone.eq_none_bool (cO I q (by simp))
  |int j=>obtain⟨t',rfl⟩:=ry;exact PySem.EqNone.eq_none_int (cO I q (by simp))
  |str j=>obtain⟨t',rfl⟩:=ry;exact PySem.EqNone.eq_none_str (cO I q (by simp))
  |_=>exact absurd (show false=true from hs) Bool.false_ne_true
 |bl i=>
  cases rx
  cases y with
  |non=>cases ry;exact PySem.EqNone.eq_bool_none (cO I q (by simp))
  |bl j=>cases ry;exact eq_bool (cO I q bb1)
  |str j=>obtain⟨t',rfl⟩:=ry;exact PySem.EqMixed.eq_bool_str (cO I q (by simp))
  |_=>exact absurd (show false=true from hs) Bool.false_ne_true
 |int i=>
  obtain⟨t,rfl⟩:=rx
  cases y with
  |non=>cases ry;exact PySem.EqNone.eq_int_none (cO I q (by simp))
  |int j=>obtain⟨t',rfl⟩:=ry;exact eq_int (cO I q at4)
  |str j=>obtain⟨t',rfl⟩:=ry;exact PySem.EqMixed.eq_int_str (cO I q (by simp))
  |_=>exact absurd (show false=true from hs) Bool.false_ne_true
 |str i=>
  obtain⟨t,rfl⟩:=rx
  cases y with
  |non=>cases ry;exact PySem.EqNone.eq_str_none (cO I q (by simp))
  |bl j=>cases ry;exact PySem.EqMixed.eq_str_bool (cO I q (by simp))
  |int j=>obtain⟨t',rfl⟩:=ry;exact PySem.EqMixed.eq_str_int (cO I q (by simp))
  |str j=>obtain⟨t',rfl⟩:=ry;exact eq_str (cO I q as4)
  |_=>exact absurd (show false=true from hs) Bool.false_ne_true
 |byt i=>
  obtain⟨t,rfl⟩:=rx
  cases y with
  |byt j=>obtain⟨t',rfl⟩:=ry;exact PySem.W.eq_bytes (cO I q bz3)
  |_=>exact absurd (show false=true from hs) Bool.false_ne_true
 |_=>cases y<;>exact absurd (show false=true from hs) Bool.false_ne_true
theorem dj8:OpR X (compareOp .NotEq) rNe:=by
 intro pins s σ H x y v u Q I rx ry h
 obtain⟨hs,q⟩:=h
 cases x with
 |non=>
  cases rx
  cases y with
  |non=>cases ry;exact PySem.EqNone.ne_none_none (cO I q (by simp))
  |bl j=>cases ry;exact PySem.EqNone.ne_none_bool (cO I q (by simp))
  |int j=>obtain⟨t',rfl⟩:=ry;exact PySem.EqNone.ne_none_int (cO I q (by simp))
  |str j=>obtain⟨t',rfl⟩:=ry;exact PySem.EqNone.ne_none_str (cO I q (by simp))
  |_=>exact absurd (show false=true from hs) Bool.false_ne_true
 |bl i=>
  cases rx
  cases y with
  |non=>cases ry;exact PySem.EqNone.ne_bool_none (cO I q (by simp))
  |bl j=>cases ry;exact ne_bool (cO I q (congrArg not bb1))
  |str j=>obtain⟨t',rfl⟩:=ry;exact PySem.EqMixed.ne_bool_str (cO I q (by simp))
  |_=>exact absurd (show false=true from hs) Bool.false_ne_true
 |int i=>
  obtain⟨t,rfl⟩:=rx
  cases y with
  |non=>cases ry;exact PySem.EqNone.ne_int_none (cO I q (by simp))
  |int j=>obtain⟨t',rfl⟩:=ry;exact ne_int (cO I q (congrArg not at4))
  |str j=>obtain⟨t',rfl⟩:=ry;exact PySem.EqMixed.ne_int_str (cO I q (by simp))
  |_=>exact absurd (show false=true from hs) Bool.false_ne_true
 |str i=>
  obtain⟨t,rfl⟩:=rx
  cases y with
  |non=>cases ry;exact PySem.EqNone.ne_str_none (cO I q (by simp))
  |bl j=>cases ry;exact PySem.EqMixed.ne_str_bool (cO I q (by simp))
  |int j=>obtain⟨t',rfl⟩:=ry;exact PySem.EqMixed.ne_str_int (cO I q (by simp))
  |str j=>obtain⟨t',rfl⟩:=ry;exact ne_str (cO I q (congrArg not as4))
  |_=>exact absurd (show false=true from hs) Bool.false_ne_true
 |byt i=>
  obtain⟨t,rfl⟩:=rx
  cases y with
  |byt j=>obtain⟨t',rfl⟩:=ry;exact PySem.W.ne_bytes (cO I q (congrArg not bz3))
  |_=>exact absurd (show false=true from hs) Bool.false_ne_true
 |_=>cases y<;>exact absurd (show false=true from hs) Bool.false_ne_true
theorem yV:OpR X (compareOp .Lt) (sR λi j=>.bl (decide (i<j))):=bu6 λ_ _ _ _ _ _ _ q=>lt_int q
theorem jW:OpR X (compareOp .LtE) (sR λi j=>.bl (decide (i<=j))):=bu6 λ_ _ _ _ _ _ _ q=>le_int q
theorem as8:OpR X (compareOp .Gt) (sR λi j=>.bl (decide (j<i))):=bu6 λ_ _ _ _ _ _ _ q=>gt_int q
theorem ce6:OpR X (compareOp .GtE) (sR λi j=>.bl (decide (j<=i))):=bu6 λ_ _ _ _ _ _ _ q=>ge_int q
theorem bu9:OpR X (compareOp .In) (λx y H Q=>∃i j,x=.str i/\y=.str j/\Q (.bl (!(Builtin.Str.occurrences j i 0 j.length 1).isEmpty)) H):=by
 intro pins s σ H x y v u Q I rx ry h
 obtain⟨i,j,rfl,rfl,q⟩:=h
 obtain⟨t,rfl⟩:=rx
 obtain⟨t',rfl⟩:=ry
 exact in_str (cO I q rfl)
theorem di2:OpR X (compareOp .Is) (λx y H Q=>y=.non/\Q (.bl (decide (x=.non))) H):=by
 intro pins s σ H x y v u Q I rx ry h
 obtain⟨rfl,q⟩:=h
 cases ry
 refine is_none_gen (cO I q ?_)
 cases x<;>first
  |(cases rx;rfl)
  |(obtain⟨t,rfl⟩:=rx;rfl)
theorem sA:OpR X (compareOp .IsNot) (λx y H Q=>y=.non/\Q (.bl (!decide (x=.non))) H):=by
 intro pins s σ H x y v u Q I rx ry h
 obtain⟨rfl,q⟩:=h
 cases ry
 refine isnot_none_gen (cO I q ?_)
 cases x<;>first
  |(cases rx;rfl)
  |(obtain⟨t,rfl⟩:=rx;rfl)
theorem OpR.or(h:OpR X f r)(h':OpR X f r'):OpR X f (λx y H Q=>r x y H Q\/r' x y H Q):=by
 intro pins s σ H x y v u Q I rx ry q
 rcases q with q|q
 . exact h s σ H x y v u Q I rx ry q
 . exact h' s σ H x y v u Q I rx ry q
theorem qN(b:Expr)(h:op≠ .In:=by decide)(h2:op≠ .NotIn:=by decide):behindInMarks op b=false:=by
 have e1:(op==CmpOp.In)=false:=by cases op<;>first|rfl|exact absurd rfl h
 have e2:(op==CmpOp.NotIn)=false:=by cases op<;>first|rfl|exact absurd rfl h2
 cases b<;>simp[behindInMarks,e1,e2]
theorem jG{op:CmpOp}{r:R2}(ho:OpR X (compareOp op) r)(ha:PE X a ta)(hb:PE X b tb)(hm:behindInMarks op b=false):PE X (.Compare a [op] [b] pos) (tOp r ta tb):=by
 intro pins s σ H Q I h
 exact wpAny_Compare1 (cq1 ha hb I h λv u s2 x y H2 I2 rx ry q=>ho s2 σ H2 x y v u Q I2 rx ry q) hm
def ax8(t:TE):TT:=λσ H Q=>t σ H λx H'=>∃k,x=.bl k/\Q k H'
theorem cs9(ho:OpR X (compareOp op) r)(ha:PE X a ta)(hb:PE X b tb)(hm:behindInMarks op b=false):PT X (.Compare a [op] [b] pos) (ax8 (tOp r ta tb)):=by
 intro pins s σ H Q I h
 refine wpAny_isTrue_Compare1 (bY (ha s σ H _ I h) λv s1 ⟨x,H1,I1,r1,q1⟩=>bY (hb s1 σ H1 _ I1 q1) λu s2 ⟨y,H2,I2,r2,q2⟩=>
  bY (ho s2 σ H2 x y v u _ I2 r1 r2 q2) λc s3 ⟨z,H3,I3,r3,k,e,q3⟩=>?_) hm
 subst e
 cases r3
 exact wpAny_truthy_bool ⟨H3,I3,q3⟩
def aa9(r r':R2)(ta tb tc:TE):TE:=λσ H Q=>ta σ H λx H1=>tb σ H1 λy H2=>r x y H2 λz H3=>∃k,z=.bl k/\
 (if k=true then tc σ H3 λw' H4=>r' y w' H4 Q else Q (.bl false) H3)
theorem ah0(ho:OpR X (compareOp op) r)(ho':OpR X (compareOp op') r')(ha:PE X a ta)(hb:PE X b tb)(hc:PE X c tc)
 (hm:lastMarks [op,op'] [b,c]=false:=by with_unfolding_all rfl):PE X (.Compare a [op,op'] [b,c] pos) (aa9 r r' ta tb tc):=by
 intro pins s σ H Q I h
 refine Compare_chain (bY (ha s σ H _ I h) λv s1 ⟨x,H1,I1,r1,q1⟩=>chain_link (bY (hb s1 σ H1 _ I1 q1) λu s2 ⟨y,H2,I2,r2,q2⟩=>
  bY (ho s2 σ H2 x y v u _ I2 r1 r2 q2) λd s3 ⟨z,H3,I3,r3,k,e,q3⟩=>?_)) hm
 subst e
 cases r3
 refine wpAny_truthy_bool ?_
 cases k with
 |false=>exact ite_ff ⟨.bl false,H3,I3,rfl,q3⟩
 |true=>exact ite_tt (chain_last (bY (hc s3 σ H3 _ I3 q3) λw' s4 ⟨z',H4,I4,r4,q4⟩=>ho' s4 σ H4 y z' u w' Q I4 r2 r4 q4))
theorem ar0(ho:OpR X (compareOp op) r)(ho':OpR X (compareOp op') r')(ha:PE X a ta)(hb:PE X b tb)(hc:PE X c tc)
 (hm:lastMarks [op,op'] [b,c]=false:=by with_unfolding_all rfl):PT X (.Compare a [op,op'] [b,c] pos) (ax8 (aa9 r r' ta tb tc)):=by
 intro pins s σ H Q I h
 refine isTrue_chain (bY (ha s σ H _ I h) λv s1 ⟨x,H1,I1,r1,q1⟩=>test_link (bY (hb s1 σ H1 _ I1 q1) λu s2 ⟨y,H2,I2,r2,q2⟩=>
  bY (ho s2 σ H2 x y v u _ I2 r1 r2 q2) λd s3 ⟨z,H3,I3,r3,k,e,q3⟩=>?_)) hm
 subst e
 cases r3
 refine wpAny_truthy_bool ?_
 cases k with
 |false=>
  obtain⟨k',e',q'⟩:=q3
  cases e'
  exact ite_ff ⟨H3,I3,q'⟩
 |true=>
  refine ite_tt (test_last (bY (hc s3 σ H3 _ I3 q3) λw' s4 ⟨z',H4,I4,r4,q4⟩=>bY (ho' s4 σ H4 y z' u w' _ I4 r2 r4 q4) λd' s5 ⟨z2,H5,I5,r5,k2,e2,q5⟩=>?_))
  subst e2
  cases r5
  exact wpAny_truthy_bool ⟨H5,I5,q5⟩
def bw0(K:PySem.W.Frag)(x:V)(H:Hp)(k:Bool):Prop:=
 match x with
 |.non=>k=false
 |.bl b=>k=b
 |.int i=>k=(i !=0)
 |.str y=>y.length<=sizeLine/\k=((y.length:Int) !=0)
 |.byt y=>y.size<=sizeLine/\k=((y.size:Int) !=0)
 |.ref p=>(∃xs,SqL K H p xs/\k=!xs.isEmpty)\/(∃xs,SqT K H p xs/\k=!xs.isEmpty)\/∃kvs,H p=some (.dK kvs)/\k=!kvs.isEmpty
 |_=>False
theorem bj6(r:KV kvs vs):(!vs.isEmpty)=!kvs.isEmpty:=by
 cases r<;>rfl
theorem ac2(r:Vals xs its):(!its.toArray.isEmpty)=!xs.isEmpty:=by
 cases r<;>simp
theorem uJ:(sizeLine:Nat)<2^63:=by rw[sizeLine_eq];decide
theorem dn0:dd9 X (λx H Q=>∃k,bw0 X.K x H k/\Q k H):=by
 intro pins s σ H x v Q I rx h
 obtain⟨k,e,q⟩:=h
 have hl:=uJ
 have hs:sizeLine=16777216:=sizeLine_eq
 cases x with
 |non=>
  cases rx
  have e':k=false:=e
  subst e'
  exact truthy_none ⟨H,I,q⟩
 |bl b=>
  cases rx
  have e':k=b:=e
  subst e'
  exact wpAny_truthy_bool ⟨H,I,q⟩
 |int i=>
  obtain⟨t,rfl⟩:=rx
  have e':k=(i !=0):=e
  subst e'
  exact PySem.P.truthy_int ⟨H,I,q⟩
 |str y=>
  obtain⟨t,rfl⟩:=rx
  obtain⟨hy,e'⟩:y.length<=sizeLine/\k=((y.length:Int) !=0):=e
  subst e'
  exact PySem.P.truthy_str (by omega) ⟨H,I.tok _,q⟩
 |byt y=>
  obtain⟨t,rfl⟩:=rx
  obtain⟨hy,e'⟩:y.size<=sizeLine/\k=((y.size:Int) !=0):=e
  subst e'
  exact PySem.W.truthy_bytes (by omega) ⟨H,I.tok _,q⟩
 |ref p=>
  cases rx
  have e':(∃xs,SqL X.K H p xs/\k=!xs.isEmpty)\/(∃xs,SqT X.K H p xs/\k=!xs.isEmpty)\/∃kvs,H p=some (.dK kvs)/\k=!kvs.isEmpty:=e
  rcases e' with⟨xs,hx,e'⟩|⟨xs,hx,e'⟩|⟨kvs,hx,e'⟩
  . subst e'
    obtain⟨its,r,pl,hz⟩:=I.list hx
    have hlen:=r.length
    exact wpAny_truthy_list pl.isList (by simp only[List.size_toArray];omega) ⟨H,I.tok _,by rw[ac2 r];exact q⟩
  . subst e'
    obtain⟨its,r,pl,hz⟩:=I.tuple hx
    have hlen:=r.length
    exact truthy_tuple pl (by simp only[List.size_toArray];omega) ⟨H,I.tok _,by rw[ac2 r];exact q⟩
  . subst e'
    obtain⟨hz,hS,vs,r,m⟩:kvs.length<=sizeLine/\(p==sysModules)=false/\∃vs,KV kvs vs/\s.heap.DictOf (ag4 X.prog X.w) p vs:=I.hok p _ hx
    have hlen:kvs.length=vs.length:=Paired.length r
    exact wpAny_truthy_dict hS m (by omega) ⟨H,I.tok _,by rw[bj6 r];exact q⟩
 |_=>exact(show False from e).elim
theorem ch2(ha:PE X a ta)(he:∀whole,isTrue a X.env whole=(do let v<-whole;standAt a.pos;holding [v] (truthy v))):
 PT X a (λσ H Q=>ta σ H λx H'=>∃k,bw0 X.K x H' k/\Q k H'):=by
 intro pins s σ H Q I h
 exact isTrue_plain (bY (ha s σ H _ I h) λv s1 ⟨x,H1,I1,r1,q1⟩=>dn0 s1 σ H1 x v Q I1 r1 q1) (he _)
theorem op_add_str:OpR X (binaryOp .Add) (λx y H Q=>∃i j,x=.str i/\y=.str j/\i.length+j.length<=sizeLine/\Q (.str (i++j)) H):=by
 intro pins s σ H x y v u Q I rx ry h
 obtain⟨i,j,rfl,rfl,hz,q⟩:=h
 obtain⟨t,rfl⟩:=rx
 obtain⟨t',rfl⟩:=ry
 exact add_str (λt' tk=>⟨.str (i++j),H,I.tok _,⟨_,rfl⟩,q⟩) hz
theorem aw2(r:Vals [x] us):∃u,us=[u]/\RelV x u:=by
 cases r with
 |cons r1 r2=>cases r2;exact⟨_,rfl,r1⟩
theorem bq5(r:Vals [x,y] us):∃u w',us=[u,w']/\RelV x u/\RelV y w':=by
 cases r with
 |cons r1 r2=>
  cases r2 with
  |cons r3 r4=>cases r4;exact⟨_,_,rfl,r1,r3⟩
theorem cv4:CallR X (.builtin "abs") (λxs H Q=>∃i,xs=[.int i]/\Q (.int (if i<0 then -i else i)) H):=by
 intro pins s σ H xs us Q I r h
 obtain⟨i,rfl,q⟩:=h
 obtain⟨u,rfl,t,rfl⟩:=aw2 r
 exact call_abs_int λu tk=>⟨.int (if i<0 then -i else i),H,I.tok _,⟨_,rfl⟩,q⟩
theorem bz8(hc:X.calm=true):CallR X (.builtin "max") (λxs H Q=>∃i j,xs=[.int i,.int j]/\Q (.int (if j>i then j else i)) H):=by
 intro pins s σ H xs us Q I r h
 obtain⟨i,j,rfl,q⟩:=h
 obtain⟨u,w',rfl,⟨t,rfl⟩,⟨t',rfl⟩⟩:=bq5 r
 refine max_two_ints (I.ok.hd hc) λh' tk k=>⟨_,H,I.kept k,?_,q⟩
 by_cases hj:j>i
 . rw[if_pos hj,if_pos hj];exact⟨_,rfl⟩
 . rw[if_neg hj,if_neg hj];exact⟨_,rfl⟩
theorem cc0(hc:X.calm=true):CallR X (.builtin "min") (λxs H Q=>∃i j,xs=[.int i,.int j]/\Q (.int (if j<i then j else i)) H):=by
 intro pins s σ H xs us Q I r h
 obtain⟨i,j,rfl,q⟩:=h
 obtain⟨u,w',rfl,⟨t,rfl⟩,⟨t',rfl⟩⟩:=bq5 r
 refine min_two_ints (I.ok.hd hc) λh' tk k=>⟨_,H,I.kept k,?_,q⟩
 by_cases hj:j<i
 . rw[if_pos hj,if_pos hj];exact⟨_,rfl⟩
 . rw[if_neg hj,if_neg hj];exact⟨_,rfl⟩
theorem be0:CallR X (.type "str") (λxs H Q=>∃i,xs=[.int i]/\i.natAbs.log2<1920/\Q (.str (toString i)) H):=by
 intro pins s σ H xs us Q I r h
 obtain⟨i,rfl,hz,q⟩:=h
 obtain⟨u,rfl,t,rfl⟩:=aw2 r
 exact PySem.P.str_of_int hz ⟨.str _,H,I.tok _,⟨_,rfl⟩,q⟩
def dq1(K:PySem.W.Frag)(x:V)(H:Hp)(n:Nat):Prop:=
 match x with
 |.str y=>y.length<=sizeLine/\n=y.length
 |.byt y=>y.size<=sizeLine/\n=y.size
 |.ref p=>(∃xs,SqL K H p xs/\n=xs.length)\/∃xs,SqT K H p xs/\n=xs.length
 |_=>False
theorem cy2:CallR X (.builtin "len") (λxs H Q=>∃x n,xs=[x]/\dq1 X.K x H n/\Q (.int n) H):=by
 intro pins s σ H xs us Q I r h
 obtain⟨x,n,rfl,e,q⟩:=h
 obtain⟨u,rfl,rx⟩:=aw2 r
 have hl:=uJ
 have hs:sizeLine=16777216:=sizeLine_eq
 cases x with
 |str y=>
  obtain⟨t,rfl⟩:=rx
  obtain⟨hy,e'⟩:y.length<=sizeLine/\n=y.length:=e
  subst e'
  exact len_str (by omega) ⟨.int _,H,I.tok _,⟨_,rfl⟩,q⟩
 |byt y=>
  obtain⟨t,rfl⟩:=rx
  obtain⟨hy,e'⟩:y.size<=sizeLine/\n=y.size:=e
  subst e'
  exact PySem.W.len_bytes (by omega) ⟨.int _,H,I.tok _,⟨_,rfl⟩,q⟩
 |ref p=>
  cases rx
  have e':(∃xs,SqL X.K H p xs/\n=xs.length)\/∃xs,SqT X.K H p xs/\n=xs.length:=e
  rcases e' with⟨xs,hx,e'⟩|⟨xs,hx,e'⟩
  . subst e'
    obtain⟨its,r',pl,hz⟩:=I.list hx
    have hlen:=r'.length
    exact Calls.call_len_list pl.isList (by simp only[List.size_toArray];omega) ⟨.int xs.length,H,I.tok _,⟨_,by simp only[List.size_toArray];rw[hlen]⟩,q⟩
  . subst e'
    obtain⟨its,r',pl,hz⟩:=I.tuple hx
    have hlen:=r'.length
    exact len_tuple pl (by simp only[List.size_toArray];omega) ⟨.int xs.length,H,I.tok _,⟨_,by simp only[List.size_toArray];rw[hlen]⟩,q⟩
 |_=>exact(show False from e).elim
theorem bn2:CallR X (.builtin "divmod") (λxs H Q=>∃i j,xs=[.int i,.int j]/\uA i j/\∀p,H p=none->Q (.ref p) (upd H p (.tup [.int (i/j),.int (i%j)]))):=by
 intro pins s σ H xs us Q I r h
 obtain⟨i,j,rfl,⟨h1,h2⟩,q⟩:=h
 obtain⟨u,w',rfl,⟨t,rfl⟩,⟨t',rfl⟩⟩:=bq5 r
 refine divmod_int (by omega) ?_ (.inl (PyProof.noPylong_small (by omega)))
 rw[Int.fdiv_eq_ediv_of_nonneg i (by omega),Int.fmod_eq_emod_of_nonneg i (by omega)]
 have hn:H s.heap.objs.size=none:=I.hok.fresh (Nat.le_refl _)
 refine⟨.ref s.heap.objs.size,_,?_,rfl,q _ hn⟩
 refine I.laid (λb o e=>Heap.get?_push_of_some _ e) (Nat.le_refl _) ⟨by simp only[List.length_cons,List.length_nil];rw[sizeLine_eq];decide,[.int (i/j) s.toks,.int (i%j) (s.toks+1)],.cons ⟨_,rfl⟩ (.cons ⟨_,rfl⟩ .nil),?_⟩
 exact⟨_,Heap.get?_push_size s.heap rfl,rfl,0,rfl⟩
end
end L2
namespace L2
open PySem PySem.Spec PyProof.Rows
structure ObjM (h:Heap) (x dx C:Addr) (mA:Str->Option Value):Prop where
 obj:h.get? x=some (PySem.W.instObj C dx)
 ns:h.Ns1 dx mA
 ne:dx≠x
theorem bq9{h:Heap}{dx:Addr}{mA:Str->Option Value}(n:h.Ns1 dx mA):∃od,h.get? dx=some od/\∀name,PySem.W.lookIn name od=some (mA name):=by
 obtain⟨o,es,ep,ho,hd,hk,_,hm⟩:=n
 refine⟨o,ho,λname=>?_⟩
 have e:=hm name
 unfold nsFind findBy at e
 rw[<-Array.find?_toList]at e
 unfold PySem.W.lookIn
 rw[hd]
 dsimp only
 split
 . rename_i y q
   rw[q]at e
   exact congrArg some e
 . rename_i q
   rw[q]at e
   have a:es.toList.any (·.refKey)=false:=by
    rw[List.any_eq_false]
    intro y hy
    obtain⟨z,t,hkey⟩:=hk y (Array.mem_toList_iff.mp hy)
    simp[DictEntry.refKey,hkey]
   have a':¬es.toList.any (·.refKey)=true:=by rw[a];exact Bool.false_ne_true
   rw[if_neg a']
   exact congrArg some e
theorem ObjM.look(I:ObjM h x dx C mA):∃od,PySem.W.InstAt h x (PySem.W.instObj C dx) C (some od)/\∀name,PySem.W.lookIn name od=some (mA name):=
 let⟨od,ho,hl⟩:=bq9 I.ns
 ⟨od,⟨I.obj,rfl,rfl,ho⟩,hl⟩
section
variable {prog : Program} {w : World} {A : Around} {E : Value → Shared → Prop} {s : Shared} {K : PySem.W.Frag} {x dx C f : Addr} {mA : Str → Option Value} {name : Str} {v : Value}
theorem cs6(X:K.In s.heap)(I:ObjM s.heap x dx C mA)(hg:PySem.W.plainGet K C name=true)(hh:PySem.W.hasDictIn K C=true)
 (ha:PySem.W.findIn K (.ref C) name=some none)(hv:mA name=some v)(hv':PySem.W.handedIn v=true)(h:Q v {s with toks:=s.toks+1}):
 wpAny (model prog w) A (getAttr (.ref x) name expr) Q E s:=by
 obtain⟨od,J,hl⟩:=I.look
 exact PySem.W.get_value X J (PySem.W.plainGet_of hg).1 (PySem.W.findObj_own hh ha rfl (by rw[hl,hv])) hv' h
theorem cn4(X:K.In s.heap)(I:ObjM s.heap x dx C mA)(hg:PySem.W.plainGet K C name=true)
 (hf:PySem.W.findIn K (.ref C) name=some (some (.ref f)))(ht:PySem.W.isFn K (.ref f)=true)(hv:mA name=none)(h:Q (.ref f,[.ref x]) s):
 wpAny (model prog w) A (getMethod (.ref x) name pl) Q E s:=by
 obtain⟨od,J,hl⟩:=I.look
 exact PySem.W.method_fn X J (PySem.W.plainGet_of hg).1 (PySem.W.plainGet_of hg).2 hf (beq_iff_eq.mp ht) (by show(PySem.W.lookIn name od).map (·.isSome)=some false;rw[hl,hv];rfl) h
theorem cm8(X:K.In s.heap)(I:ObjM s.heap x dx C mA)
 (hs:PySem.W.findIn K (.ref C) "__setattr__"=some (some (.builtin "object.__setattr__")))(hp:PySem.W.plainOver K C=true)(ht:PySem.W.takerIn K C name=some none)(hh:PySem.W.hasDictIn K C=true)
 (hw:PySem.Within mA ns)(hsz:ns.length<=sizeLine)
 (h:∀h',ObjM h' x dx C (λy=>if y=name then some v else mA y)->Heap.SameBut dx s.heap h'->Q () {s with heap:=h',toks:=s.toks+2}):
 wpAny (model prog w) A (setAttr (.ref x) name v) Q E s:=by
 obtain⟨od,J,hl⟩:=I.look
 refine PySem.W.set_plain X J hs (PySem.W.osa_open (s:={s with toks:=s.toks+1}) (r:=none) X J hp ht λb=>?_)
 obtain⟨cd,hc,hd'⟩:=PySem.W.any_some hh
 have hx:s.heap.get? x=some ⟨.ref C,some dx,.plain,#[]⟩:=I.obj
 refine wpAny_bind (wpAny_pure (wpAny_bind (wpAny_bind (wpAny_loadPart hx (wpAny_bind (PySem.W.Looks.here (s:={s with toks:=s.toks+1}) (PySem.W.looks_clsIn X hc) ?_))))))
 rw[hd']
 refine wpAny_pure (a:=some dx) (wpAny_bind (wpAny_pure (wpAny_bind ?_)))
 refine wpAny_nsSet1 (s:={s with toks:=s.toks+1}) I.ns λh' hn2 hs2=>?_
 obtain⟨oD,esD,epD,hoD,hdD,hcD⟩:=hn2.count (PySem.Within.cons name v hw)
 refine wpAny_bind (wpAny_lookBehind hoD (by rw[hdD];exact pastItsLine_dict (Nat.le_trans hcD (by rw[List.length_cons];omega))) ?_)
 exact wpAny_pure (h _ ⟨(hs2.2 _ (Ne.symm I.ne)).trans I.obj,hn2,I.ne⟩ hs2)
theorem cx0(X:K.In s.heap)(hm:PySem.W.makesIn K C=true)
 (hi:PySem.W.findIn K (.ref C) "__init__"=some (some (.ref f)))(hf:PySem.W.typeIn K (.ref f)=some (.type "function"))
 (h:codeAny (model prog w) (A.under (.builtin "type.__call__" ⟨.ref C::vs,kw⟩)) (.call (.ref f) ⟨.ref (s.heap.objs.size+1)::vs,kw⟩) (PySem.W.InitBack (s.heap.objs.size+1) R)
  {s with heap:=(s.heap.push PySem.W.emptyDict).push (PySem.W.instObj C s.heap.objs.size)}):
 codeAny (model prog w) A (.call (.ref C) ⟨vs,kw⟩) R s:=by
 obtain⟨hh,g,d,t,os⟩:=s
 exact PySem.W.make_core (PySem.W.makes_of X hm) (PySem.W.looks_findIn X hi) (λself=>PySem.W.bind_fn X self hf) (.inl rfl) h
end
def jL (f : Str) (v : V) : List (Str × V) → List (Str × V)
  | [] => [(f, v)]
  | (g, x) :: r => if g = f then (g, v) :: r else (g, x) :: jL f v r
theorem zM (f g : Str) (v : V) : ∀ fs : List (Str × V), (jL f v fs).lookup g = if g = f then some v else fs.lookup g
  | [] => by
    show List.lookup g [(f, v)] = _
    by_cases h : g = f
    · have hb : (g == f) = true := beq_iff_eq.mpr h
      simp only [List.lookup, hb, if_pos h]
    · have hb : (g == f) = false := beq_eq_false_iff_ne.mpr h
      simp only [List.lookup, hb, if_neg h]
  | (k, x) :: r => by
    have ih := zM f g v r
    rw [show jL f v ((k, x) :: r) = (if k = f then (k, v) :: r else (k, x) :: jL f v r) from rfl]
    by_cases hk : k = f
    · rw [if_pos hk]
      by_cases h : g = k
      · have hb : (g == k) = true := beq_iff_eq.mpr h
        simp only [List.lookup, hb, if_pos (h.trans hk)]
      · have hb : (g == k) = false := beq_eq_false_iff_ne.mpr h
        simp only [List.lookup, hb, if_neg (fun e : g = f => h (e.trans hk.symm))]
    · rw [if_neg hk]
      by_cases h : g = k
      · have hb : (g == k) = true := beq_iff_eq.mpr h
        simp only [List.lookup, hb, if_neg (fun e : g = f => hk (h.symm.trans e))]
      · have hb : (g == k) = false := beq_eq_false_iff_ne.mpr h
        simp only [List.lookup, hb]
        exact ih
theorem yD (f : Str) (v : V) : ∀ fs : List (Str × V), f ∈ (jL f v fs).map (·.1) ∧ ∀ g, g ∈ fs.map (·.1) → g ∈ (jL f v fs).map (·.1)
  | [] => ⟨by simp [jL], fun g h => by simp at h⟩
  | (k, x) :: r => by
    obtain ⟨i1, i2⟩ := yD f v r
    rw [show jL f v ((k, x) :: r) = (if k = f then (k, v) :: r else (k, x) :: jL f v r) from rfl]
    by_cases hk : k = f
    · rw [if_pos hk]
      subst hk
      exact ⟨by simp, fun g h => by simpa using h⟩
    · rw [if_neg hk]
      refine ⟨?_, fun g h => ?_⟩
      · rw [List.map_cons]
        exact List.mem_cons_of_mem _ i1
      · rw [List.map_cons] at h ⊢
        rcases List.mem_cons.mp h with e | e
        · exact List.mem_cons.mpr (.inl e)
        · exact List.mem_cons_of_mem _ (i2 g e)
theorem zX (f : Str) (v : V) : ∀ fs : List (Str × V), (jL f v fs).length ≤ fs.length + 1
  | [] => by simp [jL]
  | (k, x) :: r => by
    have ih := zX f v r
    rw [show jL f v ((k, x) :: r) = (if k = f then (k, v) :: r else (k, x) :: jL f v r) from rfl]
    by_cases hk : k = f
    · rw [if_pos hk, List.length_cons, List.length_cons]; omega
    · rw [if_neg hk, List.length_cons, List.length_cons]; omega
theorem RelO.some_of(r:RelO (some v) o):∃u,o=some u/\RelV v u:=by
 cases o with
 |none=>exact(show False from r).elim
 |some u=>exact⟨u,rfl,r⟩
theorem RelO.none_of(r:RelO none o):o=none:=by
 cases o with
 |none=>rfl
 |some u=>exact(show False from r).elim
theorem bk7(r:RelV v u):PySem.W.handedIn u=true:=by
 cases v with
 |non=>cases(show u=Value.none from r);rfl
 |bl b=>cases(show u=Value.bool b from r);rfl
 |int i=>obtain⟨t,e⟩:=(show∃t,u=Value.int i t from r);cases e;rfl
 |str x=>obtain⟨t,e⟩:=(show∃t,u=Value.str x t from r);cases e;rfl
 |byt b=>obtain⟨t,e⟩:=(show∃t,u=Value.bytes b t from r);cases e;rfl
 |flt b=>obtain⟨t,e⟩:=(show∃t,u=Value.float b t from r);cases e;rfl
 |ref a=>cases(show u=Value.ref a from r);rfl
 |ty n=>cases(show u=Value.type n from r);rfl
section
variable {P : Program} {w : World} {H H' : Hp} {h h' : Heap} {a C dx : Addr} {fs fs' : List (Str × V)}
theorem aq4(hok:HOk P w H h)(e:H a=some (.ins C dx fs)):∃mA,ObjM h a dx C mA/\(∀f,RelO (fs.lookup f) (mA f))/\PySem.Within mA (fs.map (·.1))/\fs.length<=1000/\H dx=some (.own a):=by
 obtain⟨d,z,ne,ob,mA,n,r,q⟩:=(show ObjOk P w H h a (.ins C dx fs) from hok a _ e)
 exact⟨mA,⟨ob,n,ne⟩,r,q,z,d⟩
end
structure Cls (K:PySem.W.Frag) (C:Addr):Prop where
 pg:PySem.W.plainGet K C Str.empty=true
 hd:PySem.W.hasDictIn K C=true
 po:PySem.W.plainOver K C=true
 sa:PySem.W.findIn K (.ref C) "__setattr__"=some (some (.builtin "object.__setattr__"))
theorem Cls.get{K:PySem.W.Frag}{C:Addr}(c:Cls K C)(f:Str):PySem.W.plainGet K C f=true:=c.pg
def NoAttr(K:PySem.W.Frag)(C:Addr)(f:Str):Prop:=PySem.W.findIn K (.ref C) f=some none
theorem NoAttr.taker{K:PySem.W.Frag}{C:Addr}{f:Str}(n:NoAttr K C f):PySem.W.takerIn K C f=some none:=by
 unfold PySem.W.takerIn
 rw[show PySem.W.findIn K (.ref C) f=some none from n]
 rfl
structure cu1 (K:PySem.W.Frag) (C:Addr) (m:Str) (f:Addr):Prop where
 at_:PySem.W.findIn K (.ref C) m=some (some (.ref f))
 fn:PySem.W.isFn K (.ref f)=true
 kp:PySem.W.keepIn K (.ref f)=true
section
variable {X : Cx} {pins : List (Addr × Obj)} {σ : St} {H : Hp} {s : Shared} {a C dx : Addr} {fs : List (Str × V)} {f : Str} {v : V} {A : Around} {E : Value → Shared → Prop}
theorem bp5(I:Inv X pins σ H s)(e:H a=some (.ins C dx fs))(c:Cls X.K C)(n:NoAttr X.K C f)(l:fs.lookup f=some v)
 (h:∀u s',Inv X pins σ H s'->RelV v u->Q u s'):wpAny (model X.prog X.w) A (getAttr (.ref a) f b) Q E s:=by
 obtain⟨mA,O,r,_,_,_⟩:=aq4 I.hok e
 obtain⟨u,hu,ru⟩:=RelO.some_of (v:=v) (o:=mA f) (by rw[<-l];exact r f)
 exact cs6 I.kIn O (c.get f) c.hd n hu (bk7 ru) (h u _ (I.tok _) ru)
theorem av1(I:Inv X pins σ H s)(e:H a=some (.ins C dx fs))(c:Cls X.K C)(k:cu1 X.K C m g)(l:fs.lookup m=none)
 (h:Q (.ref g,[.ref a]) s):wpAny (model X.prog X.w) A (getMethod (.ref a) m pl) Q E s:=by
 obtain⟨mA,O,r,_,_,_⟩:=aq4 I.hok e
 have hn:mA m=none:=RelO.none_of (by rw[<-l];exact r m)
 exact cn4 I.kIn O (c.get m) k.at_ k.fn hn h
theorem bh6(I:Inv X pins σ H s)(e:H a=some (.ins C dx fs))(c:Cls X.K C)(n:NoAttr X.K C f)(hl:fs.length<1000)(ry:RelV y u)
 (h:∀s',Inv X pins σ (upd H a (.ins C dx (jL f y fs))) s'->Q () s'):wpAny (model X.prog X.w) A (setAttr (.ref a) f u) Q E s:=by
 obtain⟨mA,O,r,wi,_,ho⟩:=aq4 I.hok e
 have hz:(fs.map (·.1)).length<=sizeLine:=by rw[List.length_map,sizeLine_eq];omega
 refine cm8 I.kIn O c.sa c.po n.taker c.hd wi hz λh' O' sb=>h _ ?_
 have hd:∃o,h'.get? dx=some o:=let⟨o,_,_,e',_⟩:=O'.ns;⟨o,e'⟩
 refine I.write (x:=a) (e:=dx) (by rw[e];exact True.intro) (.inr ho) (λb q hb z=>(sb.2 b hb).trans z) hd ?_
 refine⟨by rw[cH O.ne];exact ho,?_,O.ne,O'.obj,_,O'.ns,λg=>?_,λg hg=>?_⟩
 . have:=zX f y fs;omega
 . show RelO ((jL f y fs).lookup g) (if g=f then some u else mA g)
   rw[zM]
   by_cases q:g=f
   . rw[if_pos q,if_pos q];exact ry
   . rw[if_neg q,if_neg q];exact r g
 . by_cases q:g=f
   . rw[q];exact(yD f y fs).1
   . refine(yD f y fs).2 g (wi g λz=>hg ?_)
     show(if g=f then some u else mA g)=none
     rw[if_neg q];exact z
theorem Inv.made(I:Inv X pins σ H s):Inv X pins σ (upd (upd H s.heap.objs.size (.own (s.heap.objs.size+1))) (s.heap.objs.size+1) (.ins C s.heap.objs.size []))
 {s with heap:=(s.heap.push PySem.W.emptyDict).push (PySem.W.instObj C s.heap.objs.size)}:=by
 have e1:(s.heap.push PySem.W.emptyDict).get? s.heap.objs.size=some PySem.W.emptyDict:=Heap.get?_push_size s.heap rfl
 have e2:((s.heap.push PySem.W.emptyDict).push (PySem.W.instObj C s.heap.objs.size)).get? (s.heap.objs.size+1)=some (PySem.W.instObj C s.heap.objs.size):=by
  have:=Heap.get?_push_size (s.heap.push PySem.W.emptyDict) (o:=PySem.W.instObj C s.heap.objs.size) rfl
  rwa[Heap.size_push]at this
 have e3:(s.heap.push PySem.W.emptyDict).Ns s.heap.objs.size (λ_=>none):=⟨PySem.W.emptyDict,#[],_,e1,rfl,(λe he=>absurd he (by simp)),λ_=>rfl⟩
 have I1:=I.laid (a:=s.heap.objs.size) (o:=.own (s.heap.objs.size+1)) (h':=s.heap.push PySem.W.emptyDict) (t':=s.toks) (λb u q=>Heap.get?_push_of_some _ q) (Nat.le_refl _) ⟨_,e1⟩
 refine I1.laid (a:=s.heap.objs.size+1) (o:=.ins C s.heap.objs.size []) (t':=s.toks) (λb u q=>Heap.get?_push_of_some _ q) (Nat.le_of_eq (Heap.size_push _ _)) ?_
 have ne:s.heap.objs.size≠s.heap.objs.size+1:=Nat.ne_of_lt (Nat.lt_succ_self _)
 refine⟨by rw[cH ne,eD],Nat.zero_le _,ne,e2,λ_=>none,(Heap.Ns1.of_empty e3).at λo q=>Heap.get?_push_of_some _ q,λ_=>True.intro,λy hy=>absurd rfl hy⟩
theorem cn6(hb:attributeBase e f env (eval e env)=eval e env)
 (h:wpAny (model prog w) A (eval e env) (λo s₁=>wpAny (model prog w) A (getAttr o f true) Q E s₁) E s):wpAny (model prog w) A (eval (.Attribute e f pos) env) Q E s:=
 Attribute_any_ h (by rw[arm_eval_Attribute,hb])
end
def cp2(K:PySem.W.Frag)(ta:TE)(f:Str):TE:=λσ H Q=>ta σ H λx H1=>∃a C dx fs v,x=.ref a/\H1 a=some (.ins C dx fs)/\Cls K C/\NoAttr K C f/\fs.lookup f=some v/\Q v H1
def cx1(K:PySem.W.Frag)(ta tv:TE)(f:Str):TS:=λD σ H=>tv σ H λy H1=>ta σ H1 λx H2=>∃a C dx fs,x=.ref a/\H2 a=some (.ins C dx fs)/\Cls K C/\NoAttr K C f/\fs.length<1000/\
 D.nx σ (upd H2 a (.ins C dx (jL f y fs)))
section
variable {X : Cx} {o e value : Expr} {f : Str} {pos pos' tpos : Pos} {ta tv : TE}
theorem dc1(he:PE X e ta)(hb:attributeBase e f X.env (eval e X.env)=eval e X.env):PE X (.Attribute e f pos) (cp2 X.K ta f):=by
 intro pins s σ H Q I h
 refine cn6 hb (bY (he s σ H _ I h) λu s1 ⟨x,H1,I1,rx,a,C,dx,fs,v,ex,ea,c,n,l,q⟩=>?_)
 subst ex
 obtain rfl:u=Value.ref a:=rx
 exact bp5 I1 ea c n l λu' s2 I2 ru=>⟨v,H1,I2,ru,q⟩
theorem dl3(ha:PE X o ta)(hv:PE X value tv)(hs:swapsWith value (some (.Attribute o f pos')) pos.line X.env=pure false):PS X (.Assign [.Attribute o f pos'] value pos) (cx1 X.K ta tv f):=by
 intro pins s σ H D I h
 refine plainObj_wpAny_Assign_Attribute (bY (hv s σ H _ I h) λu s1 ⟨y,H1,I1,ry,q⟩=>bY (ha s1 σ H1 _ I1 q) λov s2 ⟨x,H2,I2,rx,a,C,dx,fs,ex,ea,c,n,l,q2⟩=>?_) hs
 subst ex
 obtain rfl:ov=Value.ref a:=rx
 exact bh6 I2 ea c n l ry λs3 I3=>⟨σ,_,I3,q2⟩
end
section
variable {X : Cx} {pins : List (Addr × Obj)} {σ : St} {H : Hp} {s : Shared} {A : Around} {E : Value → Shared → Prop} {Q : Value → Shared → Prop} {c : Value} {b : Bool}
end
end L2
namespace L2
open PySem PySem.Spec PyProof.Rows
structure Room (k:Nat) (A:Around):Prop where
 hd:A.handled=none
 dp:A.depth+3*k+5<recursionLimit
 un:A.units+16*k+200<cLine
theorem Room.mono(r:Room k A)(h:j<=k):Room j A:=⟨r.hd,by have:=r.dp;omega,by have:=r.un;omega⟩
theorem Room.deeper(r:Room (k+1) A)(env:Env):Room k (A.deeper env):=
 ⟨r.hd,by have:=r.dp;show A.depth+1+3*k+5<_;omega,by have:=r.un;show A.units+3+16*k+200<_;omega⟩
theorem bu5{A:Around}{C:Addr}{us:List Value}{kw:List (Str×Value)}:(A.under (.builtin "type.__call__" ⟨.ref C::us,kw⟩)).depth=A.depth+1:=by
 first|rfl|simp[Around.under,Code.weight,Code.isCreation,Code.isGuard,Code.isCaller,Code.frames,Code.isFrame,guardIds]
theorem bf6{A:Around}{C:Addr}{us:List Value}{kw:List (Str×Value)}:(A.under (.builtin "type.__call__" ⟨.ref C::us,kw⟩)).units=A.units+1:=by
 first|rfl|simp[Around.under,Code.cUnits,Code.frames,Code.isFrame]
theorem Room.make(r:Room (k+1) A)(C:Addr)(us:List Value)(kw:List (Str×Value)):Room k (A.under (.builtin "type.__call__" ⟨.ref C::us,kw⟩)):=
 ⟨r.hd,by have:=r.dp;rw[bu5];omega,by have:=r.un;rw[bf6];omega⟩
theorem Room.depth(r:Room k A):A.depth<recursionLimit:=by have:=r.dp;omega
theorem Room.units(r:Room k A):A.units+64<cLine:=by have:=r.un;omega
def ai5:TA:=λ_ H Q=>Q [] H
def yQ(ta:TE)(tr:TA):TA:=λσ H Q=>ta σ H λx H1=>tr σ H1 λxs H2=>Q (x::xs) H2
section
variable {X : Cx} {e : Expr} {es : List Expr} {te : TE} {t : TA} {pos : Pos}
theorem qQ:PA X [] ai5:=λ_ _ _ _ H Q I h=>Calls.spliced_nil ⟨[],H,I,.nil,h⟩
theorem aE(ha:PE X e te)(hr:PA X es t)(hs:starEach (e::es) X.env=(false,eval e X.env)::starEach es X.env:=by rfl):PA X (e::es) (yQ te t):=by
 intro pos pins s σ H Q I h
 rw[hs]
 show wpAny _ _ (spliced ((false,eval e X.env)::backTo pos (starEach es X.env))) _ _ s
 refine Calls.spliced_cons (bY (ha s σ H _ I h) λu s1 ⟨x,H1,I1,r1,q1⟩=>?_)
 exact bY (hr pins s1 σ H1 _ I1 q1) λus s2 ⟨xs,H2,I2,r2,q2⟩=>⟨x::xs,H2,I2,.cons r1 r2,q2⟩
def dx3(t:TA):TE:=λσ H Q=>t σ H λxs H1=>xs.length<=sizeLine/\∀p,H1 p=none->Q (.ref p) (upd H1 p (.tup xs))
def dm4(t:TA):TE:=λσ H Q=>t σ H λxs H1=>xs.length<=sizeLine/\∀p,H1 p=none->Q (.ref p) (upd H1 p (.lst xs))
theorem bR{x1}(h:PA X es t):PE X (.Tuple es x1 pos) (dx3 t):=by
 intro pins s σ H Q I hq
 refine wpAny_Tuple_spliced (bY (h pins s σ H _ I hq) λus s1 ⟨xs,H1,I1,r,z,q⟩=>⟨by rw[<-r.length];exact z,?_⟩)
 have hf:H1 s1.heap.objs.size=none:=I1.hok.fresh (Nat.le_refl _)
 refine⟨.ref s1.heap.objs.size,upd H1 s1.heap.objs.size (.tup xs),I1.laid (t':=s1.toks) (λb u e=>Heap.get?_push_of_some _ e) (Nat.le_refl _) ?_,rfl,q _ hf⟩
 exact⟨z,us,r,⟨_,Heap.get?_push_size _ rfl,rfl,_,rfl⟩⟩
theorem cV(h:PA X es t):PE X (.List es pos) (dm4 t):=by
 intro pins s σ H Q I hq
 refine wpAny_List_spliced (bY (h pins s σ H _ I hq) λus s1 ⟨xs,H1,I1,r,z,q⟩=>⟨by rw[<-r.length];exact z,?_⟩)
 have hf:H1 s1.heap.objs.size=none:=I1.hok.fresh (Nat.le_refl _)
 refine⟨.ref s1.heap.objs.size,upd H1 s1.heap.objs.size (.lst xs),I1.laid (t':=s1.toks) (λb u e=>Heap.get?_push_of_some _ e) (Nat.le_refl _) ?_,rfl,q _ hf⟩
 exact⟨z,us,0,r,Heap.get?_push_size _ rfl⟩
end
abbrev Sp:=List V->Hp->VK->XK->Prop
abbrev wL:=List Env->Hp->Shared->XK->Value->Shared->Prop
structure Env0 (P:Program) (w:World) (K:PySem.W.Frag) (mg:Str->Option Value) (base:Heap) (A:Around) (outer:List Env) (s:Shared) (H:Hp):Prop where
 frames:A.frames=some outer
 mod:Mod K mg base
 bs:∀b o,base.get? b=some o->s.heap.get? b=some o/\H b=none
 bsz:base.objs.size<=s.heap.objs.size
 funs:s.heap.FunFrames base outer
 frf:∀b∈uW outer,H b=none
 hok:HOk P w H s.heap
 bare:AllBare s.gens
def CE(outer:List Env)(P:Program)(w:World)(H:Hp)(s:Shared)(Q:VK)(u:Value)(s':Shared):Prop:=
 ∃v H',s'.os=s.os/\AllBare s'.gens/\Un (uW outer) [] H H' s.heap s'.heap/\HOk P w H' s'.heap/\RelV v u/\Q v H'
def CR(CX:wL)(outer:List Env)(P:Program)(w:World)(H:Hp)(s:Shared)(Q:VK)(E:XK)(r:Result)(s':Shared):Prop:=
 match r with
 |.ok (.ret u)=>CE outer P w H s Q u s'
 |.ok _=>False
 |.error e=>CX outer H s E e s'
structure FnOk (P:Program) (w:World) (K:PySem.W.Frag) (mg:Str->Option Value) (base:Heap) (CX:wL) (k:Nat) (f:Addr) (fd:FuncData) (ps:List Str) (sp:Sp):Prop where
 len:∀vs H Q E,sp vs H Q E->vs.length=ps.length
 run:∀(A:Around)(outer:List Env)(s:Shared)(H:Hp)(args:Args)(us:List Value)(vs:List V)(Q:VK)(E:XK),Room k A->Env0 P w K mg base A outer s H->BindsTo s fd args (ps.zip us)->Vals vs us->sp vs H Q E->
  codeAny (model P w) A (.call (.ref f) args) (CR CX outer P w H s Q E) s
theorem FnOk.mono{P:Program}{w:World}{K:PySem.W.Frag}{mg:Str->Option Value}{base:Heap}{CX:wL}{j k:Nat}{f:Addr}{fd:FuncData}{ps:List Str}{sp:Sp}(F:FnOk P w K mg base CX j f fd ps sp)(h:j<=k):
 FnOk P w K mg base CX k f fd ps sp:=⟨F.len,λA outer s H args us vs Q E hr=>F.run A outer s H args us vs Q E (hr.mono h)⟩
theorem FnOk.imp{P:Program}{w:World}{K:PySem.W.Frag}{mg:Str->Option Value}{base:Heap}{CX:wL}{k:Nat}{f:Addr}{fd:FuncData}{ps:List Str}{sp sp':Sp}(F:FnOk P w K mg base CX k f fd ps sp)
 (h:∀vs H Q E,sp' vs H Q E->sp vs H Q E):FnOk P w K mg base CX k f fd ps sp':=
 ⟨λvs H Q E q=>F.len vs H Q E (h _ _ _ _ q),λA outer s H args us vs Q E hr he hb hv hs=>F.run A outer s H args us vs Q E hr he hb hv (h _ _ _ _ hs)⟩
theorem Env0.make {P : Program} {w : World} {K : PySem.W.Frag} {mg : Str → Option Value} {base : Heap} {A : Around} {outer : List Env} {s : Shared} {H : Hp} (e : Env0 P w K mg base A outer s H) (C : Addr) (us : List Value) (kw : List (Str × Value)) :
    Env0 P w K mg base (A.under (.builtin "type.__call__" ⟨.ref C :: us, kw⟩)) outer s H := ⟨by first | exact e.frames | (simpa [Around.under, Code.envs, Code.isFrame, pushEnvs] using e.frames), e.mod, e.bs, e.bsz, e.funs, e.frf, e.hok, e.bare⟩
section
variable {X : Cx} {pins : List (Addr × Obj)} {σ : St} {H : Hp} {s s' : Shared}
theorem Inv.env0(I:Inv X pins σ H s):Env0 X.prog X.w X.K X.mg X.base X.A X.stack s H:=
 ⟨I.ok.frames,I.ok.mod,I.bs,Nat.le_trans I.ok.bsz I.sz,I.stack,I.stkFree,I.hok,I.bare⟩
theorem Inv.after(I:Inv X pins σ H s)(h:CE X.stack X.prog X.w H s Q u s'):EP X pins σ Q u s':=by
 obtain⟨v,H',os,bare,un,hok,r,q⟩:=h
 obtain⟨hh,g,d,t,os'⟩:=s'
 obtain rfl:os'=s.os:=os
 exact⟨v,H',I.call (h':=hh) (g':=g) (d':=d) (t':=t) (ch:=[]) un hok bare (λb z=>absurd z (by simp)),r,q⟩
end
def dx6(sp:Sp)(dvs:List V)(E:XK)(t:TA):TE:=λσ H Q=>t σ H λvs H1=>sp (vs++dvs) H1 Q E
def bf5(C:Addr)(sp:Sp)(dvs:List V)(E:XK)(t:TA):TE:=λσ H Q=>t σ H λvs H1=>∀x dx,H1 x=none->H1 dx=none->dx≠x->
 sp (.ref x::(vs++dvs)) (upd (upd H1 dx (.own x)) x (.ins C dx [])) (λv H2=>v=.non/\Q (.ref x) H2) E
def Binds(K:PySem.W.Frag)(fd:FuncData)(ps:List Str)(ds:List Value):Prop:=
 ∀(s:Shared)(us:List Value),K.In s.heap->(us++ds).length=ps.length->BindsTo s fd ⟨us,[]⟩ (ps.zip (us++ds))
theorem Binds.all{K:PySem.W.Frag}{fd:FuncData}{ps:List Str}(h:∀us:List Value,us.length=ps.length->bindArgs fd ⟨us,[]⟩=pure (ps.zip us)):Binds K fd ps []:=λs us _ hl=>by
 rw[List.append_nil]at hl⊢
 exact .of_eq (h us hl)
def xH(CX:wL)(X:Cx)(E:XK):Prop:=∀(pins:List (Addr×Obj))(σ:St)(H:Hp)(s:Shared)(e:Value)(s':Shared),Inv X pins σ H s->CX X.stack H s E e s'->X.xe e s'
section
variable {X : Cx} {CX : wL} {k : Nat} {f C : Addr} {fd : FuncData} {ps : List Str} {sp : Sp} {dvs : List V} {ds : List Value} {E : XK} {x m : Str} {p pos apos : Pos} {e o : Expr} {es : List Expr} {ta : TE} {t : TA}
theorem ay2(F:FnOk X.prog X.w X.K X.mg X.base CX k f fd ps sp)(hr:Room k X.A)(hb:Binds X.K fd ps ds)(hd:Vals dvs ds)(hx:xH CX X E)
 (I:Inv X pins σ H s)(r:Vals vs us)(h:sp (vs++dvs) H Q E):wpAny (model X.prog X.w) X.A (call (.ref f) us) (EP X pins σ Q) X.xe s:=by
 have r2:Vals (vs++dvs) (us++ds):=r.append hd
 have hl:(us++ds).length=ps.length:=by rw[<-r2.length];exact F.len _ _ _ _ h
 refine wpAny_call (codeAny_mono (F.run X.A X.stack s H ⟨us,[]⟩ (us++ds) (vs++dvs) Q E hr I.env0 (hb s us I.kIn hl) r2 h) λr s' hq=>?_)
 cases r with
 |error e=>exact hx pins σ H s e s' I hq
 |ok fl=>
  cases fl with
  |ret u=>exact I.after hq
  |next=>exact False.elim hq
  |brk=>exact False.elim hq
  |cont=>exact False.elim hq
theorem cj9(F:FnOk X.prog X.w X.K X.mg X.base CX k f fd ps sp)(hr:Room k X.A)(hg:Gl X x)(hm:X.mg x=some (.ref f))(hk:PySem.W.keepIn X.K (.ref f)=true)(hb:Binds X.K fd ps ds)(hd:Vals dvs ds)(hx:xH CX X E)
 (ha:PA X (e::es) t)(hdb:(x==("__debug__":Str))=false:=by decide)(he:starEach (e::es) X.env=(false,eval e X.env)::starEach es X.env:=by rfl)(hpl:(backTo pos (starEach es X.env)).any (·.1)=false:=by rfl):
 PE X (.Call (.Name x p) (e::es) [] pos) (dx6 sp dvs E t):=by
 intro pins s σ H Q I h
 refine wpAny_Call_Name_kw (uP I hg hm ?_ hdb)
 refine PySem.W.callWith_K (h₀:=X.base) I.ok.mod.kin hk (bY (ha pins s σ H _ I h) λus s1 ⟨vs,H1,I1,r,q⟩=>⟨I1.kIn,?_⟩) he hpl
 exact ay2 F hr hb hd hx I1 r q
structure Mk (K:PySem.W.Frag) (C f:Addr):Prop where
 makes:PySem.W.makesIn K C=true
 init:PySem.W.findIn K (.ref C) "__init__"=some (some (.ref f))
 fn:PySem.W.isFn K (.ref f)=true
 kp:PySem.W.keepIn K (.ref C)=true
theorem cd1(M:Mk X.K C f)(F:FnOk X.prog X.w X.K X.mg X.base CX k f fd ps sp)(hr:Room (k+1) X.A)(hb:Binds X.K fd ps ds)(hd:Vals dvs ds)
 (hx:xH CX X E)(I:Inv X pins σ H s)(r:Vals vs us)
 (h:∀x dx,H x=none->H dx=none->dx≠x->sp (.ref x::(vs++dvs)) (upd (upd H dx (.own x)) x (.ins C dx [])) (λv H2=>v=.non/\Q (.ref x) H2) E):
 wpAny (model X.prog X.w) X.A (call (.ref C) us) (EP X pins σ Q) X.xe s:=by
 have hq:=h (s.heap.objs.size+1) s.heap.objs.size (I.hok.fresh (Nat.le_succ _)) (I.hok.fresh (Nat.le_refl _)) (Nat.ne_of_lt (Nat.lt_succ_self _))
 have I2:=Inv.made (C:=C) I
 have r2:Vals (V.ref (s.heap.objs.size+1)::(vs++dvs)) (Value.ref (s.heap.objs.size+1)::(us++ds)):=.cons rfl (r.append hd)
 have hl:(Value.ref (s.heap.objs.size+1)::us++ds).length=ps.length:=by
  have e:=r2.length
  rw[F.len _ _ _ _ hq]at e
  exact e.symm
 refine wpAny_call (cx0 (f:=f) I.kIn M.makes M.init (beq_iff_eq.mp M.fn) (codeAny_mono (F.run _ X.stack _ _ ⟨Value.ref (s.heap.objs.size+1)::us,[]⟩ (Value.ref (s.heap.objs.size+1)::(us++ds)) _ _ E (hr.make C us [])
  (I2.env0.make C us []) (hb _ (Value.ref (s.heap.objs.size+1)::us) I2.kIn hl) r2 hq) λr s' hq'=>?_))
 cases r with
 |error e=>exact hx pins σ _ _ e s' I2 hq'
 |ok fl=>
  cases fl with
  |ret u=>
   obtain⟨v,H',I3,rv,ev,q3⟩:=I2.after hq'
   subst ev
   exact⟨rv,⟨V.ref (s.heap.objs.size+1),H',I3,rfl,q3⟩⟩
  |next=>exact False.elim hq'
  |brk=>exact False.elim hq'
  |cont=>exact False.elim hq'
theorem cn9(M:Mk X.K C f)(F:FnOk X.prog X.w X.K X.mg X.base CX k f fd ps sp)(hr:Room (k+1) X.A)(hg:Gl X x)(hm:X.mg x=some (.ref C))(hb:Binds X.K fd ps ds)(hd:Vals dvs ds)(hx:xH CX X E)
 (ha:PA X (e::es) t)(hdb:(x==("__debug__":Str))=false:=by decide)(he:starEach (e::es) X.env=(false,eval e X.env)::starEach es X.env:=by rfl)(hpl:(backTo pos (starEach es X.env)).any (·.1)=false:=by rfl):
 PE X (.Call (.Name x p) (e::es) [] pos) (bf5 C sp dvs E t):=by
 intro pins s σ H Q I h
 refine wpAny_Call_Name_kw (uP I hg hm ?_ hdb)
 refine PySem.W.callWith_K (h₀:=X.base) I.ok.mod.kin M.kp (bY (ha pins s σ H _ I h) λus s1 ⟨vs,H1,I1,r,q⟩=>⟨I1.kIn,?_⟩) he hpl
 exact cd1 M F hr hb hd hx I1 r q
end
section
variable {X : Cx} {CX : wL} {k : Nat} {f C : Addr} {fd : FuncData} {ps ks : List Str} {sp : Sp} {E : XK} {x m : Str} {p pos apos kpos : Pos} {e o : Expr} {es : List Expr} {kws : List Keyword} {te ta : TE} {t tk : TA} {nm : Option Str}
variable {g : List Value → List Value → List Value} {gV : List V → List V → List V}
end
structure bB (N P:List Str) (sc:Scope):Prop where
 kind:sc.kind=.function
 co:sc.isCoroutine=false
 gen:sc.isGenerator=false
 nd:N.Nodup
 pre:N.take P.length=P
 par:∀x∈P,sc.names.lookup x=some .local\/sc.names.lookup x=some .cell
 nofree:∀y∈sc.names,y.2≠ .free
theorem ae7 {kindOf : Str → Option NameKind} {x : Str} : ∀ {binds : List (Str × Value)} {m : Str → Option Value}, (∀ v, (x, v) ∉ binds) → bindL kindOf binds m x = m x
  | [], _, _ => rfl
  | (n, v) :: r, m, h => by
    unfold bindL
    rw [ae7 fun w hw => h w (List.mem_cons_of_mem _ hw)]
    split
    · have : x ≠ n := by rintro rfl; exact h v List.mem_cons_self
      simp [this]
    · rfl
theorem ag7 {kindOf : Str → Option NameKind} {x : Str} : ∀ {binds : List (Str × Value)} {m : Str → Option Value}, (∀ v, (x, v) ∉ binds) → bindC kindOf binds m x = m x
  | [], _, _ => rfl
  | (n, v) :: r, m, h => by
    unfold bindC
    rw [ag7 fun w hw => h w (List.mem_cons_of_mem _ hw)]
    split
    · rfl
    · have : x ≠ n := by rintro rfl; exact h v List.mem_cons_self
      simp [this]
theorem aq6{kindOf:Str->Option NameKind}{x:Str}{v:Value}:∀{P:List Str}{vs:List Value}{i:Nat}{m:Str->Option Value},P.Nodup->P[i]?=some x->vs[i]?=some v->kindOf x=some .local->
 bindL kindOf (P.zip vs) m x=some v
 |[],_,_,_,_,h,_,_=>by simp at h
 |_::_,[],_,_,_,_,h,_=>by simp at h
 |p::P,w::vs,0,m,nd,h1,h2,hk=>by
  simp at h1 h2;subst h1;subst h2
  show bindL kindOf ((p,w)::P.zip vs) m p=_
  unfold bindL
  rw[ae7 λv hv=>(List.nodup_cons.mp nd).1 (List.of_mem_zip hv).1,if_pos hk]
  simp
 |p::P,w::vs,i+1,m,nd,h1,h2,hk=>by
  show bindL kindOf ((p,w)::P.zip vs) m x=_
  unfold bindL
  exact aq6 (i:=i) (List.nodup_cons.mp nd).2 (by simpa using h1) (by simpa using h2) hk
theorem at6{kindOf:Str->Option NameKind}{x:Str}{v:Value}:∀{P:List Str}{vs:List Value}{i:Nat}{m:Str->Option Value},P.Nodup->P[i]?=some x->vs[i]?=some v->kindOf x≠some .local->
 bindC kindOf (P.zip vs) m x=some v
 |[],_,_,_,_,h,_,_=>by simp at h
 |_::_,[],_,_,_,_,h,_=>by simp at h
 |p::P,w::vs,0,m,nd,h1,h2,hk=>by
  simp at h1 h2;subst h1;subst h2
  show bindC kindOf ((p,w)::P.zip vs) m p=_
  unfold bindC
  rw[ag7 λv hv=>(List.nodup_cons.mp nd).1 (List.of_mem_zip hv).1,if_neg hk]
  simp
 |p::P,w::vs,i+1,m,nd,h1,h2,hk=>by
  show bindC kindOf ((p,w)::P.zip vs) m x=_
  unfold bindC
  exact at6 (i:=i) (List.nodup_cons.mp nd).2 (by simpa using h1) (by simpa using h2) hk
def iY(N:List Str)(vs:List V):St:=vs.map some++List.replicate (N.length-vs.length) none
def kY(CX:wL)(P:Program)(w:World)(K:PySem.W.Frag)(mg:Str->Option Value)(base:Heap)(N:List Str)(qual:Str)(scope:Scope)(f:Addr)(cd:Value)(A:Around)(outer:List Env)(s:Shared)(H:Hp)(E:XK):Cx where
 prog:=P
 w:=w
 K:=K
 mg:=mg
 base:=base
 A:=A.deeper (envOfC qual scope s.heap.objs.size f cd)
 N:=N
 s₀:=s
 H₀:=H
 env:=envOfC qual scope s.heap.objs.size f cd
 outer:=outer
 stack:=envOfC qual scope s.heap.objs.size f cd::outer
 ex:=[]
 calm:=true
 fn:=λ_=>true
 pn:=[]
 xe:=λe s'=>wpAny (model P w) (A.deeper (envOfC qual scope s.heap.objs.size f cd)) (leaving (envOfC qual scope s.heap.objs.size f cd) e) (λ_ s''=>CX outer H s E e s'') (λe' s''=>CX outer H s E e' s'') s'
theorem bt0{sc:Scope}{n:Nat}{x:Str}(h:sc.names.lookup x=some .cell):∃c,(cellsFrom n sc.names []).lookup x=some c:=by
 have q:=PySem.W.cellsFrom_some sc.names n [] (.inl h)
 exact Option.isSome_iff_exists.mp q
theorem bi9{CX:wL}{P:Program}{w:World}{K:PySem.W.Frag}{mg:Str->Option Value}{base:Heap}{N ps:List Str}{qual:Str}{scope:Scope}{f:Addr}{cd:Value}{A:Around}{outer:List Env}{s s1:Shared}{H:Hp}{E:XK}{us:List Value}{vs:List V}
 (S:bB N ps scope)(hd:A.handled=none)(e0:Env0 P w K mg base A outer s H)(hl:vs.length=ps.length)(r:Vals vs us)
 (x:InCallC s s.heap.objs.size (bindL (envOfC qual scope s.heap.objs.size f cd).kindOf (ps.zip us) λ_=>none) (cellsFrom (s.heap.objs.size+1) scope.names []) (bindC (envOfC qual scope s.heap.objs.size f cd).kindOf (ps.zip us) λ_=>none) s1):
 Inv (kY CX P w K mg base N qual scope f cd A outer s H E) [] (iY N vs) H s1:=by
 have hpl:ps.length<=N.length:=by have:=congrArg List.length S.pre;rw[List.length_take]at this;omega
 obtain⟨h1,tk,rfl,hk⟩:=x.done
 have noA:∀b:Addr,b∉(kY CX P w K mg base N qual scope f cd A outer s H E).ex:=λb z=>absurd (show b∈([]:List Addr) from z) (by simp)
 refine⟨⟨e0.mod,S.kind,rfl,rfl,Nat.le_refl _,λy z c h1 h2=>?_,λy hy=>?_,λy c _ h=>?_,λ_=>hd,Around.frames_deeper e0.frames,.inr ⟨rfl,rfl⟩,λb z=>absurd z (noA b),e0.bs,e0.bsz,λb _ _=>noA b,λb z=>absurd z (noA b),e0.funs,e0.frf⟩,
  rfl,e0.bare,Un.kept hk,⟨_,x.toInCall.ns,λi y v h1 h2 h3=>?_⟩,λy c h=>⟨_,x.cell y c h⟩,e0.hok.fresh (Nat.le_refl _),λy c h=>?_,λp hp=>absurd (show p∈([]:List (Addr×Obj)) from hp) (by simp),e0.hok.kept hk,?_⟩
 . exact name_of_addr x.apart (PySem.mem_of_lookup h1) (PySem.mem_of_lookup h2)
 . have hy:scope.names.lookup y=some .cell\/scope.names.lookup y=some .free:=hy
   rcases hy with hy|hy
   . exact bt0 hy
   . exact absurd rfl (S.nofree _ (PySem.mem_of_lookup hy))
 . exact Nat.le_of_lt (x.above y c (PySem.mem_of_lookup h))
 . have hi:i<vs.length:=by
    unfold iY at h2
    by_cases hi:i<vs.length
    . exact hi
    . rw[List.getElem?_append_right (by simpa using hi)]at h2
      rw[List.getElem?_replicate]at h2
      split at h2<;>cases h2
   have ha:vs[i]?=some v:=by
    unfold iY at h2
    rw[List.getElem?_append_left (by simpa using hi),List.getElem?_map]at h2
    cases e:vs[i]? with
    |none=>rw[e]at h2;cases h2
    |some a=>rw[e]at h2;cases h2;rfl
   obtain⟨u,hu,rv⟩:=r.get ha
   have hp:ps[i]?=some y:=by
    rw[<-S.pre,List.getElem?_take_of_lt (by omega)];exact h1
   have ndP:ps.Nodup:=by rw[<-S.pre];exact S.nd.sublist (List.take_sublist _ _)
   refine⟨u,rv,?_⟩
   rcases S.par y (List.mem_of_getElem? hp)with k|k
   . exact .inl ⟨k,aq6 ndP hp hu k⟩
   . obtain⟨c,e⟩:=bt0 (n:=s.heap.objs.size+1) k
     refine .inr ⟨.inl k,c,e,?_⟩
     have q:=x.cell y c e
     rw[at6 ndP hp hu (by show scope.names.lookup y≠_;rw[k];decide)]at q
     exact q
 . exact e0.hok.fresh (Nat.le_of_lt (x.above y c (PySem.mem_of_lookup h)))
 . unfold iY
   show _=N.length
   rw[List.length_append,List.length_map,List.length_replicate]
   omega
theorem da7{CX:wL}{P:Program}{w:World}{K:PySem.W.Frag}{mg:Str->Option Value}{base:Heap}{k:Nat}{f:Addr}{name qual:Str}{params:Arguments}{body:List Stmt}{scope:Scope}{dV kV doc pm cdv ct oc:Value}{an od:Option Addr}
 {osl:Array (Option Value)}{N ps:List Str}{sp:Sp}(lk:K.lookup f=some ⟨oc,od,.func (PySem.W.fnOf name qual params body scope dV kV doc pm an cdv ct),osl⟩)(hcd:PySem.W.codeIn K cdv qual=true)(S:bB N ps scope)
 (len:∀vs H Q E,sp vs H Q E->vs.length=ps.length)
 (hbody:∀(A:Around)(outer:List Env)(s:Shared)(H:Hp)(vs:List V)(Q:VK)(E:XK),Room k (A.deeper (envOfC qual scope s.heap.objs.size f cdv))->sp vs H Q E->
  ∃t,PSs (kY CX P w K mg base N qual scope f cdv A outer s H E) body t/\t {nx:=λ_ H'=>Q .non H',rt:=Q} (iY N vs) H):
 FnOk P w K mg base CX (k+1) f (PySem.W.fnOf name qual params body scope dV kV doc pm an cdv ct) ps sp:=by
 refine⟨len,λA outer s H args us vs Q E hr e0 hb r hsp=>?_⟩
 have hl:=len _ _ _ _ hsp
 have KX:K.In s.heap:=e0.mod.kin.keeps λb o e=>(e0.bs b o e).1
 have lim:s.heap.NoLimit:=e0.mod.nolimit.keeps λb o e=>(e0.bs b o e).1
 have hkind:∀y∈ps.zip us,scope.names.lookup y.1=some .local\/(scope.names.lookup y.1=some .cell/\((cellsFrom (s.heap.objs.size+1) scope.names []).lookup y.1).isSome=true):=λ⟨n,v⟩ hy=>by
  rcases S.par n (List.of_mem_zip hy).1 with q|q
  . exact .inl q
  . exact .inr ⟨q,PySem.W.cellsFrom_some _ _ _ (.inl q)⟩
 refine codeAny_call_function hr.depth (KX _ _ lk) rfl S.co S.gen rfl (PySem.W.codeRec_of KX hcd) (hb _ _ _ _ ?_)
 refine wpAny_newFunctionEnv_cells S.kind hkind λenv he s1 x=>?_
 subst he
 refine⟨lim.keeps x.toInCall.keep,codeAny_func ?_⟩
 obtain⟨t,ht,hq⟩:=hbody A outer s H vs Q E (hr.deeper _) hsp
 have I:Inv (kY CX P w K mg base N qual scope f cdv A outer s H E) [] (iY N vs) H s1:=bi9 S hr.hd e0 hl r x
 refine wpAny_mono (ht s1 (iY N vs) H _ I hq) (λfl s' hs=>?_) λe s' hs=>hs
 have bP:∀{σ':St}{H':Hp}{v:V}{u:Value},Inv (kY CX P w K mg base N qual scope f cdv A outer s H E) [] σ' H' s'->RelV v u->Q v H'->CE outer P w H s Q u s':=
  λ{σ' H' v u} J rv q=>⟨v,H',J.os,J.bare,J.base,J.hok,rv,q⟩
 cases fl with
 |ret u=>
  obtain⟨v,σ',H',J,rv,q⟩:=hs
  exact bP J rv q
 |next=>
  obtain⟨σ',H',J,q⟩:=hs
  exact bP (v:=V.non) (u:=Value.none) J rfl q
 |brk=>
  obtain⟨_,_,_,q⟩:=hs
  exact False.elim q
 |cont=>
  obtain⟨_,_,_,q⟩:=hs
  exact False.elim q
end L2
namespace L2
open PySem PySem.Spec PyProof.Rows
section
variable {X : Cx} {x : Str} {p pos : Pos} {e : Expr} {es : List Expr} {t : TA} {id T : String} {r : List V → Hp → VK → Prop}
def tCB(r:List V->Hp->VK->Prop)(t:TA):TE:=λσ H Q=>t σ H λvs H1=>r vs H1 Q
theorem aX(hc:CallR X (.builtin id) r)(hg:Gl X x)(hm:X.mg x=none)(hv:bootBuiltins x=some (.builtin id))(ha:PA X (e::es) t)(hn:x≠"__name__":=by decide)(hdb:(x==("__debug__":Str))=false:=by decide)
 (he:starEach (e::es) X.env=(false,eval e X.env)::starEach es X.env:=by rfl)(hpl:(backTo pos (starEach es X.env)).any (·.1)=false:=by rfl):PE X (.Call (.Name x p) (e::es) [] pos) (tCB r t):=by
 intro pins s σ H Q I h
 refine wpAny_Call_Name_kw (oV I hg hm hv ?_ hn hdb)
 exact PyProof.Rows.callWith_builtin1 (bY (ha pins s σ H _ I h) λus s1 ⟨vs,H1,I1,r1,q1⟩=>hc s1 σ H1 vs us Q I1 r1 q1) he hpl
theorem fP(hc:CallR X (.type T) r)(hg:Gl X x)(hm:X.mg x=none)(hv:bootBuiltins x=some (.type T))(ha:PA X (e::es) t)(hn:x≠"__name__":=by decide)(hdb:(x==("__debug__":Str))=false:=by decide)
 (he:starEach (e::es) X.env=(false,eval e X.env)::starEach es X.env:=by rfl)(hpl:(backTo pos (starEach es X.env)).any (·.1)=false:=by rfl):PE X (.Call (.Name x p) (e::es) [] pos) (tCB r t):=by
 intro pins s σ H Q I h
 refine wpAny_Call_Name_kw (oV I hg hm hv ?_ hn hdb)
 exact PyProof.Rows.callWith_type1 (bY (ha pins s σ H _ I h) λus s1 ⟨vs,H1,I1,r1,q1⟩=>hc s1 σ H1 vs us Q I1 r1 q1) he hpl
end
end L2
namespace HT
open PySem PyProof.Rows
section
open PySem.SeqAt
open PySem.AutoSeq1 (wpAny_loadPart')
open PySem.MeetsSeq PySem.MeetsSeq2 PySem.MeetsSeq3
end
section
variable {prog : Program} {w : World} {A : Around} {E : Value → Shared → Prop} {s : Shared}
theorem cat_tup(ht:IsTup s.heap t vs.toArray)(hb:IsTup s.heap b ws.toArray)(hv:vs≠[])
 (h1:ws=[]->Q (.ref t) s)(h2:ws≠[]->Q (.ref s.heap.objs.size) {s with heap:=s.heap.push {cls:=.type "tuple",data:=.seq (vs++ws).toArray}})
 (hsz:vs.length+ws.length<=sizeLine):wpAny (model prog w) A (binaryOp .Add (.ref t) (.ref b)) Q E s:=by
 obtain⟨⟨cls,dd,data,sl⟩,ho,hc,n,hd⟩:=id ht
 obtain⟨⟨cls2,dd2,data2,sl2⟩,ho2,hc2,n2,hd2⟩:=id hb
 simp only at hc hd hc2 hd2
 subst hc hd hc2 hd2
 have e:vs.toArray++ws.toArray=(vs++ws).toArray:=by simp
 by_cases hw:ws=[]
 . exact concat_meets ⟨_,ho,rfl⟩ ⟨_,ho2,rfl⟩ noFill_tuple_add seq_tuple_add PySem.F.slot_tuple_add PySem.F.entry_tuple_add (PySem.F.args_tuple_add_2 _ _)
    (tuple_addW1 t b vs.toArray ws.toArray n n2 dd dd2 sl sl2 (by simpa using hv) (by simp[hw])) ⟨ho,ho2,h1 hw⟩
 . refine concat_meets ⟨_,ho,rfl⟩ ⟨_,ho2,rfl⟩ noFill_tuple_add seq_tuple_add PySem.F.slot_tuple_add PySem.F.entry_tuple_add (PySem.F.args_tuple_add_2 _ _)
    (tuple_addW2 t b vs.toArray ws.toArray n n2 dd dd2 sl sl2 (by simpa using hv) (by simpa using hw) (by rw[List.size_toArray,List.size_toArray];exact hsz)) ⟨ho,ho2,?_⟩
   rw[e]
   exact h2 hw
def sIx(n d:Nat):Option Int->Nat
 |none=>d
 |some v=>if v<0 then(v+(n:Int)).toNat else min v.toNat n
theorem sIx_le(n d:Nat)(hd:d<=n)(o:Option Int):sIx n d o<=n:=by
 cases o with
 |none=>exact hd
 |some v=>
  show(if v<0 then(v+(n:Int)).toNat else min v.toNat n)<=n
  by_cases hv:v<0
  . rw[if_pos hv];omega
  . rw[if_neg hv];exact Nat.min_le_right _ _
theorem clip_eq(v:Int)(n d:Nat):(if v<0 then max (v+(n:Int)) 0 else min v (n:Int))=((sIx n d (some v):Nat):Int):=by
 show(if v<0 then max (v+(n:Int)) 0 else min v (n:Int))=(((if v<0 then(v+(n:Int)).toNat else min v.toNat n):Nat):Int)
 by_cases hv:v<0
 . simp only[if_pos hv];omega
 . simp only[if_neg hv];omega
theorem adjust_gen(lo hi:Option Int)(n:Nat):Builtin.Slice.sliceAdjust lo hi 1 (n:Int)=(((sIx n 0 lo:Nat):Int),((sIx n n hi:Nat):Int)):=by
 have h1:¬((1:Int)<0):=by omega
 unfold Builtin.Slice.sliceAdjust
 simp only[h1,if_false]
 refine Prod.ext ?_ ?_
 . cases lo with
   |none=>rfl
   |some v=>exact clip_eq v n 0
 . cases hi with
   |none=>rfl
   |some v=>exact clip_eq v n n
theorem places_gen(i j:Nat):Builtin.Slice.slicePlaces (i:Int) (j:Int) 1=j-i:=by
 unfold Builtin.Slice.slicePlaces
 have h1:(1:Int)>0:=by omega
 simp only[h1,if_true,Int.ediv_one]
 split<;>omega
theorem slicePart_(p:IsPart v o)(h:Q o s):wpAny (model prog w) A (Builtin.Slice.slicePartIndex v) Q E s:=by
 cases p with
 |none=>exact slicePart_none h
 |int i t=>exact slicePart_int h
theorem sliceApplied_gen {sl : Addr} {vl vu : Value} {lo hi : Option Int} {n : Nat} {Q : Int × Int × Nat → Shared → Prop} (hs : s.heap.IsSliceOf sl vl vu .none) (pl : IsPart vl lo) (pu : IsPart vu hi)
    (h : Q (((sIx n 0 lo : Nat) : Int), 1, sIx n n hi - sIx n 0 lo) s) : wpAny (model prog w) A (Builtin.Slice.sliceApplied (.ref sl) (pure (n : Int))) Q E s := by
  obtain ⟨os, hos, hcs, hds⟩ := id hs
  unfold Builtin.Slice.sliceApplied Builtin.Slice.sliceFields
  refine wpAny_bind (wpAny_bind (wpAny_field hos hds (x := vl) rfl (wpAny_bind (wpAny_field hos hds (x := vu) rfl (wpAny_bind (wpAny_field hos hds (x := .none) rfl (wpAny_pure ?_)))))))
  refine wpAny_bind (slicePart_none ?_)
  show wpAny _ _ (if ((1 : Int) == 0) = true then _ else _) _ _ s
  rw [if_neg (by decide)]
  refine wpAny_bind (slicePart_ pl (wpAny_bind (slicePart_ pu (wpAny_bind (wpAny_pure ?_)))))
  show wpAny _ _ (match Builtin.Slice.sliceAdjust lo hi 1 (n : Int) with | (lo, hi) => pure (lo, (1 : Int), Builtin.Slice.slicePlaces lo hi 1)) _ _ s
  rw [adjust_gen lo hi n]
  show wpAny _ _ (pure (((sIx n 0 lo : Nat) : Int), (1 : Int), Builtin.Slice.slicePlaces ((sIx n 0 lo : Nat) : Int) ((sIx n n hi : Nat) : Int) 1)) _ _ s
  rw [places_gen]
  exact wpAny_pure h
theorem pick_gen(xs:Array Value)(i k:Nat):((List.range k).filterMap λ(m:Nat)=>xs[((i:Int)+(m:Int)*1).toNat]?).toArray=((xs.toList.drop i).take k).toArray:=by
 have e:(λ(m:Nat)=>xs[((i:Int)+(m:Int)*1).toNat]?)=λm=>xs[i+m]?:=by
  funext m
  have:((i:Int)+(m:Int)*1).toNat=i+m:=by omega
  rw[this]
 rw[e]
 have:=pick_run xs i k
 rw[List.filterMap_map]at this
 have e2:((λx=>xs[x]?)∘λx=>i+x)=λm=>xs[i+m]?:=rfl
 rw[e2]at this
 rw[this]
theorem getItem_tuple_cut{t sl:Addr}{items:Array Value}{vl vu:Value}{lo hi:Option Int}{Q:Value->Shared->Prop}(ht:IsTup s.heap t items)(hs:s.heap.IsSliceOf sl vl vu .none)(pl:IsPart vl lo)(pu:IsPart vu hi)
 (hw:¬(sIx items.size 0 lo=0/\sIx items.size items.size hi=items.size))
 (h:Q (.ref s.heap.objs.size) {s with heap:=s.heap.push {cls:=.type "tuple",data:=.seq ((items.toList.drop (sIx items.size 0 lo)).take (sIx items.size items.size hi-sIx items.size 0 lo)).toArray}})
 (hsz:items.size<=sizeLine):wpAny (model prog w) A (getItem (.ref t) (.ref sl)) Q E s:=by
 have htake:sizeOk (.seq ((items.toList.drop (sIx items.size 0 lo)).take (sIx items.size items.size hi-sIx items.size 0 lo)).toArray):=by
  show((items.toList.drop (sIx items.size 0 lo)).take (sIx items.size items.size hi-sIx items.size 0 lo)).toArray.size<=sizeLine
  rw[List.size_toArray,List.length_take,List.length_drop,Array.length_toList]
  omega
 have hj:sIx items.size items.size hi<=items.size:=sIx_le _ _ (Nat.le_refl _) hi
 obtain⟨os,hos,hcs,hds⟩:=id hs
 have hTs:s.TypeIs (.ref sl) "slice":=⟨os,hos,hcs⟩
 unfold getItem
 try with_reducible refine wpAny_holding ?_
 first|refine wpAny_bind (wpAny_pure ?_)|skip
 refine wpAny_bind (wpAny_sequenceKey ht.typeIs (by decide) ?_)
 refine wpAny_bind (wpAny_callSpecial?_slot (name:=Str.ofString "__getitem__") ht.typeIs PyProof.Rows.slot_tuple_getitem
  (wpAny_call_entry PyProof.Rows.slot_tuple_getitem ht.typeIs entry_tuple_getitem ?_ (args_tuple_getitem _ _)))
 show wpAny _ _ (Builtin.Tuple.tupleItemsOf (.ref t)>>=_) _ _ s
 refine wpAny_bind (tupleItemsOf_ ht ?_)
 refine wpAny_bind (wpAny_typeOf hTs ?_)
 rw[if_pos (by decide)]
 refine wpAny_bind (sliceApplied_gen hs pl pu ?_)
 have hno:¬((((sIx items.size 0 lo:Nat):Int)==0&&(1:Int)==1&&(sIx items.size items.size hi-sIx items.size 0 lo)==items.size)=true):=by
  intro q
  rw[Bool.and_eq_true,Bool.and_eq_true]at q
  have q1:((sIx items.size 0 lo:Nat):Int)=0:=eq_of_beq q.1.1
  have q2:sIx items.size items.size hi-sIx items.size 0 lo=items.size:=eq_of_beq q.2
  exact hw ⟨by omega,by omega⟩
 show wpAny _ _ (if(((sIx items.size 0 lo:Nat):Int)==0&&(1:Int)==1&&(sIx items.size items.size hi-sIx items.size 0 lo)==items.size)=true then _ else _) _ _ s
 rw[if_neg hno,pick_gen]
 first
  |exact wpAny_bind (m:=Builtin.Tuple.tupleExact _) (wpAny_newObj_type (wpAny_pure ⟨_,rfl,wpAny_pure h⟩) htake)
  |exact wpAny_bind (m:=Builtin.Tuple.tupleExact _) (wpAny_newObj_type (wpAny_bind (wpAny_pure (wpAny_pure ⟨_,rfl,wpAny_pure h⟩))) htake)
  |exact wpAny_bind (wpAny_bind (m:=Builtin.Tuple.tupleExact _) (wpAny_newObj_type (wpAny_pure (wpAny_pure ⟨_,rfl,wpAny_pure h⟩)) htake))
  |exact wpAny_bind (wpAny_bind (m:=Builtin.Tuple.tupleExact _) (wpAny_newObj_type (wpAny_pure ⟨_,rfl,wpAny_pure h⟩) htake))
end
end HT
namespace L2
open PySem PySem.Spec PyProof.Rows
abbrev TO:=St->Hp->(Option Int->Hp->Prop)->Prop
def PO(X:Cx)(e:Option Expr)(t:TO):Prop:=
 ∀⦃pins:List (Addr×Obj)⦄ (s:Shared)(σ:St)(H:Hp)(Q:Option Int->Hp->Prop),Inv X pins σ H s->t σ H Q->
  wpAny (model X.prog X.w) X.A (evalPart e X.env) (λu s'=>∃o H',Inv X pins σ H' s'/\IsPart u o/\Q o H') X.xe s
def bl4:TO:=λ_ H Q=>Q none H
def cs5(t:TE):TO:=λσ H Q=>t σ H λx H1=>∃i,x=.int i/\Q (some i) H1
theorem am1:∀{us:List Value},Vals (ns.map V.int) us->IntsAre us ns:=by
 induction ns with
 |nil=>intro us r;rw[List.map_nil]at r;cases r;exact .nil
 |cons n ns ih=>
  intro us r
  rw[List.map_cons]at r
  cases r with
  |cons r1 r2=>
   obtain⟨t,e⟩:=r1
   subst e
   exact .cons n t (ih r2)
section
variable {X : Cx} {e : Expr} {te : TE} {lo hi : Option Expr} {tl th : TO} {pos p2 : Pos}
theorem kM:PO X none bl4:=by
 intro pins s σ H Q I h
 rw[evalPart_none]
 exact wpAny_pure ⟨none,H,I,.none,h⟩
theorem gT(h:PE X e te):PO X (some e) (cs5 te):=by
 intro pins s σ H Q I hw
 rw[evalPart_some]
 refine bY (h s σ H _ I hw) λu s1 ⟨x,H1,I1,r1,q1⟩=>?_
 obtain⟨i,rfl,q⟩:=q1
 obtain⟨t,rfl⟩:=r1
 exact⟨some i,H1,I1,.int i t,q⟩
def SlR(X:Cx)(r:V->Option Int->Option Int->Hp->VK->Prop):Prop:=
 ∀⦃pins:List (Addr×Obj)⦄ (s:Shared)(σ:St)(H:Hp)(x:V)(v vl vu:Value)(lo hi:Option Int)(sl:Addr)(Q:VK),Inv X pins σ H s->RelV x v->s.heap.IsSliceOf sl vl vu .none->IsPart vl lo->IsPart vu hi->r x lo hi H Q->
  ∃T id,typeLookup (.type T) "__getitem__"=pure (some (.builtin id))/\s.TypeIs v T/\wpAny (model X.prog X.w) X.A (getItem v (.ref sl)) (EP X pins σ Q) X.xe s
theorem SlR.or(h:SlR X r)(h':SlR X r'):SlR X (λx lo hi H Q=>r x lo hi H Q\/r' x lo hi H Q):=by
 intro pins s σ H x v vl vu lo hi sl Q I rx hs pl pu q
 rcases q with q|q
 . exact h s σ H x v vl vu lo hi sl Q I rx hs pl pu q
 . exact h' s σ H x v vl vu lo hi sl Q I rx hs pl pu q
def tSl(r:V->Option Int->Option Int->Hp->VK->Prop)(te:TE)(tl th:TO):TE:=λσ H Q=>te σ H λx H1=>tl σ H1 λl H2=>th σ H2 λu H3=>r x l u H3 Q
theorem hU(hr:SlR X r)(he:PE X e te)(hl:PO X lo tl)(hu:PO X hi th):PE X (.Subscript e (.Slice lo hi none p2) pos) (tSl r te tl th):=by
 intro pins s σ H Q I h
 refine Subscript_ (bY (he s σ H _ I h) λv s1 ⟨x,H1,I1,r1,q1⟩=>?_)
 refine wpAny_Slice (bY (hl s1 σ H1 _ I1 q1) λvl s2 ⟨l,H2,I2,pl,q2⟩=>bY (hu s2 σ H2 _ I2 q2) λvu s3 ⟨u,H3,I3,pu,q3⟩=>?_)
 rw[evalPart_none]
 refine wpAny_pure ?_
 have I4:Inv X pins σ H3 {s3 with heap:=s3.heap.push {cls:=.type "slice",data:=.fields #[vl,vu,.none]}}:=I3.kept (t':=s3.toks) λb ob q=>Heap.get?_push_of_some _ q
 obtain⟨T,id,hT,ht,hg⟩:=hr {s3 with heap:=s3.heap.push {cls:=.type "slice",data:=.fields #[vl,vu,.none]}} σ H3 x v vl vu l u s3.heap.objs.size Q I4 r1 (Heap.IsSliceOf.new ..) pl pu q3
 show wpAny (model X.prog X.w) X.A (subscriptTail e (.Slice lo hi none p2) v (.ref s3.heap.objs.size)) (EP X pins σ Q) X.xe {s3 with heap:=s3.heap.push {cls:=.type "slice",data:=.fields #[vl,vu,.none]}}
 exact tail_any (ops:=[.ref s3.heap.objs.size,v]) ht hT hg (by with_unfolding_all rfl)
def xX(xs:List V)(lo hi:Option Int):List V:=(xs.drop (HT.sIx xs.length 0 lo)).take (HT.sIx xs.length xs.length hi-HT.sIx xs.length 0 lo)
theorem zP(xs:List V)(lo hi:Option Int):(xX xs lo hi).length<=xs.length:=by
 unfold xX
 rw[List.length_take,List.length_drop]
 omega
def db5(K:PySem.W.Frag):V->Option Int->Option Int->Hp->VK->Prop:=λx lo hi H Q=>∃a xs,x=.ref a/\SqT K H a xs/\
 ¬(HT.sIx xs.length 0 lo=0/\HT.sIx xs.length xs.length hi=xs.length)/\∀p,H p=none->Q (.ref p) (upd H p (.tup (xX xs lo hi)))
theorem dv1:SlR X (db5 X.K):=by
 intro pins s σ H x v vl vu lo hi sl Q I rx hs pl pu h
 obtain⟨a,xs,rfl,hx,hw,q⟩:=h
 cases rx
 obtain⟨its,r,ht,hz⟩:=I.tuple hx
 have hlen:its.toArray.size=xs.length:=by rw[List.size_toArray];exact r.length.symm
 refine⟨"tuple",_,PyProof.Rows.slot_tuple_getitem.lookup,ht.typeIs,?_⟩
 refine HT.getItem_tuple_cut ht hs pl pu (by rw[hlen];exact hw) ?_ (by rw[hlen];exact hz)
 rw[hlen]
 refine⟨.ref s.heap.objs.size,_,I.laid (t':=s.toks) (o:=.tup (xX xs lo hi)) (λb ob q=>Heap.get?_push_of_some _ q) (Nat.le_refl _) ?_,rfl,q _ (I.hok.fresh (Nat.le_refl _))⟩
 exact⟨Nat.le_trans (zP xs lo hi) hz,_,(r.drop (HT.sIx xs.length 0 lo)).take (HT.sIx xs.length xs.length hi-HT.sIx xs.length 0 lo),IsTup.new _ _⟩
def cw5(K:PySem.W.Frag):R2:=λx y H Q=>∃a b xs ys,x=.ref a/\y=.ref b/\SqT K H a xs/\SqT K H b ys/\xs≠[]/\xs.length+ys.length<=sizeLine/\
 (ys=[]->Q (.ref a) H)/\(ys≠[]->∀p,H p=none->Q (.ref p) (upd H p (.tup (xs++ys))))
theorem Vals.nil_iff(r:Vals xs us):us=[]↔xs=[]:=by
 cases r with
 |nil=>simp
 |cons _ _=>simp
theorem cz8:OpR X (binaryOp .Add) (cw5 X.K):=by
 intro pins s σ H x y v u Q I rx ry h
 obtain⟨a,b,xs,ys,rfl,rfl,ha,hb,hx,hz,q1,q2⟩:=h
 cases rx
 cases ry
 obtain⟨its,r1,p1,_⟩:=I.tuple ha
 obtain⟨its2,r2,p2,_⟩:=I.tuple hb
 refine HT.cat_tup p1 p2 (λz=>hx (r1.nil_iff.mp z)) (λz=>⟨.ref a,H,I,rfl,q1 (r2.nil_iff.mp z)⟩) (λz=>?_) (by rw[<-r1.length,<-r2.length];exact hz)
 refine⟨.ref s.heap.objs.size,_,I.laid (t':=s.toks) (o:=.tup (xs++ys)) (λb ob q=>Heap.get?_push_of_some _ q) (Nat.le_refl _) ?_,rfl,q2 (λw=>z (r2.nil_iff.mpr w)) _ (I.hok.fresh (Nat.le_refl _))⟩
 exact⟨by rw[List.length_append];exact hz,_,r1.append r2,IsTup.new _ _⟩
end
end L2
namespace L2
open PySem PySem.Spec PyProof.Rows
def sV(n:Nat)(i:Int):Option Nat:=if 0<=i then(if i<n then some i.toNat else none)else if -(n:Int)<=i then some (i+n).toNat else none
def atI{α:Type}(xs:List α)(i:Int):Option α:=(sV xs.length i).bind λj=>xs[j]?
theorem ad4(h:sV n i=some j):seqIndex? i n=some j/\j<n/\-(n:Int)<=i/\i<n:=by
 unfold sV at h
 by_cases h0:0<=i
 . rw[if_pos h0]at h
   by_cases h1:i<n
   . rw[if_pos h1]at h
     have e:i.toNat=j:=Option.some.inj h
     exact⟨by rw[seqIndex_of h0 h1,e],by omega,by omega,h1⟩
   . rw[if_neg h1]at h;cases h
 . rw[if_neg h0]at h
   by_cases h1:-(n:Int)<=i
   . rw[if_pos h1]at h
     have e:(i+n).toNat=j:=Option.some.inj h
     exact⟨by rw[seqIndex_neg (by omega) h1,e],by omega,h1,by omega⟩
   . rw[if_neg h1]at h;cases h
theorem an4(h:atI xs i=some v):∃j,seqIndex? i xs.length=some j/\xs[j]?=some v/\j<xs.length/\-(xs.length:Int)<=i/\i<xs.length:=by
 unfold atI at h
 cases e:sV xs.length i with
 |none=>rw[e]at h;cases h
 |some j=>
  rw[e]at h
  obtain⟨h1,h2,h3,h4⟩:=ad4 e
  exact⟨j,h1,h,h2,h3,h4⟩
theorem eP{α:Type}{xs:List α}{j:Nat}{v:α}(h:xs[j]?=some v):atI xs (j:Int)=some v:=by
 have hj:j<xs.length:=(List.getElem?_eq_some_iff.mp h).1
 have e:sV xs.length (j:Int)=some j:=by
  unfold sV
  rw[if_pos (by omega),if_pos (by omega)];simp
 unfold atI;rw[e];exact h
def bx3(b:Expr):Prop:=∀o i,subscripted b false o i=operate [o,i] (getItem o i)
def IxR(X:Cx)(r:R2):Prop:=
 ∀(value slice:Expr)(pins:List (Addr×Obj))(s:Shared)(σ:St)(H:Hp)(x y:V)(v u:Value)(Q:VK),Inv X pins σ H s->RelV x v->RelV y u->r x y H Q->
  subscripted slice false v u=operate [v,u] (getItem v u)->wpAny (model X.prog X.w) X.A (subscriptTail value slice v u) (EP X pins σ Q) X.xe s
def MtR(X:Cx)(id:String)(r:V->List V->Hp->VK->Prop):Prop:=
 ∀⦃pins:List (Addr×Obj)⦄ (s:Shared)(σ:St)(H:Hp)(x:V)(xs:List V)(v:Value)(us:List Value)(Q:VK),Inv X pins σ H s->RelV x v->Vals xs us->r x xs H Q->
  wpAny (model X.prog X.w) X.A (call (.builtin id) (v::us)) (EP X pins σ Q) X.xe s
section
variable {X : Cx} {a b : Expr} {ta tb : TE} {pos : Pos}
theorem IxR.or(h:IxR X r)(h':IxR X r'):IxR X (λx y H Q=>r x y H Q\/r' x y H Q):=by
 intro value slice pins s σ H x y v u Q I rx ry q hs
 rcases q with q|q
 . exact h value slice pins s σ H x y v u Q I rx ry q hs
 . exact h' value slice pins s σ H x y v u Q I rx ry q hs
theorem df6(hr:IxR X r)(ha:PE X a ta)(hb:PE X b tb)(hs:bx3 b):PE X (.Subscript a b pos) (tOp r ta tb):=by
 intro pins s σ H Q I h
 exact Subscript_ (cq1 ha hb I h λv u s2 x y H2 I2 rx ry q=>hr a b pins s2 σ H2 x y v u Q I2 rx ry q (hs _ _))
def dq2(K:PySem.W.Frag):R2:=λx y H Q=>∃p xs i v,x=.ref p/\y=.int i/\SqL K H p xs/\atI xs i=some v/\Q v H
def dz3(K:PySem.W.Frag):R2:=λx y H Q=>∃p xs i v,x=.ref p/\y=.int i/\SqT K H p xs/\atI xs i=some v/\Q v H
def dz1:R2:=λx y H Q=>∃z i c,x=.str z/\y=.int i/\z.length<=sizeLine/\atI z.cps.toList i=some c/\Q (.str ⟨#[c]⟩) H
theorem ix_list:IxR X (dq2 X.K):=by
 intro value slice pins s σ H x y v u Q I rx ry h hs
 obtain⟨p,xs,i,z,rfl,rfl,hq,he,q⟩:=h
 cases rx
 obtain⟨t,rfl⟩:=ry
 obtain⟨its,r,pl,hz⟩:=I.list hq
 obtain⟨j,h1,h2,h3,h4,h5⟩:=an4 he
 obtain⟨w,ew,rw'⟩:=r.get h2
 have hl:=r.length
 have hn:=uJ
 have bP:EP X pins σ Q w s:=⟨z,H,I,rw',q⟩
 by_cases h0:0<=i
 . have hj:i.toNat=j:=by
    rw[seqIndex_of h0 h5]at h1
    exact Option.some.inj h1
   exact item_listR pl.isList h0 (by omega) (by rw[hj];simpa using ew) bP hs
 . have hj:(i+(its.toArray.size:Int)).toNat=j:=by
    rw[seqIndex_neg (by omega) h4]at h1
    rw[List.size_toArray,<-hl]
    exact Option.some.inj h1
   exact subscriptTail_builtinR (x:=w) pl.isList.typeIs slot_list_getitem.lookup
    (wpAny_getItem_list_neg (Q:=λr s'=>r=w/\EP X pins σ Q r s') pl.isList (by omega) (by rw[List.size_toArray]<;>omega) (by omega) (by rw[hj];simpa using ew) ⟨rfl,bP⟩) hs
theorem ix_tup:IxR X (dz3 X.K):=by
 intro value slice pins s σ H x y v u Q I rx ry h hs
 obtain⟨p,xs,i,z,rfl,rfl,hq,he,q⟩:=h
 cases rx
 obtain⟨t,rfl⟩:=ry
 obtain⟨its,r,pl,hz⟩:=I.tuple hq
 obtain⟨j,h1,h2,h3,h4,h5⟩:=an4 he
 obtain⟨w,ew,rw'⟩:=r.get h2
 have hl:=r.length
 have hn:=uJ
 have bP:EP X pins σ Q w s:=⟨z,H,I,rw',q⟩
 exact subscriptTail_builtinR (x:=w) pl.typeIs slot_tuple_getitem.lookup
  (getItem_tuple (j:=j) (Q:=λr s'=>r=w/\EP X pins σ Q r s') pl (by omega) (by omega) (by rw[List.size_toArray,<-hl];exact h1) (by simpa using ew) ⟨rfl,bP⟩) hs
theorem de1:IxR X dz1:=by
 intro value slice pins s σ H x y v u Q I rx ry h hs
 obtain⟨z,i,c,rfl,rfl,hz,he,q⟩:=h
 obtain⟨t,rfl⟩:=rx
 obtain⟨t',rfl⟩:=ry
 obtain⟨j,h1,h2,h3,h4,h5⟩:=an4 he
 have hl:z.cps.toList.length=z.length:=by simp[Str.length]
 rw[hl]at h1 h4 h5
 have hn:=uJ
 exact tail_any (typeIs_str s z t) slot_str_getitem.lookup (getItem_str (c:=c) (by
  have e1:decide (i< -(2^63:Int))=false:=decide_eq_false (by omega)
  have e2:decide (i>=2^63)=false:=decide_eq_false (by omega)
  rw[e1,e2,Bool.or_false]) (by rw[h1];simpa using h2) ⟨.str ⟨#[c]⟩,H,I.tok _,⟨_,rfl⟩,q⟩) hs
def rIx(K:PySem.W.Frag):R2:=λx y H Q=>dq2 K x y H Q\/dz3 K x y H Q\/dz1 x y H Q
theorem dn3:IxR X (rIx X.K):=ix_list.or (ix_tup.or de1)
theorem bi5(its:List Value)(n j:Nat)(u:Value):Obj.mapSeq (·.setIfInBounds j u) {cls:=.type "list",data:=.seq its.toArray n}={cls:=.type "list",data:=.seq (its.set j u).toArray n}:=by
 simp[Obj.mapSeq]
theorem Inv.lst{pins:List (Addr×Obj)}{σ:St}{H:Hp}{s:Shared}{p:Addr}{xs:List V}(I:Inv X pins σ H s)(h:H p=some (.lst xs)):
 ∃(its:List Value)(n:Nat),Vals xs its/\s.heap.get? p=some {cls:=.type "list",data:=.seq its.toArray n}/\xs.length<=sizeLine:=by
 obtain⟨z,its,n,r,e⟩:=I.hok p _ h
 exact⟨its,n,r,e,z⟩
theorem Inv.lstUpd{pins:List (Addr×Obj)}{σ:St}{H:Hp}{s:Shared}{p:Addr}{xs ys:List V}{its its':List Value}{n n':Nat}{f:Obj->Obj}(I:Inv X pins σ H s)(h:H p=some (.lst xs))
 (ho:s.heap.get? p=some {cls:=.type "list",data:=.seq its.toArray n})(hf:f {cls:=.type "list",data:=.seq its.toArray n}={cls:=.type "list",data:=.seq its'.toArray n'})(r:Vals ys its')(hz:ys.length<=sizeLine)(t:Nat):
 Inv X pins σ (upd H p (.lst ys)) {s with heap:=s.heap.update p f,toks:=t}:=by
 have e:(s.heap.update p f).get? p=some {cls:=.type "list",data:=.seq its'.toArray n'}:=by
  rw[Heap.get?_update_self f ho (by rw[hf]<;>rfl),hf]
 refine I.write (x:=p) (e:=p) (by rw[h];trivial) (.inl rfl) (λb u hb q=>(Heap.get?_update_other _ _ (Ne.symm hb)).trans q) ⟨_,e⟩ ?_
 exact⟨hz,its',n',r,e⟩
def cx5:V->V->V->Hp->(Hp->Prop)->Prop:=λo i v H Q=>∃p xs k j,o=.ref p/\i=.int k/\H p=some (.lst xs)/\sV xs.length k=some j/\Q (upd H p (.lst (xs.set j v)))
theorem af9:du3 X cx5:=by
 intro pins s σ H o i v ov iv u Q I ro ri rv h
 obtain⟨p,xs,k,j,rfl,rfl,hp,hj,q⟩:=h
 cases ro
 obtain⟨t,rfl⟩:=ri
 obtain⟨its,n,r,ho,hz⟩:=I.lst hp
 obtain⟨h1,h2,h3,h4⟩:=ad4 hj
 have hl:=r.length
 have hn:=uJ
 have I':Inv X pins σ (upd H p (.lst (xs.set j v))) {s with heap:=s.heap.update p (Obj.mapSeq (·.setIfInBounds j u))}:=
  I.lstUpd hp ho (bi5 its n j u) (r.set rv j) (by rw[List.length_set];exact hz) s.toks
 by_cases h0:0<=k
 . have hk:k.toNat=j:=by
    rw[seqIndex_of h0 h4]at h1
    exact Option.some.inj h1
   exact PySem.W.ki_setAt ho h0 (by omega) (by rw[List.size_toArray,<-hl];exact h4) (by rw[hk];exact⟨_,I',q⟩)
 . have hk:(k+(its.toArray.size:Int)).toNat=j:=by
    rw[seqIndex_neg (by omega) h3]at h1
    rw[List.size_toArray,<-hl]
    exact Option.some.inj h1
   exact PySem.W.ki_setBack ho (by omega) (by rw[List.size_toArray,<-hl];exact h3) (by omega) (by rw[hk];exact⟨_,I',q⟩)
theorem bp1(lo hi:Option Int)(n:Nat):(sliceBounds lo hi none n).1=((HT.sIx n 0 lo:Nat):Int)/\(sliceBounds lo hi none n).2.1=((HT.sIx n n hi:Nat):Int)/\(sliceBounds lo hi none n).2.2=1:=by
 refine⟨?_,?_,rfl⟩
 . cases lo with
   |none=>simp[sliceBounds,HT.sIx]
   |some i=>
    simp only[sliceBounds,HT.sIx,Option.getD_none,show(1:Int)>0 by decide,if_true]
    by_cases h:i<0
    . simp only[h,if_true]<;>omega
    . simp only[h,if_false]<;>omega
 . cases hi with
   |none=>simp[sliceBounds,HT.sIx]
   |some i=>
    simp only[sliceBounds,HT.sIx,Option.getD_none,show(1:Int)>0 by decide,if_true]
    by_cases h:i<0
    . simp only[h,if_true]<;>omega
    . simp only[h,if_false]<;>omega
theorem as7(its:List Value)(lo hi:Option Int):slicePick its.toArray lo hi none=((its.drop (HT.sIx its.length 0 lo)).take (HT.sIx its.length its.length hi-HT.sIx its.length 0 lo)).toArray:=by
 obtain⟨h1,h2,h3⟩:=bp1 lo hi its.toArray.size
 unfold slicePick
 rw[h1,h2,h3]
 simp only[sliceRange_one,pick_run,List.size_toArray]<;>rfl
def dn4(K:PySem.W.Frag):V->Option Int->Option Int->Hp->VK->Prop:=λx lo hi H Q=>∃a xs,x=.ref a/\SqL K H a xs/\∀p,H p=none->Q (.ref p) (upd H p (.lst (xX xs lo hi)))
theorem cy9:SlR X (dn4 X.K):=by
 intro pins s σ H x v vl vu lo hi sl Q I rx hs pl pu h
 obtain⟨a,xs,rfl,hx,q⟩:=h
 cases rx
 obtain⟨its,r,ht,hz⟩:=I.list hx
 have hlen:=r.length
 refine⟨"list",_,slot_list_getitem.lookup,ht.isList.typeIs,?_⟩
 refine wpAny_getItem_list_slice ht.isList hs pl pu .none (by simp) ?_ (by rw[List.size_toArray]<;>omega)
 rw[as7,<-hlen]
 refine⟨.ref s.heap.objs.size,_,I.laid (t':=s.toks) (o:=.lst (xX xs lo hi)) (λb ob q=>Heap.get?_push_of_some _ q) (Nat.le_refl _) ?_,rfl,q _ (I.hok.fresh (Nat.le_refl _))⟩
 exact⟨Nat.le_trans (zP xs lo hi) hz,_,0,(r.drop (HT.sIx xs.length 0 lo)).take (HT.sIx xs.length xs.length hi-HT.sIx xs.length 0 lo),Heap.get?_push_size _ rfl⟩
def pT:V->Bool
 |.non=>true
 |.bl _=>true
 |.int _=>true
 |.str _=>true
 |_=>false
def eqV:V->V->Bool
 |.non,.non=>true
 |.bl a,.bl b=>a==b
 |.bl a,.int b=>(if a then 1 else 0)==b
 |.int a,.bl b=>a==(if b then 1 else 0)
 |.int a,.int b=>a==b
 |.str a,.str b=>a==b
 |_,_=>false
theorem ce0(ry:RelV y u)(rx:RelV x v)(fy:pT y=true)(fx:pT x=true):SeqAt.EqAt A s u v (eqV y x):=by
 cases y with
 |non=>
  cases ry
  cases x with
  |non=>cases rx;exact SeqAt.EqAt.same _
  |bl b=>cases rx;exact SeqAt.EqAt.none_bool b
  |int b=>obtain⟨t,rfl⟩:=rx;exact SeqAt.EqAt.none_int b t
  |str b=>obtain⟨t,rfl⟩:=rx;exact SeqAt.EqAt.none_str b t
  |_=>exact absurd (show false=true from fx) Bool.false_ne_true
 |bl a=>
  cases ry
  cases x with
  |non=>cases rx;exact SeqAt.EqAt.bool_none a
  |bl b=>cases rx;exact SeqAt.EqAt.bool_bool a b
  |int b=>obtain⟨t,rfl⟩:=rx;exact SeqAt.EqAt.bool_int a b t
  |str b=>obtain⟨t,rfl⟩:=rx;exact SeqAt.EqAt.bool_str a b t
  |_=>exact absurd (show false=true from fx) Bool.false_ne_true
 |int a=>
  obtain⟨t',rfl⟩:=ry
  cases x with
  |non=>cases rx;exact SeqAt.EqAt.int_none a t'
  |bl b=>cases rx;exact SeqAt.EqAt.int_bool a t' b
  |int b=>obtain⟨t,rfl⟩:=rx;exact SeqAt.EqAt.int_int a t' b t
  |str b=>obtain⟨t,rfl⟩:=rx;exact SeqAt.EqAt.int_str a t' b t
  |_=>exact absurd (show false=true from fx) Bool.false_ne_true
 |str a=>
  obtain⟨t',rfl⟩:=ry
  cases x with
  |non=>cases rx;exact SeqAt.EqAt.str_none a t'
  |bl b=>cases rx;exact SeqAt.EqAt.str_bool a t' b
  |int b=>obtain⟨t,rfl⟩:=rx;exact SeqAt.EqAt.str_int a t' b t
  |str b=>obtain⟨t,rfl⟩:=rx;exact SeqAt.EqAt.str_str a t' b t
  |_=>exact absurd (show false=true from fx) Bool.false_ne_true
 |_=>exact absurd (show false=true from fy) Bool.false_ne_true
theorem CallR.or(h:CallR X f r)(h':CallR X f r'):CallR X f (λxs H Q=>r xs H Q\/r' xs H Q):=by
 intro pins s σ H xs us Q I rs q
 rcases q with q|q
 . exact h s σ H xs us Q I rs q
 . exact h' s σ H xs us Q I rs q
theorem bq0:CallR X (.type "list") (λxs H Q=>∃p ys,xs=[.ref p]/\(SqL X.K H p ys\/SqT X.K H p ys)/\∀l,H l=none->Q (.ref l) (upd H l (.lst ys))):=by
 intro pins s σ H xs us Q I r h
 obtain⟨p,ys,rfl,hq,q⟩:=h
 obtain⟨u,rfl,rx⟩:=aw2 r
 cases rx
 have bP:∀(its:List Value),Vals ys its->ys.length<=sizeLine->∀(h':Heap)(c':Nat),(∀b o',s.heap.get? b=some o'->h'.get? b=some o')->
  h'.get? s.heap.objs.size=some {cls:=.type "list",dict:=none,data:=.seq its.toArray c',slots:=#[]}->EP X pins σ Q (.ref s.heap.objs.size) {s with heap:=h'}:=λits r' hz h' c' kp e=>
  ⟨.ref s.heap.objs.size,_,I.laid (t':=s.toks) kp (Nat.le_refl _) (show ObjOk X.prog X.w _ h' _ (.lst ys) from⟨hz,its,c',r',e⟩),rfl,q _ (I.hok.fresh (Nat.le_refl _))⟩
 rcases hq with hq|hq
 . obtain⟨its,r',pl,hz⟩:=I.list hq
   have hlen:=r'.length
   obtain⟨o,ho,hc,n,hd⟩:=pl.isList
   exact call_list_seq p (.inl rfl) ho hc hd (λh' c' kp e=>bP its r' hz h' c' kp e) (by simp only[List.size_toArray]<;>omega)
 . obtain⟨its,r',pl,hz⟩:=I.tuple hq
   have hlen:=r'.length
   obtain⟨o,ho,hc,n,hd⟩:=pl
   exact call_list_seq p (.inr rfl) ho hc hd (λh' c' kp e=>bP its r' hz h' c' kp e) (by simp only[List.size_toArray]<;>omega)
def tyV(K:PySem.W.Frag)(T:String)(x:V)(H:Hp):Prop:=match x with
 |.str _=>T="str"
 |.int _=>T="int"
 |.ref p=>(T="list"/\∃xs,SqL K H p xs)\/(T="tuple"/\∃o,K.lookup p=some o/\o.cls=.type "tuple"/\o.dict=none)\/
  (T="dict"/\((∃kvs,H p=some (.dK kvs))\/∃kvs,H p=some (.dT kvs)))\/(T="set"/\∃S n,H p=some (.set S n))
 |_=>False
theorem du0(I:Inv X pins σ H s)(r:RelV x v)(ty:tyV X.K T x H):
 s.TypeIs v T/\∀a,v=.ref a->∃ob,s.heap.get? a=some ob/\ob.dict=none:=by
 cases x with
 |str z=>
  obtain⟨t,rfl⟩:=r
  cases(show T="str" from ty)
  exact⟨typeIs_str s z t,λ_ e=>nomatch e⟩
 |int i=>
  obtain⟨t,rfl⟩:=r
  cases(show T="int" from ty)
  exact⟨typeIs_int s i t,λ_ e=>nomatch e⟩
 |ref p=>
  cases r
  rcases ty with⟨rfl,xs,hq⟩|⟨rfl,o,hk,hc,hd⟩|⟨rfl,hk⟩|⟨rfl,S,n,hk⟩
  . obtain⟨its,_,pl,_⟩:=I.list hq
    refine⟨pl.isList.typeIs,λa e=>?_⟩
    cases e
    obtain⟨o,n,e,c,hd,_⟩:=pl
    exact⟨o,e,hd⟩
  . refine⟨⟨o,I.kIn p o hk,hc⟩,λa e=>?_⟩
    cases e
    exact⟨o,I.kIn _ o hk,hd⟩
  . have z:∃o,s.heap.get? p=some o/\o.ExactDict:=by
     rcases hk with⟨kvs,hk⟩|⟨kvs,hk⟩
     . obtain⟨_,_,_,_,o,_,_,e,ex,_⟩:=I.hok p _ hk
       exact⟨o,e,ex⟩
     . obtain⟨_,_,_,_,o,_,_,e,ex,_⟩:=I.hok p _ hk
       exact⟨o,e,ex⟩
    obtain⟨o,e,ex⟩:=z
    refine⟨⟨o,e,ex.1⟩,λa e2=>?_⟩
    cases e2
    exact⟨o,e,ex.2.1⟩
  . obtain⟨o,_,_,_,e,ex,_⟩:=I.hok p _ hk
    refine⟨⟨o,e,ex.1⟩,λa e2=>?_⟩
    cases e2
    exact⟨o,e,ex.2.1⟩
 |_=>exact False.elim ty
def tBM(K:PySem.W.Frag)(T:String)(r:V->List V->Hp->VK->Prop)(to:TE)(t:TA):TE:=λσ H Q=>to σ H λx H1=>tyV K T x H1/\t σ H1 λxs H2=>r x xs H2 Q
variable {o e : Expr} {es : List Expr} {to : TE} {t : TA} {name : Str} {apos cpos : Pos} {T id : String} {r : V → List V → Hp → VK → Prop}
theorem dz6(pa:PlainAttrs T)(slot:Slot T name id)(hty:typeOf (.builtin id)=pure (.type "method_descriptor"))(hm:MtR X id r)(ho:PE X o to)(ha:PA X (e::es) t)
 (hbase:attributeBase o name X.env (eval o X.env)=eval o X.env:=by rfl)
 (hfew:((backTo cpos (starEach (e::es) X.env)).all (λx=>!x.1)&&(backToKw cpos (keywordEach [] X.env)).all (λx=>x.1.isSome)
  &&decide ((e::es).length+([]:List Keyword).length+(if([]:List Keyword).isEmpty then 0 else 1)<30))=true:=by rfl)
 (hline:(apos.endLine==cpos.line)=true:=by rfl)(hs:starEach (e::es) X.env=(false,eval e X.env)::starEach es X.env:=by rfl)(hplain:(backTo cpos (starEach es X.env)).any (·.1)=false:=by rfl):
 PE X (.Call (.Attribute o name apos) (e::es) [] cpos) (tBM X.K T r to t):=by
 intro pins s σ H Q I h
 refine wpAny_Call_method_late hbase hfew hline rfl (bY (ho s σ H _ I h) λv s1 ⟨x,H1,I1,r1,ty,q1⟩=>?_)
 obtain⟨h1,h2⟩:=du0 I1 r1 ty
 refine⟨T,id,pa,slot,hty,h1,h2,?_⟩
 have hA:=@ha cpos pins s1 σ H1 _ I1 q1
 rw[hs]at hA⊢
 refine Calls.callWith_builtin (by show(false||(backTo cpos (starEach es X.env)).any (·.1))=false;rw[hplain]<;>rfl) (Calls.evalArgs_plain ?_)
 exact bY hA λus s2 ⟨vs,H2,I2,r2,q2⟩=>hm s2 σ H2 x vs v us Q I2 r1 r2 q2
/- xs.append(e), list.index on a module's tuple .. are MtR facts of 06m -/
end
end L2
namespace L2
open PySem PySem.Spec PyProof.Rows
def MtM(X:Cx)(id:String)(r:V->List V->Hp->VK->Prop):Prop:=
 ∀(pins:List (Addr×Obj))(s:Shared)(σ:St)(H:Hp)(x:V)(xs:List V)(v:Value)(us:List Value)(Q:VK),Inv X pins σ H s->RelV x v->Vals xs us->r x xs H Q->
  wpAny (model X.prog X.w) X.A (call (.builtin id) (v::us)) (EP X pins σ Q) X.xe s
theorem Vals.one:∀{x:V}{us:List Value},Vals [x] us->∃u,us=[u]/\RelV x u
 |_,_,.cons r .nil=>⟨_,rfl,r⟩
theorem Vals.two:∀{x y:V}{us:List Value},Vals [x,y] us->∃u v,us=[u,v]/\RelV x u/\RelV y v
 |_,_,_,.cons r (.cons q .nil)=>⟨_,_,rfl,r,q⟩
theorem Vals.eraseIdx:∀{xs:List V}{us:List Value}(i:Nat),Vals xs us->Vals (xs.eraseIdx i) (us.eraseIdx i)
 |_,_,_,.nil=>.nil
 |_,_,0,.cons _ t=>t
 |_,_,i+1,.cons r t=>.cons r (Vals.eraseIdx i t)
theorem ap6:∀(l:List α)(i:Nat),(l.eraseIdx i).length<=l.length
 |[],_=>Nat.le_refl _
 |_::_,0=>Nat.le_succ _
 |_::r,i+1=>Nat.succ_le_succ (ap6 r i)
section
variable {X : Cx} {pins : List (Addr × Obj)} {σ : St} {H : Hp} {s : Shared} {l b : Addr} {xs ys zs : List V}
theorem Inv.lset{its its':List Value}{n:Nat}{f:Array Value->Array Value}{t':Nat}(I:Inv X pins σ H s)(hH:H l=some (.lst xs))
 (e:s.heap.get? l=some {cls:=.type "list",data:=.seq its.toArray n})(hf:f its.toArray=its'.toArray)(hv:Vals ys its')(hz:ys.length<=sizeLine):
 Inv X pins σ (upd H l (.lst ys)) {s with heap:=s.heap.update l (Obj.mapSeq f),toks:=t'}:=by
 have q:=PySem.IsL.update e f
 rw[hf]at q
 refine I.write (x:=l) (e:=l) (by rw[hH];exact trivial) (.inl rfl) (λb' u hb hu=>(Heap.get?_update_other s.heap (Obj.mapSeq f) (Ne.symm hb)).trans hu) ⟨_,q⟩ ?_
 exact⟨hz,its',_,hv,q⟩
theorem Inv.lnew(I:Inv X pins σ H s)(hv:Vals ys its)(hz:ys.length<=sizeLine):
 Inv X pins σ (upd H s.heap.objs.size (.lst ys)) {s with heap:=s.heap.push {cls:=.type "list",data:=.seq its.toArray},toks:=t'}:=
 I.laid (λ_ _ q=>Heap.get?_push_of_some _ q) (Nat.le_refl _) ⟨hz,its,0,hv,Heap.get?_push_size _ rfl⟩
theorem Inv.fresh(I:Inv X pins σ H s):H s.heap.objs.size=none:=I.hok.fresh (Nat.le_refl _)
theorem Inv.lstM(I:Inv X pins σ H s)(hH:H l=some (.lst xs)):xs.length<=sizeLine/\∃(its:List Value)(n:Nat),Vals xs its/\xs.length=its.length/\s.heap.get? l=some {cls:=.type "list",data:=.seq its.toArray n}:=by
 obtain⟨z,its,n,r,e⟩:=I.hok l _ hH
 exact⟨z,its,n,r,r.length,e⟩
theorem cq2(h:n<=sizeLine):Builtin.List.listTooLong n=false:=by
 unfold Builtin.List.listTooLong
 exact decide_eq_false (by omega)
end
section
variable {X : Cx}
def ap4:V->List V->Hp->VK->Prop:=λx vs H Q=>∃l xs y,x=.ref l/\vs=[y]/\H l=some (.lst xs)/\xs.length<sizeLine/\Q .non (upd H l (.lst (xs++[y])))
theorem ba9:MtM X "list.append" ap4:=by
 intro pins s σ H x vs v us Q I rx rv h
 obtain⟨l,xs,y,rfl,rfl,hH,hz,q⟩:=h
 cases rx
 obtain⟨u,rfl,ru⟩:=rv.one
 obtain⟨z,its,n,r,hl,e⟩:=I.lstM hH
 refine call_meets F.slot_list_append ⟨_,e,rfl⟩ F.entry_list_append (F.args_list_append_2 _ _) (PySem.list_append l its.toArray n u (by rw[List.size_toArray];omega)) ⟨e,?_⟩
 refine⟨.non,_,I.lset (its':=its++[u]) hH e (by simp) (r.append (.cons ru .nil)) ?_,rfl,q⟩
 rw[List.length_append,List.length_singleton]
 omega
def bq3:V->List V->Hp->VK->Prop:=λx vs H Q=>∃l b xs zs,x=.ref l/\vs=[.ref b]/\H l=some (.lst xs)/\H b=some (.lst zs)/\xs.length+zs.length<=sizeLine/\Q .non (upd H l (.lst (xs++zs)))
theorem aj6:MtM X "list.extend" bq3:=by
 intro pins s σ H x vs v us Q I rx rv h
 obtain⟨l,b,xs,zs,rfl,rfl,hH,hB,hz,q⟩:=h
 cases rx
 obtain⟨u,rfl,ru⟩:=rv.one
 cases ru
 obtain⟨z,its,n,r,hl,e⟩:=I.lstM hH
 obtain⟨z2,its2,n2,r2,hl2,e2⟩:=I.lstM hB
 have hsz:its.toArray.size+its2.toArray.size<=sizeLine:=by rw[List.size_toArray,List.size_toArray];omega
 have hlong:¬(!its.toArray.isEmpty&&Builtin.List.listTooLong (its.toArray.size+its2.toArray.size))=true:=by
  rw[cq2 hsz,Bool.and_false]
  exact Bool.false_ne_true
 refine call_meets F.slot_list_extend ⟨_,e,rfl⟩ F.entry_list_extend (F.args_list_extend_2 _ _)
  (AutoSeq1.list_extend_list_list_0 l its.toArray n b its2.toArray n2 hlong (by rw[List.size_toArray];omega) (by omega)) ⟨e,e2,?_⟩
 refine⟨.non,_,I.lset (its':=its++its2) hH e (by simp) (r.append r2) ?_,rfl,q⟩
 rw[List.length_append]
 omega
def bx7:V->List V->Hp->VK->Prop:=λx vs H Q=>∃l xs i k y,x=.ref l/\vs=[.int i]/\H l=some (.lst xs)/\-(2^63)<=i/\i<2^63/\seqIndex? i xs.length=some k/\xs[k]?=some y/\Q y (upd H l (.lst (xs.eraseIdx k)))
theorem cj2:MtM X "list.pop" bx7:=by
 intro pins s σ H x vs v us Q I rx rv h
 obtain⟨l,xs,i,k,y,rfl,rfl,hH,h1,h2,hk,hy,q⟩:=h
 cases rx
 obtain⟨u,rfl,ru⟩:=rv.one
 obtain⟨t,rfl⟩:=ru
 obtain⟨z,its,n,r,hl,e⟩:=I.lstM hH
 obtain⟨w,hw,rw'⟩:=r.get hy
 refine call_meets F.slot_list_pop ⟨_,e,rfl⟩ F.entry_list_pop (F.args_list_pop_2 _ _)
  (MeetsSeq.list_pop_at l its.toArray n i t k w (fitsIndex_both h1 h2) (by rw[List.size_toArray,<-hl];exact hk) (by rw[<-Array.getElem?_toList];exact hw) (by rw[List.size_toArray];omega)) ⟨e,?_⟩
 refine⟨y,_,I.lset (its':=its.eraseIdx k) hH e ?_ (r.eraseIdx k) ?_,rw',q⟩
 . show its.toArray.eraseIdxIfInBounds k=(its.eraseIdx k).toArray
   rw[List.eraseIdxIfInBounds_toArray]
 . have:=ap6 xs k
   omega
theorem cf8(xs:List α)(k:Nat):(List.replicate k xs).flatten.length=k*xs.length:=by
 induction k with
 |zero=>simp
 |succ k ih=>rw[List.replicate_succ,List.flatten_cons,List.length_append,ih,Nat.succ_mul,Nat.add_comm]
end
section
variable {prog : Program} {w : World} {A : Around} {E : Value → Shared → Prop} {s : Shared}
set_option maxRecDepth 100000 in
end
section
variable {X : Cx}
end
end L2
namespace Att
open PySem PySem.W PySem.Calls PyProof.Rows
theorem ints_of_wellAll:∀(ns:List Int)(vs:List Value),WellAll P h vs (ns.map WData.int)->IntsAre vs ns:=by
 intro ns
 induction ns with
 |nil=>
  intro vs w
  rw[List.map_nil]at w
  cases w
  exact .nil
 |cons n ns ih=>
  intro vs w
  rw[List.map_cons]at w
  cases w with
  |cons a b=>
   cases a
   exact .cons _ _ (ih _ b)
theorem script_of{l:OpenLaw}{n:Nat}(hn:l.most=some n){P:Params}{h:Heap}{args:List WData}{vals:List Value}
 (hpre:l.row.toRowW.claim.pre args=true)(hwl:WellAll P h vals args):
 ∃a vs ns,vals=[Value.ref a]/\args=[WData.list (ns.map WData.int)]/\h.get? a=some {cls:=.type "list",data:=.seq vs.toArray}/\IntsAre vs ns/\ns.length<=n:=by
 have hsh:WShape.hasAll [] args [.list .int]=true:=(pre_splitW hpre).1
 have hc:l.pre.holds [] {args:=args}=true:=(pre_splitW hpre).2
 obtain⟨d,r,rfl,h1,h2⟩:=hasAllW_cons hsh
 obtain rfl:=hasAllW_nil h2
 obtain⟨xs,rfl,h3⟩:=hasW_list h1
 obtain⟨ns,rfl⟩:=items_int h3
 have hlen:ns.length<=n:=by
  unfold OpenLaw.pre at hc
  have h4:(WTm.not (.lt (.lit (.int (n:Int))) (.len (.arg 0)))).holds [] {args:=[.list (ns.map .int)]}=true:=by
   have h4:=(holds_andW hc).1
   rw[hn]at h4
   exact h4
  have h5:=condW_of h4 (w_not (w_lt w_lit (w_len_list (w_arg rfl))))
  rw[List.length_map]at h5
  refine Nat.le_of_not_lt λq=>?_
  have q':(n:Int)<((ns.length:Nat):Int):=by omega
  first
   |(rw[decide_eq_true q']at h5;exact absurd h5 (by decide))
   |(simp at h5;omega)
 cases hwl with
 |cons w1 w2=>
  cases w2
  cases w1 with
  |list ho hall=>exact⟨_,_,ns,rfl,rfl,ho,ints_of_wellAll ns _ hall,hlen⟩
theorem post_true(l:OpenLaw)(args:List WData):l.row.toRowW.claim.post args (.bool true) args=true:=
 postW_of (r:=l.row.toRowW) (X:=(true==true))
  (show WShape.has [] (.bool true) .bool=true by first|rfl|decide|simp[WShape.has,WShape.arms,WShape.armsAll])
  (show(WTm.eq .res (.lit (.bool true))).value [] {args:=args,res:=some (.bool true),after:=args}=some (.bool (true==true)) from w_eq_bool (w_res rfl) w_lit) rfl
section
variable {prog : Program} {w : World} {A : Around} {E : Value → Shared → Prop} {s : Shared} {K : Frag}
end
end Att
namespace L2
open PySem PySem.Spec PyProof.Rows
theorem ax6:∀{vs:List Value}{ns:List Int},IntsAre vs ns->Vals (ns.map V.int) vs
 |_,_,.nil=>.nil
 |_,_,.cons n t h=>.cons ⟨t,rfl⟩ (ax6 h)
def dm2(H:Hp):Prop:=∀b,H b=none\/∃o xs,H b=some (.frz o (.lst xs))
theorem ci4{P:Program}{w:World}{K:PySem.W.Frag}{mg mb:Str->Option Value}{CX:wL}{k:Nat}{fa a:Addr}{fd:FuncData}{x:Str}{sp:Sp}{s₁:Shared}{vs:List Value}{ns:List Int}
 (KX:K.In s₁.heap)(hns:s₁.heap.Ns mainGlobals mg)(hb:s₁.heap.Ns builtinsNs mb)(hbb:∀x:Str,x≠"__name__"->mb x=bootBuiltins x)(hlim:s₁.heap.NoLimit)(hg:s₁.gens=#[])
 (ha:s₁.heap.get? a=some {cls:=.type "list",data:=.seq vs.toArray})(hi:IntsAre vs ns)(hl:ns.length<=sizeLine)(hr:Room k callerA)
 (F:∀base:Heap,K.In base->base.Ns mainGlobals mg->FnOk P w K mg base CX k fa fd [x] sp)(hbind:∀(s:Shared)(u:Value),BindsTo s fd ⟨[u],[]⟩ [(x,u)])
 (hsp:∀H:Hp,dm2 H->SqL K H a (ns.map V.int)->sp [.ref a] H (λv _=>v=.bl true) λ_ _ _=>False)
 (hCX:∀H e s',CX [] H s₁ (λ_ _ _=>False) e s'->False):
 codeAny (model P w) callerA (.call (.ref fa) ⟨[.ref a],[]⟩) (λr s'=>r=.ok (.ret (.bool true))/\OldK s₁.heap s'.heap/\s'.os=s₁.os/\AllBare s'.gens) s₁:=by
 have rv:=ax6 hi
 have lenV:=hi.length
 have core:∀H:Hp,dm2 H->SqL K H a (ns.map V.int)->HOk P w H s₁.heap->(∀b,H b≠none->b=a)->(H a≠none->K.lookup a=none)->
  codeAny (model P w) callerA (.call (.ref fa) ⟨[.ref a],[]⟩) (λr s'=>r=.ok (.ret (.bool true))/\OldK s₁.heap s'.heap/\s'.os=s₁.os/\AllBare s'.gens) s₁:=by
  intro H hO hS hok hA hK
  have base_of:∀{b:Addr}{o:Obj},s₁.heap.get? b=some o->H b=none->(vQ s₁.heap H).get? b=some o:=λe n=>cg1 e n
  have noA:∀{b:Addr}{o:Obj}{es:Array DictEntry}{ep:Nat},s₁.heap.get? b=some o->o.data=.dict es ep->H b=none:=λ{b o es ep} e d=>by
   cases q:H b with
   |none=>rfl
   |some u=>
    have e':b=a:=hA b (by rw[q];simp)
    subst e'
    rw[ha]at e;cases e
    have d':Data.seq vs.toArray _=Data.dict es ep:=d
    cases d'
  have nsK:∀{b:Addr}{m:Str->Option Value},s₁.heap.Ns b m->(vQ s₁.heap H).Ns b m:=λ{b m} ⟨o,es,ep,e,d,r⟩=>⟨o,es,ep,base_of e (noA e d),d,r⟩
  have hKb:K.In (vQ s₁.heap H):=λb o e=>base_of (KX b o e) (by
   cases q:H b with
   |none=>rfl
   |some u=>
    have e':b=a:=hA b (by rw[q];simp)
    subst e'
    rw[hK (by rw[q];simp)]at e;cases e)
  have hM:Mod K mg (vQ s₁.heap H):=⟨hKb,nsK hns,⟨mb,nsK hb,hbb⟩,let⟨mc,h1,h2⟩:=hlim;⟨mc,nsK h1,h2⟩⟩
  have e0:Env0 P w K mg (vQ s₁.heap H) callerA [] s₁ H:=⟨rfl,hM,λb o e=>cn8 e,Nat.le_of_eq (ca0 _ _),trivial,λb hb=>absurd (show b∈([]:List Addr) from hb) (by simp),hok,.of_eq hg⟩
  refine codeAny_mono ((F _ hKb (nsK hns)).run callerA [] s₁ H ⟨[.ref a],[]⟩ [.ref a] [.ref a] _ _ hr e0 (hbind s₁ (.ref a)) (.cons rfl .nil) (hsp H hO hS)) λr s' h=>?_
  cases r with
  |error e=>exact(hCX H e s' h).elim
  |ok fl=>
   cases fl with
   |next=>exact False.elim h
   |brk=>exact False.elim h
   |cont=>exact False.elim h
   |ret u=>
    obtain⟨v,H',os,bare,un,hok',r',q⟩:=h
    have q':v=.bl true:=q
    subst q'
    obtain rfl:u=Value.bool true:=r'
    refine⟨rfl,OldK.of_keep λb o e=>?_,os,bare⟩
    cases q:H b with
    |none=>exact un.keep b o e q (by intro z;exact absurd (show b∈([]:List Addr) from z) (by simp)) (by simp)
    |some u=>
     rcases hO b with z|⟨ob,xs,z⟩
     . rw[q]at z;cases z
     . have z2:=un.frzs b ob _ z
       obtain⟨e1,_⟩:=hok b _ z
       obtain⟨e2,_⟩:=hok' b _ z2
       rw[e]at e1;cases e1
       exact e2
 cases hk:K.lookup a with
 |some o=>
  have e:=KX a o hk
  rw[ha]at e
  cases e
  refine core (λ_=>none) (λ_=>.inl rfl) (.inr ⟨_,vs.toArray,_,hk,rfl,rfl,rfl,by rw[List.size_toArray,lenV];exact hl,by simpa using rv⟩) (λb u z=>by have z':(none:Option HO)=some u:=z;cases z') (λb z=>absurd rfl z) λz=>absurd rfl z
 |none=>
  refine core (λb=>if b=a then some (.frz {cls:=.type "list",data:=.seq vs.toArray} (.lst (ns.map V.int)))else none) (λb=>?_) (.inl (.inr ⟨{cls:=.type "list",data:=.seq vs.toArray},if_pos rfl⟩)) (λb u z=>?_) (λb z=>?_) λ_=>hk
  . by_cases hb:b=a
    . exact .inr ⟨_,_,if_pos hb⟩
    . exact .inl (if_neg hb)
  . by_cases hb:b=a
    . have z':=(if_pos hb).symm.trans z
      cases z'
      subst hb
      exact⟨ha,by rw[List.length_map];exact hl,vs,_,rv,ha⟩
    . have z':=(if_neg hb).symm.trans z
      cases z'
  . by_cases hb:b=a
    . exact hb
    . exact absurd (if_neg hb) z
end L2
namespace L2
open PySem PySem.Spec PyProof.Rows
end L2
namespace L2
open PySem PySem.Spec PyProof.Rows
def rZ(s:Stmt)(j:Nat):Stmt:=match s with
 |.ClassDef _ _ _ body _ _ _ _ _ _ _=>body.getD j (.Pass ⟨0,0,0,0⟩)
 |_=>.Pass ⟨0,0,0,0⟩
def iM(s:Stmt):Arguments:=match s with
 |.FunctionDef _ a _ _ _ _ _ _ _ _=>a
 |_=>{posonlyargs:=[],args:=[],vararg:=none,kwonlyargs:=[],kw_defaults:=[],kwarg:=none,defaults:=[]}
def dH(s:Stmt):List Stmt:=match s with
 |.FunctionDef _ _ b _ _ _ _ _ _ _=>b
 |_=>[]
def aM(s:Stmt):Scope:=match s with
 |.FunctionDef _ _ _ _ _ _ sc _ _ _=>sc
 |_=>{kind:=.function,names:=[],isGenerator:=false,isCoroutine:=false}
abbrev jM:wL:=λ_ _ _ _ _ _=>False
abbrev E0:XK:=λ_ _ _=>False
theorem ab2:xH jM X E0:=λ_ _ _ _ _ _ _ h=>h.elim
structure Fun (K:PySem.W.Frag) (x qual:Str) (st:Stmt) (f:Addr) (fd:FuncData):Prop where
 ex:∃(oc:Value)(od:Option Addr)(kV doc pm:Value)(an:Option Addr)(cdv ct:Value)(osl:Array (Option Value)),
  fd=PySem.W.fnOf x qual (iM st) (dH st) (aM st) .none kV doc pm an cdv ct/\K.lookup f=some ⟨oc,od,.func fd,osl⟩/\PySem.W.codeIn K cdv qual=true
 kp:PySem.W.keepIn K (.ref f)=true
section
variable {P : Program} {w : World} {K : PySem.W.Frag} {mg : Str → Option Value} {base : Heap}
theorem Fun.ok{x qual:Str}{st:Stmt}{f:Addr}{fd:FuncData}{N ps:List Str}{k:Nat}{sp:Sp}(F:Fun K x qual st f fd)(S:bB N ps (aM st))(len:∀vs H Q E,sp vs H Q E->vs.length=ps.length)
 (hbody:∀(cdv:Value)(A:Around)(outer:List Env)(s:Shared)(H:Hp)(vs:List V)(Q:VK)(E:XK),Room k (A.deeper (envOfC qual (aM st) s.heap.objs.size f cdv))->sp vs H Q E->
  ∃t,PSs (kY jM P w K mg base N qual (aM st) f cdv A outer s H E).nox (dH st) t/\t {nx:=λ_ H'=>Q .non H',rt:=Q} (iY N vs) H):FnOk P w K mg base jM (k+1) f fd ps sp:=by
 obtain⟨oc,od,kV,doc,pm,an,cdv,ct,osl,rfl,lk,hcd⟩:=F.ex
 refine da7 lk hcd S len λA outer s H vs Q E hr hsp=>?_
 obtain⟨t,h,q⟩:=hbody cdv A outer s H vs Q E hr hsp
 exact⟨t,h.nox,q⟩
theorem Fun.binds{x qual:Str}{st:Stmt}{f:Addr}{fd:FuncData}{ps:List Str}(F:Fun K x qual st f fd)
 (h:∀(kV doc pm:Value)(an:Option Addr)(cdv ct:Value)(us:List Value),us.length=ps.length->bindArgs (PySem.W.fnOf x qual (iM st) (dH st) (aM st) .none kV doc pm an cdv ct) ⟨us,[]⟩=pure (ps.zip us)):Binds K fd ps []:=by
 obtain⟨oc,od,kV,doc,pm,an,cdv,ct,osl,rfl,lk,hcd⟩:=F.ex
 exact .all (h kV doc pm an cdv ct)
theorem af3{x qual:Str}{st:Stmt}{f:Addr}{oc:Value}{od an:Option Addr}{osl:Array (Option Value)}{kV doc pm cdv ct:Value}(l:K.lookup f=some ⟨oc,od,.func (PySem.W.fnOf x qual (iM st) (dH st) (aM st) .none kV doc pm an cdv ct),osl⟩)
 (c:PySem.W.codeIn K cdv qual=true)(k:PySem.W.keepIn K (.ref f)=true):Fun K x qual st f (PySem.W.fnOf x qual (iM st) (dH st) (aM st) .none kV doc pm an cdv ct):=⟨⟨oc,od,kV,doc,pm,an,cdv,ct,osl,rfl,l,c⟩,k⟩
end
section
variable {X : Cx}
theorem pv(i:Nat)(hN:X.N[i]?=some x:=by rfl)(hv:Vis X.env.scope x:=by first|exact Or.inl rfl|exact Or.inr (Or.inl rfl)|exact Or.inr (Or.inr rfl))(hd:(x==("__debug__":Str))=false:=by decide)
 (hcd:(x==("__classdict__":Str))=false:=by decide):PE X (.Name x pos) (bs0 i):=dv4 hN hv hd hcd
end
def Same(H H':Hp):Prop:=∀b o,H b=some o->H' b=some o
theorem Same.refl(H:Hp):Same H H:=λ_ _ h=>h
theorem Same.trans(a:Same H H1)(b:Same H1 H2):Same H H2:=λc o h=>b c o (a c o h)
theorem Same.free(e:Same H H')(h:H' l=Option.none):H l=Option.none:=by
 cases q:H l with
 |none=>rfl
 |some o=>
  rw[e l o q]at h
  cases h
theorem Same.seq{K:PySem.W.Frag}{H H':Hp}{a:Addr}{xs:List V}(e:Same H H')(h:SqL K H a xs):SqL K H' a xs:=by
 rcases h with(h|⟨o,h⟩)|h
 . exact .inl (.inl (e _ _ h))
 . exact .inl (.inr ⟨o,e _ _ h⟩)
 . exact .inr h
end L2
namespace L2
open PySem PySem.Spec PyProof.Rows
def dl0:R2:=λx y H Q=>∃i j,x=.int i/\y=.int j/\IntMulOk i j/\Q (.int (i*j)) H
section
variable {X : Cx}
theorem op_mulB:OpR X (binaryOp .Mult) dl0:=by
 intro pins s σ H x y v u Q I rx ry h
 obtain⟨i,j,rfl,rfl,hc,q⟩:=h
 obtain⟨t,rfl⟩:=rx
 obtain⟨t',rfl⟩:=ry
 exact mul_int ⟨.int (i*j),H,I.tok _,⟨_,rfl⟩,q⟩ hc
def TyN(K:PySem.W.Frag)(H:Hp)(x:V)(tx:String):Prop:=match x with
 |.int _=>tx="int"
 |.bl _=>tx="bool"
 |.str _=>tx="str"
 |.ref p=>(tx="list"/\∃xs,SqL K H p xs)\/(tx="tuple"/\∃xs,SqT K H p xs)
 |_=>False
inductive fZ:String->String->Bool->Prop where
 |int_int:fZ "int" "int" true
 |int_bool:fZ "int" "bool" false
 |int_str:fZ "int" "str" false
 |int_list:fZ "int" "list" false
 |int_tuple:fZ "int" "tuple" false
 |bool_int:fZ "bool" "int" true
 |bool_bool:fZ "bool" "bool" true
 |bool_str:fZ "bool" "str" false
 |bool_list:fZ "bool" "list" false
 |bool_tuple:fZ "bool" "tuple" false
 |str_int:fZ "str" "int" false
 |str_bool:fZ "str" "bool" false
 |str_str:fZ "str" "str" true
 |str_list:fZ "str" "list" false
 |str_tuple:fZ "str" "tuple" false
 |list_int:fZ "list" "int" false
 |list_bool:fZ "list" "bool" false
 |list_str:fZ "list" "str" false
 |list_list:fZ "list" "list" true
 |list_tuple:fZ "list" "tuple" false
 |tuple_int:fZ "tuple" "int" false
 |tuple_bool:fZ "tuple" "bool" false
 |tuple_str:fZ "tuple" "str" false
 |tuple_list:fZ "tuple" "list" false
 |tuple_tuple:fZ "tuple" "tuple" true
theorem cr3:CallR X (.builtin "isinstance") (λxs H Q=>∃x T tx b,xs=[x,.ty T]/\TyN X.K H x tx/\fZ tx T b/\Q (.bl b) H):=by
 intro pins s σ H xs us Q I r h
 obtain⟨x,T,tx,b,rfl,ht,ho,q⟩:=h
 obtain⟨u,v,rfl,rx,rT⟩:=r.two
 obtain rfl:v=Value.type T:=rT
 have fin1:EP X pins σ Q (.bool b) s:=⟨.bl b,H,I,rfl,q⟩
 have fin2:EP X pins σ Q (.bool b) {s with toks:=s.toks+1}:=⟨.bl b,H,I.tok _,rfl,q⟩
 cases x with
 |int i=>
  obtain⟨t,rfl⟩:=rx
  have ht:tx="int":=ht
  cases ho with
  |int_int=>exact IsiPair.int_int fin1
  |int_bool=>exact IsiPair.int_bool fin2
  |int_str=>exact IsiPair.int_str fin2
  |int_list=>exact IsiPair.int_list fin2
  |int_tuple=>exact IsiPair.int_tuple fin2
  |bool_int=>exact absurd ht (by decide+kernel)
  |bool_bool=>exact absurd ht (by decide+kernel)
  |bool_str=>exact absurd ht (by decide+kernel)
  |bool_list=>exact absurd ht (by decide+kernel)
  |bool_tuple=>exact absurd ht (by decide+kernel)
  |str_int=>exact absurd ht (by decide+kernel)
  |str_bool=>exact absurd ht (by decide+kernel)
  |str_str=>exact absurd ht (by decide+kernel)
  |str_list=>exact absurd ht (by decide+kernel)
  |str_tuple=>exact absurd ht (by decide+kernel)
  |list_int=>exact absurd ht (by decide+kernel)
  |list_bool=>exact absurd ht (by decide+kernel)
  |list_str=>exact absurd ht (by decide+kernel)
  |list_list=>exact absurd ht (by decide+kernel)
  |list_tuple=>exact absurd ht (by decide+kernel)
  |tuple_int=>exact absurd ht (by decide+kernel)
  |tuple_bool=>exact absurd ht (by decide+kernel)
  |tuple_str=>exact absurd ht (by decide+kernel)
  |tuple_list=>exact absurd ht (by decide+kernel)
  |tuple_tuple=>exact absurd ht (by decide+kernel)
 |bl i=>
  cases rx
  have ht:tx="bool":=ht
  cases ho with
  |int_int=>exact absurd ht (by decide+kernel)
  |int_bool=>exact absurd ht (by decide+kernel)
  |int_str=>exact absurd ht (by decide+kernel)
  |int_list=>exact absurd ht (by decide+kernel)
  |int_tuple=>exact absurd ht (by decide+kernel)
  |bool_int=>exact IsiPair.bool_int fin1
  |bool_bool=>exact IsiPair.bool_bool fin1
  |bool_str=>exact IsiPair.bool_str fin2
  |bool_list=>exact IsiPair.bool_list fin2
  |bool_tuple=>exact IsiPair.bool_tuple fin2
  |str_int=>exact absurd ht (by decide+kernel)
  |str_bool=>exact absurd ht (by decide+kernel)
  |str_str=>exact absurd ht (by decide+kernel)
  |str_list=>exact absurd ht (by decide+kernel)
  |str_tuple=>exact absurd ht (by decide+kernel)
  |list_int=>exact absurd ht (by decide+kernel)
  |list_bool=>exact absurd ht (by decide+kernel)
  |list_str=>exact absurd ht (by decide+kernel)
  |list_list=>exact absurd ht (by decide+kernel)
  |list_tuple=>exact absurd ht (by decide+kernel)
  |tuple_int=>exact absurd ht (by decide+kernel)
  |tuple_bool=>exact absurd ht (by decide+kernel)
  |tuple_str=>exact absurd ht (by decide+kernel)
  |tuple_list=>exact absurd ht (by decide+kernel)
  |tuple_tuple=>exact absurd ht (by decide+kernel)
 |str i=>
  obtain⟨t,rfl⟩:=rx
  have ht:tx="str":=ht
  cases ho with
  |int_int=>exact absurd ht (by decide+kernel)
  |int_bool=>exact absurd ht (by decide+kernel)
  |int_str=>exact absurd ht (by decide+kernel)
  |int_list=>exact absurd ht (by decide+kernel)
  |int_tuple=>exact absurd ht (by decide+kernel)
  |bool_int=>exact absurd ht (by decide+kernel)
  |bool_bool=>exact absurd ht (by decide+kernel)
  |bool_str=>exact absurd ht (by decide+kernel)
  |bool_list=>exact absurd ht (by decide+kernel)
  |bool_tuple=>exact absurd ht (by decide+kernel)
  |str_int=>exact IsiPair.str_int fin2
  |str_bool=>exact IsiPair.str_bool fin2
  |str_str=>exact IsiPair.str_str fin1
  |str_list=>exact IsiPair.str_list fin2
  |str_tuple=>exact IsiPair.str_tuple fin2
  |list_int=>exact absurd ht (by decide+kernel)
  |list_bool=>exact absurd ht (by decide+kernel)
  |list_str=>exact absurd ht (by decide+kernel)
  |list_list=>exact absurd ht (by decide+kernel)
  |list_tuple=>exact absurd ht (by decide+kernel)
  |tuple_int=>exact absurd ht (by decide+kernel)
  |tuple_bool=>exact absurd ht (by decide+kernel)
  |tuple_str=>exact absurd ht (by decide+kernel)
  |tuple_list=>exact absurd ht (by decide+kernel)
  |tuple_tuple=>exact absurd ht (by decide+kernel)
 |ref p=>
  cases rx
  have ht:(tx="list"/\∃xs,SqL X.K H p xs)\/(tx="tuple"/\∃xs,SqT X.K H p xs):=ht
  rcases ht with⟨ht,ys,hq⟩|⟨ht,ys,hq⟩
  . obtain⟨its,rv,⟨o,n,e,c,d,dt⟩,hz⟩:=I.list hq
    cases ho with
    |int_int=>exact absurd ht (by decide+kernel)
    |int_bool=>exact absurd ht (by decide+kernel)
    |int_str=>exact absurd ht (by decide+kernel)
    |int_list=>exact absurd ht (by decide+kernel)
    |int_tuple=>exact absurd ht (by decide+kernel)
    |bool_int=>exact absurd ht (by decide+kernel)
    |bool_bool=>exact absurd ht (by decide+kernel)
    |bool_str=>exact absurd ht (by decide+kernel)
    |bool_list=>exact absurd ht (by decide+kernel)
    |bool_tuple=>exact absurd ht (by decide+kernel)
    |str_int=>exact absurd ht (by decide+kernel)
    |str_bool=>exact absurd ht (by decide+kernel)
    |str_str=>exact absurd ht (by decide+kernel)
    |str_list=>exact absurd ht (by decide+kernel)
    |str_tuple=>exact absurd ht (by decide+kernel)
    |list_int=>exact IsiPair.list_int e c fin2
    |list_bool=>exact IsiPair.list_bool e c fin2
    |list_str=>exact IsiPair.list_str e c fin2
    |list_list=>exact IsiPair.list_list e c fin1
    |list_tuple=>exact IsiPair.list_tuple e c fin2
    |tuple_int=>exact absurd ht (by decide+kernel)
    |tuple_bool=>exact absurd ht (by decide+kernel)
    |tuple_str=>exact absurd ht (by decide+kernel)
    |tuple_list=>exact absurd ht (by decide+kernel)
    |tuple_tuple=>exact absurd ht (by decide+kernel)
  . obtain⟨its,rv,⟨o,e,c,n,d⟩,hz⟩:=I.tuple hq
    cases ho with
    |int_int=>exact absurd ht (by decide+kernel)
    |int_bool=>exact absurd ht (by decide+kernel)
    |int_str=>exact absurd ht (by decide+kernel)
    |int_list=>exact absurd ht (by decide+kernel)
    |int_tuple=>exact absurd ht (by decide+kernel)
    |bool_int=>exact absurd ht (by decide+kernel)
    |bool_bool=>exact absurd ht (by decide+kernel)
    |bool_str=>exact absurd ht (by decide+kernel)
    |bool_list=>exact absurd ht (by decide+kernel)
    |bool_tuple=>exact absurd ht (by decide+kernel)
    |str_int=>exact absurd ht (by decide+kernel)
    |str_bool=>exact absurd ht (by decide+kernel)
    |str_str=>exact absurd ht (by decide+kernel)
    |str_list=>exact absurd ht (by decide+kernel)
    |str_tuple=>exact absurd ht (by decide+kernel)
    |list_int=>exact absurd ht (by decide+kernel)
    |list_bool=>exact absurd ht (by decide+kernel)
    |list_str=>exact absurd ht (by decide+kernel)
    |list_list=>exact absurd ht (by decide+kernel)
    |list_tuple=>exact absurd ht (by decide+kernel)
    |tuple_int=>exact IsiPair.tuple_int e c fin2
    |tuple_bool=>exact IsiPair.tuple_bool e c fin2
    |tuple_str=>exact IsiPair.tuple_str e c fin2
    |tuple_list=>exact IsiPair.tuple_list e c fin2
    |tuple_tuple=>exact IsiPair.tuple_tuple e c fin1
 |_=>exact(show False from ht).elim
theorem zJ:∀{bs:List Bool}{us:List Value}{i:Nat}{u:Value},Vals (bs.map V.bl) us->us[i]?=some u->∃b,bs[i]?=some b/\u=.bool b
 |[],_,_,_,.nil,e=>by simp at e
 |b::bs,_,0,_,.cons r _,e=>by
  simp at e
  subst e
  exact⟨b,rfl,r⟩
 |b::bs,_,i+1,_,.cons _ t,e=>by
  obtain⟨c,h1,h2⟩:=zJ (i:=i) t (by simpa using e)
  exact⟨c,by simpa using h1,h2⟩
theorem bb9(bs:List Bool):((List.range bs.length).all λi=>(bs[i]?).getD true)=bs.all id:=by
 rw[Bool.eq_iff_iff,List.all_eq_true,List.all_eq_true]
 constructor
 . intro h b hb
   obtain⟨i,hi,e⟩:=List.mem_iff_getElem.mp hb
   have q:=h i (List.mem_range.mpr hi)
   rw[List.getElem?_eq_getElem hi,e]at q
   exact q
 . intro h i hi
   have hi':=List.mem_range.mp hi
   rw[List.getElem?_eq_getElem hi']
   exact h _ (List.getElem_mem hi')
theorem bp0{s:Shared}{h':Heap}{o:Obj}(hk:∀b x,b∉[s.heap.objs.size]->(s.heap.push o).get? b=some x->h'.get? b=some x):∀b x,s.heap.get? b=some x->h'.get? b=some x:=
 λb x e=>hk b x (λhm=>by rw[List.mem_singleton.mp hm]at e;exact Nat.lt_irrefl _ (Heap.lt_size e)) (Heap.get?_push_of_some _ e)
theorem cd2(hc:X.calm=true):CallR X (.builtin "all") (λxs H Q=>∃(p:Addr)(bs:List Bool),xs=[.ref p]/\SqL X.K H p (bs.map V.bl)/\Q (.bl (bs.all id)) H):=by
 intro pins s σ H xs us Q I r h
 obtain⟨p,bs,rfl,hq,q⟩:=h
 obtain⟨u,rfl,r1⟩:=r.one
 obtain rfl:u=Value.ref p:=r1
 obtain⟨its,rv,pl,hz⟩:=I.list hq
 have hl:=pl.isList
 have hlen:bs.length=its.length:=by have:=rv.length;rwa[List.length_map]at this
 have hlt:p<s.heap.objs.size:=by obtain⟨_,_,e,_⟩:=pl;exact Heap.lt_size e
 refine call_all_walk (wpAny_pyIter_list hl ?_)
 refine⟨s.heap.objs.size,[s.heap.objs.size,p],[s.heap.objs.size],its.toArray.size,_,_,λi=>(bs[i]?).getD true,rfl,Walks.list (A:=X.A.in1) (I.ok.hd hc) _ p (Nat.ne_of_lt hlt) its.toArray,
  ⟨⟨_,Heap.get?_push_size _ rfl,rfl,rfl⟩,hl.push _⟩,λi v s' Q' E' hP hQ=>?_,λh' tk hk=>?_⟩
 . obtain⟨b,e,rfl⟩:=zJ rv (i:=i) (u:=v) (by simpa using hP)
   simp only[e,Option.getD_some]at hQ
   exact wpAny_truthy_bool hQ
 . have e:((List.range its.toArray.size).all λi=>(bs[i]?).getD true)=bs.all id:=by
    rw[List.size_toArray,<-hlen]
    exact bb9 bs
   rw[e]
   exact⟨.bl _,H,I.kept (bp0 hk),rfl,q⟩
end
structure eC (P:Program) (w:World) (K:PySem.W.Frag) (mg:Str->Option Value) (base:Heap) (k:Nat) (x:Str) (ps:List Str) (sp:Sp):Prop where
 ex:∃f fd,FnOk P w K mg base jM k f fd ps sp/\mg x=some (.ref f)/\PySem.W.keepIn K (.ref f)=true/\Binds K fd ps []
def cs3(sp:Sp)(t:TA):TE:=λσ H Q=>t σ H λvs H1=>sp vs H1 Q E0
section
variable {X : Cx}
theorem de0(d:eC X.prog X.w X.K X.mg X.base k x ps sp)(hr:Room k X.A)(ha:PA X (e::es) t)(hg:Gl X x:=by rfl)
 (hdb:(x==("__debug__":Str))=false:=by decide)(he:starEach (e::es) X.env=(false,eval e X.env)::starEach es X.env:=by rfl)(hpl:(backTo pos (starEach es X.env)).any (·.1)=false:=by rfl):
 PE X (.Call (.Name x p) (e::es) [] pos) (cs3 sp t):=by
 obtain⟨f,fd,F,hm,hk,hb⟩:=d.ex
 intro pins s σ H Q I h
 have e1:(λvs H1=>sp (vs++[]) H1 Q E0)=λvs H1=>sp vs H1 Q E0:=by
  funext vs H1
  rw[List.append_nil]
 refine cj9 F hr hg hm hk hb .nil ab2 ha hdb he hpl s σ H Q I ?_
 show t σ H λvs H1=>sp (vs++[]) H1 Q E0
 rw[e1]
 exact h
end
end L2
namespace Att
open PySem PySem.W PySem.Calls PyProof.Rows
theorem weight_mem:∀(ns:List Int)(n:Int),n∈ns->WData.weight (.int n)<=WData.weightAll (ns.map WData.int)
 |m::ns,n,h=>by
  rw[List.map_cons]
  simp only[WData.weightAll]
  rcases List.mem_cons.mp h with rfl|h
  . omega
  . have:=weight_mem ns n h
    omega
theorem bits_of{ns:List Int}(h:WData.layableAll [.list (ns.map WData.int)]=true):∀n∈ns,Builtin.Int.intBits n<=1048576:=by
 intro n hn
 have h1:WData.layable (.list (ns.map WData.int))=true:=by
  have h2:([WData.list (ns.map WData.int)].all WData.layable)=true:=h
  rw[List.all_cons,Bool.and_eq_true]at h2
  exact h2.1
 unfold WData.layable at h1
 rw[Bool.and_eq_true]at h1
 have h3:=of_decide_eq_true h1.2
 have h4:=weight_mem ns n hn
 have h5:WData.weight (.int n)=Builtin.Int.intBits n:=by
  unfold WData.weight Builtin.Int.intBits
  rfl
 have h6:WData.weight (.list (ns.map WData.int))=WData.weightAll (ns.map WData.int):=by
  conv=>lhs;unfold WData.weight
 rw[h6]at h3
 rw[h5]at h4
 have h7:(2:Nat)^20=1048576:=by decide
 omega
theorem attach_callB{l:OpenLaw}{n:Nat}{q:Program}{loose:List Str}{XP:(Str->Option Value)->Heap->Prop}{YP:World->Heap->Prop}{d:DefRec}
 (hn:l.most=some n)(hdf:d.params.defaults=[])
 (call:∀(w:World)(s₀ s₁:Shared)(mg mb:Str->Option Value)(fa:Addr)(o:Obj)(pm cd doc:Value)(a:Addr)(vs:List Value)(ns:List Int),
  Ground q loose [] XP w s₀ mg mb s₁.heap->YP w s₁.heap->
  s₁.heap.get? fa=some o->o.data=.func (docDef d.name d.params d.body d.scope pm cd doc)->s₁.heap.CodeRec cd d.name->mg d.name=some (.ref fa)->
  s₁.heap.get? a=some {cls:=.type "list",data:=.seq vs.toArray}->IntsAre vs ns->ns.length<=n->s₁.gens=#[]->(∀n∈ns,Builtin.Int.intBits n<=1048576)->
  codeAny (model l.prog w) callerA (.call (.ref fa) ⟨[.ref a],[]⟩) (λr s'=>r=.ok (.ret (.bool true))/\OldK s₁.heap s'.heap/\s'.os=s₁.os/\AllBare s'.gens) s₁):
 WalkO q loose XP YP l.row.toRowW d [] (λf vs=>PySem.call f vs):=by
 intro w s₀ s₁ mg mb G Y fa o pm cd doc dV kV ho hd hcd hD hmg hg args vals as hpre hlay hrd hwl hlo
 obtain rfl:dV=.none:=Dflts.none hD hdf
 obtain rfl:kV=.none:=Dflts.noKw hD
 obtain⟨a,vs,ns,rfl,rfl,hobj,hints,hlen⟩:=script_of hn hpre hwl
 refine enter_call (codeAny_mono (call w s₀ s₁ mg mb fa o pm cd doc a vs ns G Y ho (fd_plain hd) hcd hmg hobj hints hlen hg (bits_of hlay)) λr s' hq=>?_)
 obtain⟨rfl,h2,h3,h4⟩:=hq
 exact⟨.inl ⟨.bool true,.bool true,[],rfl,λ_=>rfl,.bool true,post_true l _,λ_=>⟨List.Pairwise.nil,λ_ hm=>(nomatch hm)⟩⟩,h2,h3,h4⟩
end Att
namespace L2
open PySem PySem.Spec PyProof.Rows
def SqS(K:PySem.W.Frag)(H:Hp)(a:Addr)(xs:List V):Prop:=
 Rd H a (.lst xs)\/
  ∃(o:Obj)(its:Array Value)(n:Nat),K.lookup a=some o/\o.cls=.type "list"/\o.dict=none/\o.slots=#[]/\o.data=.seq its n/\its.size<=sizeLine/\Vals xs its.toList
theorem SqS.sq{K:PySem.W.Frag}{H:Hp}{a:Addr}{xs:List V}(h:SqS K H a xs):SqL K H a xs:=by
 rcases h with h|⟨o,its,n,h1,h2,h3,_,h5,h6,h7⟩
 . exact .inl h
 . exact .inr ⟨o,its,n,h1,h2,h3,h5,h6,h7⟩
theorem Inv.listS(I:Inv X pins σ H s)(h:SqS X.K H a xs):∃(its:List Value)(n:Nat),Vals xs its/\s.heap.get? a=some {cls:=.type "list",data:=.seq its.toArray n}/\xs.length<=sizeLine:=by
 rcases h with h|⟨o,its,n,hk,hc,hd,hsl,hs,hz,r⟩
 . obtain⟨z,its,n,r,e⟩:=h.ok I.hok
   exact⟨its,n,r,e,z⟩
 . have e:=I.kIn a o hk
   obtain⟨cls,dict,data,slots⟩:=o
   simp only at hc hd hsl hs
   subst hc hd hsl hs
   refine⟨its.toList,n,r,by simpa using e,?_⟩
   have:=r.length
   simp only[Array.length_toList]at this
   omega
def av8(K:PySem.W.Frag):Sp:=λvs H Q _=>∃(a:Addr)(ns:List Int),vs=[.ref a]/\SqS K H a (ns.map V.int)/\ns.length<=63/\(∀n∈ns,Builtin.Int.intBits n<=1048576)/\∀H',Q (.bl true) H'
theorem ce3{l:PySem.W.OpenLaw}{k:Nat}{q:Program}{loose:List Str}{XP:(Str->Option Value)->Heap->Prop}{YP:World->Heap->Prop}{d:DefRec}{K:Params->PySem.W.Frag}{x:Str}
 (hn:l.most=some 63)(hdf:d.params.defaults=[])(hr:Room k callerA)
 (hY:∀(w:World)(h:Heap),YP w h->(K w.params).In h)
 (F:∀(w:World)(mg:Str->Option Value)(fa:Addr)(h:Heap),(K w.params).In h->h.Ns mainGlobals mg->mg d.name=some (.ref fa)->
  ∃fd:FuncData,(∀(s:Shared)(u:Value),BindsTo s fd ⟨[u],[]⟩ [(x,u)])/\
   ∀base:Heap,(K w.params).In base->base.Ns mainGlobals mg->FnOk l.prog w (K w.params) mg base jM k fa fd [x] (av8 (K w.params))):
 PySem.W.WalkO q loose XP YP l.row.toRowW d [] (λf vs=>PySem.call f vs):=by
 refine Att.attach_callB hn hdf λw s₀ s₁ mg mb fa o pm cd doc a vs ns G Y ho hd hcd hmg hobj hints hlen hg hbits=>?_
 have KX:=hY w _ Y
 obtain⟨fd,hb,hF⟩:=F w mg fa _ KX G.T.g hmg
 have hS':∀{H:Hp},SqL (K w.params) H a (ns.map V.int)->SqS (K w.params) H a (ns.map V.int):=λ{H} h=>by
  rcases h with h|⟨o,its,n,h1,h2,h3,h5,h6,h7⟩
  . exact .inl h
  . have e:=KX a o h1
    rw[hobj]at e
    cases e
    exact .inr ⟨_,its,n,h1,h2,h3,rfl,h5,h6,h7⟩
 exact ci4 KX G.T.g G.T.b G.T.builtins G.T.nolimit hg hobj hints (Nat.le_trans hlen (by decide)) hr hF hb (λH hO hS=>⟨a,ns,rfl,hS' hS,hlen,hbits,λ_=>rfl⟩) λH e s' h=>h
end L2
namespace L2
open PySem PySem.Spec PyProof.Rows
abbrev lF(X:Cx)(scope:Scope)(cl:List (Str×Addr))(C:Addr)(s₀:Shared)(H₀:Hp)(ex:List Addr):Cx:=
 {X with s₀:=s₀,H₀:=H₀,env:=compEnvC scope cl C X.env,outer:=X.stack,ex:=ex,fn:=λ_=>false,pn:=[],xe:=λ_ _=>False}
def fS (cells : List (Str × Addr)) : List (Str × NameKind) → List (Str × Addr) → List (Str × Addr)
  | [], acc => acc
  | (n, k) :: r, acc => if (k == .free) = true then fS cells r ((n, (cells.lookup n).getD 0) :: acc) else fS cells r acc
theorem vR : ∀ (names : List (Str × NameKind)) (acc : List (Str × Addr)), (∀ x ∈ names, x.2 = .free → ∃ c, env.cells.lookup x.1 = some c) →
    (forIn names acc fun (x : Str × NameKind) (cs : List (Str × Addr)) => (if (x.2 == .free) = true then (do let c ← cellOf env x.1; pure (ForInStep.yield ((x.1, c) :: cs))) else pure (ForInStep.yield cs) : Sem (ForInStep (List (Str × Addr))))) = (pure (fS env.cells names acc) : Sem (List (Str × Addr)))
  | [], acc, _ => rfl
  | (n, k) :: r, acc, h => by
    rw [List.forIn_cons]
    have hr : ∀ x ∈ r, x.2 = .free → ∃ c, env.cells.lookup x.1 = some c := fun x hx => h x (List.mem_cons_of_mem _ hx)
    by_cases hk : (k == NameKind.free) = true
    · obtain ⟨c, hc⟩ := h (n, k) List.mem_cons_self (by simpa using hk)
      have e1 : cellOf env n = pure c := by unfold cellOf; rw [hc]
      simp only [hk, if_true, e1, pure_bind]
      have e2 : fS env.cells ((n, k) :: r) acc = fS env.cells r ((n, c) :: acc) := by
        conv => lhs; unfold fS
        rw [if_pos hk, hc]
        all_goals rfl
      rw [e2]
      exact vR r _ hr
    · simp only [hk, if_false, pure_bind]
      have e2 : fS env.cells ((n, k) :: r) acc = fS env.cells r acc := by
        conv => lhs; unfold fS
        rw [if_neg hk]
      rw [e2]
      exact vR r _ hr
theorem vT (h : ∀ x ∈ scope.names, x.2 = .free → ∃ c, env.cells.lookup x.1 = some c) : closureFor scope env = pure (fS env.cells scope.names []) := by
  have q := vR (env := env) scope.names [] h
  unfold closureFor
  have e : (forIn scope.names ([] : List (Str × Addr)) fun (x : Str × NameKind) (r : List (Str × Addr)) =>
      (match x with
      | (name, kind) => if (kind == NameKind.free) = true then (do let c ← cellOf env name; pure (ForInStep.yield ((name, c) :: r))) else pure (ForInStep.yield r) : Sem (ForInStep (List (Str × Addr))))) = pure (fS env.cells scope.names []) := q
  first
    | (show (do let r ← (forIn scope.names ([] : List (Str × Addr)) _); pure r) = _; erw [e]; rfl)
    | (simp only [bind_pure]; exact e)
    | exact e
theorem sE : ∀ (names : List (Str × NameKind)) (acc : List (Str × Addr)), (∀ x ∈ names, x.2 = .free → ∃ c, cells.lookup x.1 = some c) → (∀ y c, acc.lookup y = some c → cells.lookup y = some c) →
    ∀ y c, (fS cells names acc).lookup y = some c → cells.lookup y = some c
  | [], _, _, ha => ha
  | (n, k) :: r, acc, h, ha => by
    have hr : ∀ x ∈ r, x.2 = .free → ∃ c, cells.lookup x.1 = some c := fun x hx => h x (List.mem_cons_of_mem _ hx)
    unfold fS
    by_cases hk : (k == NameKind.free) = true
    · rw [if_pos hk]
      obtain ⟨c, hc⟩ := h (n, k) List.mem_cons_self (by simpa using hk)
      refine sE r _ hr fun y d e => ?_
      rw [List.lookup_cons] at e
      cases q : y == n with
      | true =>
        rw [q] at e
        have e' : (cells.lookup n).getD 0 = d := Option.some.inj e
        have yn : y = n := by simpa using q
        subst yn
        have hc' : cells.lookup y = some c := hc
        rw [hc'] at e' ⊢
        exact congrArg some e'
      | false =>
        rw [q] at e
        exact ha y d e
    · rw [if_neg hk]
      exact sE r acc hr ha
theorem sH : ∀ (names : List (Str × NameKind)) (acc : List (Str × Addr)) (y : Str), (∃ c, acc.lookup y = some c) → ∃ c, (fS cells names acc).lookup y = some c
  | [], _, _, h => h
  | (n, k) :: r, acc, y, h => by
    unfold fS
    split
    · refine sH r _ y ?_
      rw [List.lookup_cons]
      cases q : y == n with
      | true => exact ⟨_, rfl⟩
      | false => exact h
    · exact sH r acc y h
theorem rA : ∀ (names : List (Str × NameKind)) (acc : List (Str × Addr)) (y : Str), (y, NameKind.free) ∈ names → ∃ c, (fS cells names acc).lookup y = some c
  | (n, k) :: r, acc, y, h => by
    unfold fS
    rcases List.mem_cons.mp h with e | h
    · have e1 : y = n := congrArg Prod.fst e
      have e2 : NameKind.free = k := congrArg Prod.snd e
      subst e1
      subst e2
      rw [if_pos (by rfl)]
      refine sH r _ y ?_
      rw [List.lookup_cons, beq_self_eq_true]
      exact ⟨_, rfl⟩
    · split
      · exact rA r _ y h
      · exact rA r _ y h
theorem uE {env : Env} {x : Str} : ∀ (names : List (Str × NameKind)),
    (names.map fun (n, k) => if (k == NameKind.free && env.scope.kind == .function && env.kindOf n == some .cell) then (n, NameKind.cell) else (n, k)).lookup x
      = (names.lookup x).map fun k => if (k == NameKind.free && env.scope.kind == .function && env.kindOf x == some .cell) = true then NameKind.cell else k
  | [] => rfl
  | (n, k) :: r => by
    have ih := uE (env := env) (x := x) r
    show List.lookup x ((if (k == NameKind.free && env.scope.kind == .function && env.kindOf n == some .cell) = true then (n, NameKind.cell) else (n, k)) :: _) = _
    rw [List.lookup_cons (a := x) (as := r)]
    cases hx : x == n with
    | true =>
      have e : x = n := by simpa using hx
      subst e
      by_cases hc : (k == NameKind.free && env.scope.kind == .function && env.kindOf x == some .cell) = true
      · rw [if_pos hc, List.lookup_cons, beq_self_eq_true]
        show some NameKind.cell = some (if _ then _ else _)
        rw [if_pos hc]
      · rw [if_neg hc, List.lookup_cons, beq_self_eq_true]
        show some k = some (if _ then _ else _)
        rw [if_neg hc]
    | false =>
      by_cases hc : (k == NameKind.free && env.scope.kind == .function && env.kindOf n == some .cell) = true
      · rw [if_pos hc, List.lookup_cons, hx]; exact ih
      · rw [if_neg hc, List.lookup_cons, hx]; exact ih
theorem zK : ∀ {names : List (Str × NameKind)}, names.lookup x = some k → (x, k) ∈ names
  | (n, k') :: r, h => by
    rw [List.lookup_cons] at h
    cases hx : x == n with
    | true =>
      rw [hx] at h
      have e : x = n := by simpa using hx
      subst e
      cases h
      exact List.mem_cons_self
    | false =>
      rw [hx] at h
      exact List.mem_cons_of_mem _ (zK h)
structure CScope (X : Cx) (ks : List Nat) (scope : Scope) : Prop where
  kind : scope.kind = .function
  cell : ∀ y ∈ scope.names, y.2 ≠ .cell
  names : ∀ y ∈ scope.names, y.2 = .local → scope.names.lookup y.1 = some .local
  freeB : (scope.names.all fun y => !(y.2 == NameKind.free) || (X.env.kindOf y.1 == some NameKind.cell || X.env.kindOf y.1 == some NameKind.free)) = true
  slotsB : (X.N.zipIdx.all fun p => !(scope.names.lookup p.1 == some NameKind.local) || ks.contains p.2) = true
theorem CScope.free(S:CScope X ks scope):∀y∈scope.names,y.2=.free->X.env.kindOf y.1=some .cell\/X.env.kindOf y.1=some .free:=λy hy hk=>by
 have h:=List.all_eq_true.mp S.freeB y hy
 rw[hk]at h
 simpa using h
theorem CScope.slots(S:CScope X ks scope):∀p∈X.N.zipIdx,scope.names.lookup p.1=some .local->p.2∈ks:=λp hp hk=>by
 have h:=List.all_eq_true.mp S.slotsB p hp
 rw[hk]at h
 simpa using h
def clr:List Nat->St->St
 |[],σ=>σ
 |k::ks,σ=>clr ks (σ.set k none)
theorem oO:∀(ks:List Nat)(σ:St),(clr ks σ).length=σ.length
 |[],_=>rfl
 |k::ks,σ=>by
  show(clr ks (σ.set k none)).length=_
  rw[oO ks,List.length_set]
theorem ah5:∀(ks:List Nat)(σ:St){i:Nat}{v:V},(clr ks σ)[i]?=some (some v)->σ[i]?=some (some v)/\i∉ks
 |[],_,_,_,h=>⟨h,List.not_mem_nil⟩
 |k::ks,σ,i,v,h=>by
  obtain⟨h1,h2⟩:=ah5 ks (σ.set k none) h
  by_cases e:i=k
  . subst e
    rw[List.getElem?_set_self']at h1
    cases q:σ[i]? with
    |none=>rw[q]at h1;cases h1
    |some o=>rw[q]at h1;cases h1
  . rw[List.getElem?_set_ne (Ne.symm e)]at h1
    exact⟨h1,λz=>(List.mem_cons.mp z).elim e h2⟩
def PIf(Y:Cx)(ifs:List Expr)(t:TT):Prop:=
 ∀⦃pins:List (Addr×Obj)⦄ (s:Shared)(σ:St)(H:Hp)(Q:Bool->Hp->Prop),Inv Y pins σ H s->t σ H Q->
  wpAny (model Y.prog Y.w) Y.A (forIn ifs true λc r=>if r=true then do let ok<-isTrue c Y.env (eval c Y.env);pure (ForInStep.yield ok)else pure (ForInStep.yield r)) (TP Y pins σ Q) Y.xe s
def db3:TT:=λ_ H Q=>Q true H
theorem dG:PIf Y [] db3:=λ_ _ _ H _ I h=>wpAny_tests_nil ⟨H,I,h⟩
theorem bh4(h:PT Y c t):PIf Y [c] t:=λpins s σ H Q I q=>wpAny_tests_one (h s σ H Q I q)
theorem bw9(I:Nat->Shared->Prop)
 (turn:∀n s,I n s->wpAny (model prog w) A (pyNext it) (λr s₁=>match r with
  |none=>R (.ok .next) s₁
  |some v=>wpAny (model prog w) A (letOwnedTupleGo target it v) (λ_ s₁'=>wpAny (model prog w) A (assign target env v) (λ_ s₂=>
   wpAny (model prog w) A (forIn ifs true λc r=>if r=true then do let ok<-isTrue c env (eval c env);pure (ForInStep.yield ok)else pure (ForInStep.yield r)) (λok s₃=>
    if ok=true then wpAny (model prog w) A (eval elt env) (λx s₄=>
     wpAny (model prog w) A (call (.builtin "list.append") [acc,x]) (λ_ s₅=>∃m,m<n/\I m s₅) (λ_ _=>False) s₄) (λ_ _=>False) s₃
    else∃m,m<n/\I m s₃) (λ_ _=>False) s₂) (λ_ _=>False) s₁') (λ_ _=>False) s₁) (λ_ _=>False) s)
 (n:Nat)(h:I n s):
 codeAny (model prog w) A (.compLoop (.ListComp elt [⟨target,iter,ifs,0⟩] scope pos) 0 it acc env) R s:=by
 refine codeAny_loop rfl I (λn s hI=>?_) n h
 show wpAny _ A ((compTurn (.ListComp elt [⟨target,iter,ifs,0⟩] scope pos) 0 it acc env).onRaise (λx=>do noteFrame x env;theTreesLotGoes x)) _ _ s
 refine wpAny_noted ?_
 rw[compTurn_list]
 refine wpAny_bind (wpAny_standAt (wpAny_bind (wpAny_mono (turn n s hI) (λr s₁ h₁=>?_) λ_ _ h'=>h'.elim)))
 cases r with
 |none=>exact wpAny_pure h₁
 |some v=>
  refine wpAny_bind (wpAny_mono h₁ (λ_ s₁' h₁'=>?_) λ_ _ h'=>h'.elim)
  refine wpAny_bind (wpAny_mono h₁' (λ_ s₂ h₂=>wpAny_bind (wpAny_mono h₂ (λok s₃ h₃=>?_) λ_ _ h'=>h'.elim)) λ_ _ h'=>h'.elim)
  cases ok with
  |false=>exact wpAny_pure ⟨rfl,h₃⟩
  |true=>
   exact wpAny_bind (wpAny_bind (wpAny_mono h₃ (λx s₄ h₄=>wpAny_bind (wpAny_mono h₄ (λ_ s₅ h₅=>wpAny_pure (wpAny_pure ⟨rfl,h₅⟩)) λ_ _ h'=>h'.elim)) λ_ _ h'=>h'.elim))
theorem Inv.track(I:Inv X pins σ H s)(hn:H D=none)(hl:X.s₀.heap.objs.size<=D)(hL:D≠X.env.locals)
 (hc:∀x c,X.env.cells.lookup x=some c->c≠D)(hp:∀p∈X.pn++pins,p.1≠D)(e:s.heap.get? D=some {cls:=.type "list",data:=.seq its.toArray n})(rv:Vals ys its)(hz:ys.length<=sizeLine):
 Inv X pins σ (upd H D (.lst ys)) s:=by
 have old:∀b o,X.s₀.heap.get? b=some o->b≠D:=λb o q z=>by
  subst z
  exact absurd (Nat.lt_of_lt_of_le (Heap.lt_size q) hl) (Nat.lt_irrefl _)
 have ne:∀b o,H b=some o->b≠D:=λb o q=>gK q hn
 refine⟨I.ok,I.os,I.bare,⟨I.base.keep,I.base.slot,λb o q n' hx=>?_,I.base.there,λb xs q=>?_,λb o u q=>?_,λb ps q=>?_⟩,I.loc,I.cell,?_,λx c q=>?_,λp q=>?_,λb u q=>?_,I.len⟩
 . rw[cH (old b o q)]
   exact I.base.free b o q n' hx
 . have z:=I.base.tups b xs q
   rw[cH (ne _ _ z)]
   exact z
 . have z:=I.base.frzs b o u q
   rw[cH (ne _ _ z)]
   exact z
 . obtain⟨more,z⟩:=I.base.tbls b ps q
   exact⟨more,by rw[cH (ne _ _ z)];exact z⟩
 . rw[cH (Ne.symm hL)]
   exact I.free
 . rw[cH (hc x c q)]
   exact I.freeC x c q
 . obtain⟨h1,h2,h3⟩:=I.pin p q
   exact⟨h1,by rw[cH (hp p q)];exact h2,h3⟩
 . by_cases hb:b=D
   . subst hb
     rw[eD]at q
     cases q
     exact⟨hz,its,n,rv,e⟩
   . rw[cH hb]at q
     exact(I.hok b u q).stay (λc v _ z=>z) (λc z=>by rw[cH (ne _ _ z)];exact z) λc xs z=>by rw[cH (ne _ _ z)];exact z
def Ext(ks:List Nat)(σ σ2:St):Prop:=σ2.length=σ.length/\∀(i:Nat)(v:V),(clr ks σ)[i]?=some (some v)->σ2[i]?=some (some v)
def CGo(ks:List Nat)(g:TG)(tc:TT)(te:TE)(σ:St)(F:Addr->Hp->Prop)(J:It)(H1:Hp):Prop:=
 ∃W:Nat->Nat->List V->Hp->Prop,(∃m,W 0 m [] H1)/\∀i m ys H,W i m ys H->
  (J.stop i H/\∀D,H D=none->F D (upd H D (.lst ys)))\/
  (J.go i H/\ys.length<sizeLine/\∃N:List V->Hp->Prop,(∀ys' H',N ys' H'->∃m',m'<m/\W (i+1) m' ys' H')/\∀x H',J.yld i H x H'->g x (clr ks σ) H' λσ2 H2=>Ext ks σ σ2/\tc σ2 H2 λb H3=>
   if b=true then te σ2 H3 λv H4=>N (ys++[v]) H4 else N ys H3)
def bt5(ks:List Nat)(wi:TI)(g:TG)(tc:TT)(te:TE):TE:=λσ H Q=>wi σ H (CGo ks g tc te σ λD H'=>Q (.ref D) H')
def ag0(k:Nat)(ks:List Nat)(wi:TI)(g:TG)(tc:TT)(te:TE):TS:=λD σ H=>wi σ H (CGo ks g tc te σ λa H'=>D.nx (σ.set k (some (.ref a))) H')
section
variable {X : Cx}
theorem bk4 {tg iter elt : Expr} {ifs : List Expr} {scope : Scope} {pos : Pos} {ks : List Nat} {g : TG} {tc : TT} {te : TE} {F : Addr → Hp → Prop} {RR : Value → Addr → Result → Shared → Prop} {E : Value → Shared → Prop}
    {pins : List (Addr × Obj)} {σ : St} {s2 : Shared} {itv : Value} (S : CScope X ks scope) (hc : X.calm = true)
    (hg : ∀ cl C s₀ H₀ ex, PG (lF X scope cl C s₀ H₀ ex) tg g) (hi : ∀ cl C s₀ H₀ ex, PIf (lF X scope cl C s₀ H₀ ex) ifs tc) (he : ∀ cl C s₀ H₀ ex, PE (lF X scope cl C s₀ H₀ ex) elt te)
    (h : PIE X pins σ tg (CGo ks g tc te σ F) itv s2)
    (hRR : ∀ D C s' H', Inv X pins σ H' s' → (∃ m, s'.heap.Ns C m) → pM X pins H' C → F D H' → RR (.ref D) C (.ok .next) s') :
    wpAny (model X.prog X.w) X.A (newList []) (fun acc s₃ => wpAny (model X.prog X.w) X.A (newFunctionEnv scope X.env.globals (fS X.env.cells scope.names []) [] X.env.qual none .none (some X.env)) (fun cenv s₄ =>
      codeAny (model X.prog X.w) X.A (.compStart (.ListComp elt [⟨tg, iter, ifs, 0⟩] scope pos) 0 itv acc { cenv with scope := relabel scope X.env }) (RR acc cenv.locals) s₄) E s₃) E s2 := by
  obtain ⟨it, fp, tn, J, H2, rfl, I2, T, st2, f2, W, ⟨m0, w0⟩, turn⟩ := h
  refine wpAny_newObj_type (wpAny_newFunctionEnv S.cell (by intro y hy; simp at hy) (fun h₁ hns₁ hsb₁ => ?_) S.kind)
  dsimp only at hns₁ hsb₁ ⊢
  have hD2 : s2.heap.get? s2.heap.objs.size = none := Heap.get?_none_of_le (Nat.le_refl _)
  have nD : H2 s2.heap.objs.size = none := I2.hok.fresh (Nat.le_refl _)
  have I3 : Inv X pins σ H2 { s2 with heap := s2.heap.push { cls := .type "list", dict := none, data := .seq ([] : List Value).toArray } } := I2.kept (t' := s2.toks) fun b o e => Heap.get?_push_of_some _ e
  have eD3 : (s2.heap.push { cls := .type "list", dict := none, data := .seq ([] : List Value).toArray }).get? s2.heap.objs.size = some { cls := .type "list", dict := none, data := .seq ([] : List Value).toArray } := Heap.get?_push_size _ rfl
  have hsz3 : (s2.heap.push { cls := .type "list", dict := none, data := .seq ([] : List Value).toArray }).objs.size = s2.heap.objs.size + 1 := Heap.size_push _ _
  have fD := I2.fpOk (b := s2.heap.objs.size) (Nat.le_refl _) nD
  have fplt : ∀ b ∈ fp, b < s2.heap.objs.size := fun b hb => by
    obtain ⟨o, e, _⟩ := T.obj _ _ st2 b hb
    exact Heap.lt_size e
  have hDfp : s2.heap.objs.size ∉ fp := fun z => Nat.lt_irrefl _ (fplt _ z)
  generalize hs3 : ({ s2 with heap := s2.heap.push { cls := .type "list", dict := none, data := .seq ([] : List Value).toArray } } : Shared) = s3 at I3
  generalize hDD : s2.heap.objs.size = D at *
  have s3h : s3.heap = s2.heap.push { cls := .type "list", dict := none, data := .seq ([] : List Value).toArray } := by rw [← hs3]
  rw [← s3h] at hns₁ hsb₁ eD3 hsz3
  have fC := I3.fpOk (H' := H2) (b := s3.heap.objs.size) (Nat.le_refl _) (I3.hok.fresh (Nat.le_refl _))
  have old : ∀ b o, s3.heap.get? b = some o → h₁.get? b = some o := fun b o e => hsb₁.extBut b o (Nat.ne_of_lt (Heap.lt_size e)) (Heap.get?_push_of_some _ e)
  generalize hCC : s3.heap.objs.size = C at *
  have hDltC : D < C := by rw [hsz3]; exact Nat.lt_succ_self _
  have hDC : D ≠ C := Nat.ne_of_lt hDltC
  have hclos := vT (env := X.env) (scope := scope) fun x hx hk => I2.ok.has x.1 (S.free x hx hk)
  have csound : ∀ y c, (fS X.env.cells scope.names []).lookup y = some c → X.env.cells.lookup y = some c :=
    sE scope.names [] (fun x hx hk => I2.ok.has x.1 (S.free x hx hk)) fun y c e => by cases e
  generalize hcl : fS X.env.cells scope.names [] = cl at *
  have kin : ∀ y, (compEnvC scope cl C X.env).kindOf y = (scope.names.lookup y).map fun k => if (k == NameKind.free && X.env.scope.kind == .function && X.env.kindOf y == some .cell) = true then NameKind.cell else k := fun y => uE scope.names
  have isFree : ∀ y, ((compEnvC scope cl C X.env).kindOf y = some .cell ∨ (compEnvC scope cl C X.env).kindOf y = some .free) → (y, NameKind.free) ∈ scope.names := fun y hy => by
    rw [kin y] at hy
    cases q : scope.names.lookup y with
    | none =>
      rw [q] at hy
      rcases hy with z | z <;> cases z
    | some k =>
      rw [q] at hy
      have hm := zK q
      cases k with
      | free => exact hm
      | cell => exact absurd rfl (S.cell _ hm)
      | _ =>
        rcases hy with z | z
        · exact absurd (Option.some.inj z) (by simp)
        · exact absurd (Option.some.inj z) (by simp)
  have neFs : ∀ b, pM X pins H2 b → b ∉ uW X.stack := fun b f z => by
    rcases List.mem_cons.mp (I2.stkSub b z) with e | e
    · exact f.2.1 e
    · exact f.2.2.1 e
  have exs : ∀ b ∈ D :: fp, pM X pins H2 b := fun b hb => by
    rcases List.mem_cons.mp hb with e | e
    · rw [e]; exact fD
    · exact f2 b e
  have exlt : ∀ b ∈ D :: fp, b < C := fun b hb => by
    rcases List.mem_cons.mp hb with e | e
    · rw [e]; exact hDltC
    · exact Nat.lt_trans (fplt b e) hDltC
  have okY : (lF X scope cl C s3 H2 (D :: fp)).Ok :=
    { mod := I2.ok.mod, kind := S.kind, glob := I2.ok.glob, blt := I2.ok.blt, above := Nat.le_of_eq hCC
      inj := fun x y c h1 h2 => I2.ok.inj x y c (csound _ _ h1) (csound _ _ h2)
      has := fun y hy => by
        have z := rA (cells := X.env.cells) scope.names [] y (isFree y hy)
        rw [hcl] at z
        exact z
      cab := fun _ _ z => by cases z
      hd := I2.ok.hd, frames := I2.ok.frames, stk := .inl rfl
      exf := fun b hb => ⟨Nat.ne_of_lt (exlt b hb), fun x c e z => (exs b hb).2.2.2.2.1 x c (csound _ _ e) z⟩
      bs := I3.bs
      bsz := Nat.le_trans I2.ok.bsz I3.sz
      noex := fun b o e hb => by
        rcases (exs b hb).2.2.2.1 with z | z
        · exact I2.ok.noex b o e z
        · exact absurd (Nat.lt_of_lt_of_le (Heap.lt_size e) (Nat.le_trans I2.ok.bsz z)) (Nat.lt_irrefl _)
      exfs := fun b hb => neFs b (exs b hb)
      funs := I3.stack
      frf := I3.stkFree }
  have outP : ∀ p ∈ X.pn ++ pins, p.1 ≠ C ∧ p.1 ∉ uW X.stack ∧ p.1 ≠ D := fun p hp => by
    obtain ⟨e, n, ne, nf, d⟩ := I2.pin p hp
    have lt : p.1 < D := by rw [← hDD]; exact Heap.lt_size e
    refine ⟨Nat.ne_of_lt (Nat.lt_trans lt hDltC), fun z => ?_, Nat.ne_of_lt lt⟩
    rcases List.mem_cons.mp (I2.stkSub p.1 z) with q | q
    · exact ne q
    · exact nf q
  have I4 : Inv (lF X scope cl C s3 H2 (D :: fp)) (X.pn ++ pins) (clr ks σ) H2 { s3 with heap := h₁, toks := s3.toks + ([] : List (Str × Value)).length } := by
    refine ⟨okY, rfl, I3.bare, Un.kept old, ⟨_, hns₁, fun i x v e1 e2 e3 => ?_⟩, fun x c e => ?_, ?_, fun x c e => ?_, fun p hp => ?_, I3.hok.kept old, ?_⟩
    · obtain ⟨e2, nk⟩ := ah5 ks σ e2
      have hv : (compEnvC scope cl C X.env).kindOf x = some .cell ∨ (compEnvC scope cl C X.env).kindOf x = some .free := by
        rcases e3 with z | z | z
        · exfalso
          have z' : (compEnvC scope cl C X.env).kindOf x = some .local := z
          rw [kin x] at z'
          have hm : (x, i) ∈ X.N.zipIdx := by
            rw [List.mem_zipIdx_iff_getElem?]
            exact e1
          refine nk (S.slots (x, i) hm ?_)
          show scope.names.lookup x = some .local
          cases q : scope.names.lookup x with
          | none => rw [q] at z'; cases z'
          | some k =>
            rw [q] at z'
            have z2 := Option.some.inj z'
            cases k with
            | «local» => rfl
            | free =>
              exfalso
              dsimp only at z2
              split at z2 <;> cases z2
            | _ => exact absurd z2 (by simp)
        · exact .inl z
        · exact .inr z
      have hf := isFree x hv
      have hX := S.free (x, .free) hf rfl
      obtain ⟨m, hn, hl⟩ := I3.loc
      obtain ⟨u, r, lk⟩ := hl i x v e1 e2 (by rcases hX with z | z; exact .inr (.inl z); exact .inr (.inr z))
      refine ⟨u, r, .inr ⟨hv, ?_⟩⟩
      have z := rA (cells := X.env.cells) scope.names [] x hf
      rw [hcl] at z
      obtain ⟨c, hcx⟩ := z
      rcases lk with ⟨kl, _⟩ | ⟨_, c', e', z'⟩
      · have hX' : X.env.kindOf x = some .cell ∨ X.env.kindOf x = some .free := hX
        rw [kl] at hX'
        rcases hX' with z | z <;> cases z
      · have q := csound x c hcx
        rw [e'] at q
        cases q
        obtain ⟨o, ho, hd⟩ := z'
        exact ⟨c, hcx, o, old _ _ ho, hd⟩
    · obtain ⟨v, o, ho, hd⟩ := I3.cell x c (csound x c e)
      exact ⟨v, o, old _ _ ho, hd⟩
    · exact I3.hok.fresh (Nat.le_of_eq hCC)
    · exact I3.freeC x c (csound x c e)
    · have hp' : p ∈ X.pn ++ pins := hp
      obtain ⟨e, n, ne, nf, d⟩ := I3.pin p hp'
      exact ⟨old _ _ e, n, (outP p hp').1, (outP p hp').2.1, d⟩
    · rw [oO]
      exact I3.len
  have fpY : ∀ {pl : List (Addr × Obj)} {H' : Hp}, (∀ p ∈ pl, p.1 ∉ fp) → (∀ b ∈ fp, H' b = none) → ∀ b ∈ fp, pM (lF X scope cl C s3 H2 (D :: fp)) ((X.pn ++ pins) ++ pl) H' b := fun {pl H'} hpl hn b hb => by
    have f := f2 b hb
    refine ⟨hn b hb, Nat.ne_of_lt (exlt b (List.mem_cons_of_mem _ hb)), neFs b f, .inl (List.mem_cons_of_mem _ hb), fun x c e z => f.2.2.2.2.1 x c (csound x c e) z, fun p hp => ?_⟩
    have hp' : p ∈ (X.pn ++ pins) ++ pl := hp
    rcases List.mem_append.mp hp' with q | q
    · exact f.2.2.2.2.2 p q
    · exact fun z => hpl p q (by rw [z]; exact hb)
  have iY : ∀ s₅ : Shared, s₅ = { s3 with heap := h₁, toks := s3.toks + ([] : List (Str × Value)).length } →
      codeAny (model X.prog X.w) X.A (.compLoop (.ListComp elt [⟨tg, iter, ifs, 0⟩] scope pos) 0 (.ref it) (.ref D) (compEnvC scope cl C X.env)) (RR (.ref D) C) s₅ := by
    rintro s₅ rfl
    refine bw9 (fun n s' => ∃ i H' ys its nn, Inv (lF X scope cl C s3 H2 (D :: fp)) (X.pn ++ pins) (clr ks σ) H' s' ∧ tn i s'.heap ∧ (∀ b ∈ fp, H' b = none) ∧ H' D = none ∧ s'.heap.get? D = some { cls := .type "list", data := .seq its nn } ∧ Vals ys its.toList ∧ ys.length ≤ sizeLine ∧ W i n ys H') ?_ m0
      ⟨0, H2, [], #[], 0, I4, T.keep _ _ _ st2 (fun b hb o e => old _ _ (by rw [s3h]; exact Heap.get?_push_of_some _ e)), fun b hb => (f2 b hb).1, nD, old _ _ eD3, .nil, Nat.zero_le _, w0⟩
    rintro n s6 ⟨i, H6, ys, its, nn, I6, st6, fr6, nD6, eD6, rv6, hz6, w6⟩
    have I6' : Inv (lF X scope cl C s3 H2 (D :: fp)) ((X.pn ++ pins) ++ [(D, { cls := .type "list", data := .seq its nn })]) (clr ks σ) H6 s6 := I6.pins_of fun p hp => (List.mem_append.mp hp).elim (fun z => I6.pin p (List.mem_append_right _ z)) fun z => by
      obtain rfl := List.mem_singleton.mp z
      exact ⟨eD6, nD6, hDC, neFs D fD, fun v q => by cases q⟩
    have plD : ∀ p ∈ [((D, { cls := .type "list", data := .seq its nn }) : Addr × Obj)], p.1 ∉ fp := fun p hp => by
      obtain rfl := List.mem_singleton.mp hp
      exact hDfp
    rcases turn i n ys H6 w6 with ⟨stop, bP⟩ | ⟨go, hz, N, hN, step⟩
    · refine bY (T.done (lF X scope cl C s3 H2 (D :: fp)) rfl rfl rfl hc i _ s6 (clr ks σ) H6 _ I6' (fpY plD fr6) st6 stop) fun r s7 ⟨hr, I7⟩ => ?_
      subst hr
      have IX : Inv X pins σ H6 s7 := I3.call' (ch := D :: fp) I7.os I7.base I7.hok I7.bare fun b hb => ⟨(exs b hb).2.2.2.1, (exs b hb).2.1, (exs b hb).2.2.2.2.1, (exs b hb).2.2.2.2.2⟩
      have eD7 := (I7.pin (D, { cls := .type "list", data := .seq its nn }) (List.mem_append_right _ (List.mem_append_right _ (List.mem_singleton.mpr rfl)))).1
      have rv7 : Vals ys its.toList := rv6
      have IT : Inv X pins σ (upd H6 D (.lst ys)) s7 := IX.track (its := its.toList) (n := nn) nD6 (by
        have := I2.sz
        omega) fD.2.1 fD.2.2.2.2.1 fD.2.2.2.2.2 (by simpa using eD7) rv7 hz6
      obtain ⟨m7, hn7, _⟩ := I7.loc
      refine hRR D C s7 _ IT ⟨m7, hn7⟩ ⟨?_, fC.2⟩ (bP D nD6)
      rw [cH (Ne.symm hDC)]
      exact I7.free
    · refine bY (T.item (lF X scope cl C s3 H2 (D :: fp)) rfl rfl rfl hc i _ s6 (clr ks σ) H6 _ I6' (fpY plD fr6) st6 go) fun r s7 ⟨u, hr, h7⟩ => ?_
      subst hr
      refine bY h7 fun _ s8 ⟨x, H8, I8, r8, y8, st8, fr8⟩ => ?_
      have I8' := I8.pinned (fpY plD fr8) (T.obj _ _ st8)
      refine bY (hg cl C s3 H2 (D :: fp) s8 (clr ks σ) H8 x u _ I8' r8 (step x H8 y8)) fun _ s9 ⟨σ9, H9, I9, hE, q9⟩ => ?_
      refine bY (hi cl C s3 H2 (D :: fp) s9 σ9 H9 _ I9 q9) fun ok s10 ⟨H10, I10, q10⟩ => ?_
      have memD : (D, ({ cls := .type "list", data := .seq its nn } : Obj)) ∈ ([] : List (Addr × Obj)) ++ (((X.pn ++ pins) ++ [(D, { cls := .type "list", data := .seq its nn })]) ++ uK fp s8.heap) := List.mem_append_right _ (List.mem_append_left _ (List.mem_append_right _ (List.mem_singleton.mpr rfl)))
      have keepT : ∀ {σ' : St} {H' : Hp} {s' : Shared}, Inv (lF X scope cl C s3 H2 (D :: fp)) (((X.pn ++ pins) ++ [(D, { cls := .type "list", data := .seq its nn })]) ++ uK fp s8.heap) σ' H' s' → tn (i + 1) s'.heap ∧ (∀ b ∈ fp, H' b = none) := fun {σ' H' s'} I' =>
        ⟨T.keep _ _ _ st8 fun b hb o e => (I'.pin (b, o) (List.mem_append_right _ (List.mem_append_right _ (qY hb e)))).1, fun b hb => by
          obtain ⟨o, e, d⟩ := T.obj _ _ st8 b hb
          exact (I'.pin (b, o) (List.mem_append_right _ (List.mem_append_right _ (qY hb e)))).2.1⟩
      cases ok with
      | false =>
        obtain ⟨m', hm, w10⟩ := hN ys H10 q10
        obtain ⟨k1, k2⟩ := keepT I10
        obtain ⟨p1, p2, _⟩ := I10.pin _ memD
        exact ⟨m', hm, i + 1, H10, ys, its, nn, I10.unpinned.unpinned.weak (by rw [oO]; exact hE.1.symm) hE.2, k1, k2, p2, p1, rv6, hz6, w10⟩
      | true =>
        refine bY (he cl C s3 H2 (D :: fp) s10 σ9 H10 _ I10 q10) fun vv s11 ⟨v, H11, I11, r11, n11⟩ => ?_
        obtain ⟨m', hm, w11⟩ := hN _ _ n11
        obtain ⟨k1, k2⟩ := keepT I11
        obtain ⟨p1, p2, _⟩ := I11.pin _ memD
        have hlen : ys.length = its.size := by have := rv6.length; simpa using this
        refine call_meets PySem.F.slot_list_append ⟨_, p1, rfl⟩ PySem.F.entry_list_append (PySem.F.args_list_append_2 _ _) (PySem.list_append D its nn vv (by omega)) ⟨p1, ?_⟩
        have q := PySem.IsL.update p1 fun xs => xs.push vv
        refine ⟨m', hm, i + 1, H11, ys ++ [v], its.push vv, _, (I11.unpinned.unpinned.weak (by rw [oO]; exact hE.1.symm) hE.2).turned (fun b o hb e => (Heap.get?_update_other _ _ (Ne.symm hb)).trans e) p2 hDC (.inl List.mem_cons_self) (fun x c e z => fD.2.2.2.2.1 x c (csound x c e) z) (fun p hp => (outP p hp).2.2), ?_, k2, p2, q, ?_, ?_, w11⟩
        · refine T.keep _ _ _ k1 fun b hb o e => (Heap.get?_update_other _ _ ?_).trans e
          intro z
          exact hDfp (by rw [z]; exact hb)
        · have : (its.push vv).toList = its.toList ++ [vv] := by simp
          rw [this]
          exact rv6.append (.cons r11 .nil)
        · rw [List.length_append, List.length_singleton]
          omega
  have hCC' : (s2.heap.push { cls := .type "list", dict := none, data := .seq ([] : List Value).toArray }).objs.size = C := by rw [← s3h]; exact hCC
  rw [hCC']
  exact codeAny_compStart_list (iY _ (by rw [← hs3])) (T.self _ 0 _ _ _ (T.keep _ _ _ st2 (fun b hb o e => old _ _ (by rw [s3h]; exact Heap.get?_push_of_some _ e))) (iY _ (by rw [← hs3])))
theorem cb9(S:CScope X ks scope)(hc:X.calm=true)(hit:PI X tg iter wi)
 (hg:∀cl C s₀ H₀ ex,PG (lF X scope cl C s₀ H₀ ex) tg g)(hi:∀cl C s₀ H₀ ex,PIf (lF X scope cl C s₀ H₀ ex) ifs tc)(he:∀cl C s₀ H₀ ex,PE (lF X scope cl C s₀ H₀ ex) elt te)
 (hs:∀x,foldedSetIterable iter X.env x=pure x:=by intro _;rfl):PE X (.ListComp elt [⟨tg,iter,ifs,0⟩] scope pos) (bt5 ks wi g tc te):=by
 intro pins s σ H Q I h
 rw[eval_ListComp]
 refine wpAny_comprehension_free (use:=none) rfl hs (vT λx hx hk=>I.ok.has x.1 (S.free x hx hk)) S.kind S.names (bY (hit s σ H _ I h) λv s1 h1=>bY h1 λitv s2 h2=>?_)
 refine bk4 (RR:=λacc C=>compPost (model X.prog X.w) X.A X.xe none (EP X pins σ Q) acc C) S hc hg hi he h2 ?_
 rintro D C s' H' I' ⟨m,hn⟩ f q
 exact⟨m,hn,λh'' sb=>⟨.ref D,H',I'.turned (t':=s'.toks) (λb o hb e=>(sb.2 b hb).trans e) f.1 f.2.1 f.2.2.2.1 f.2.2.2.2.1 f.2.2.2.2.2,rfl,q⟩⟩
theorem ba5(hN:X.N.Nodup)(hi':X.N[i]?=some y)(hy:Loc X.env.scope y)
 (S:CScope X ks scope)(hc:X.calm=true)(hit:PI X tg iter wi)
 (hg:∀cl C s₀ H₀ ex,PG (lF X scope cl C s₀ H₀ ex) tg g)(hi:∀cl C s₀ H₀ ex,PIf (lF X scope cl C s₀ H₀ ex) ifs tc)(he:∀cl C s₀ H₀ ex,PE (lF X scope cl C s₀ H₀ ex) elt te)
 (hsw:swapsWith (.ListComp elt [⟨tg,iter,ifs,0⟩] scope pos) (some (.Name y py)) spos.line X.env=pure true:=by rfl)
 (hs:∀x,foldedSetIterable iter X.env x=pure x:=by intro _;rfl)(hf:X.fn y=true\/X.env.scope.names.lookup y=some .local:=by first|exact .inl rfl|exact .inr rfl|assumption):
 PS X (.Assign [.Name y py] (.ListComp elt [⟨tg,iter,ifs,0⟩] scope pos) spos) (ag0 i ks wi g tc te):=by
 intro pins s σ H D I h
 rw[exec_Assign_Name_used _ _ _ _ hsw]
 refine wpAny_bind (wpAny_standAt (wpAny_bind ?_))
 show wpAny _ X.A (do let _<-comprehension (.ListComp elt [⟨tg,iter,ifs,0⟩] scope pos) scope X.env _ (newList []) false (eval iter X.env) (some (assign (.Name y py) X.env))) _ _ s
 refine wpAny_bind (wpAny_mono (wpAny_comprehension_free (use:=some (assign (.Name y py) X.env)) (Q:=λ_ s'=>SP X pins D .next s') rfl hs (vT λx hx hk=>I.ok.has x.1 (S.free x hx hk)) S.kind S.names
  (bY (hit s σ H _ I h) λv s1 h1=>bY h1 λitv s2 h2=>?_)) (λ_ s' hq=>wpAny_pure (wpAny_pure hq)) λ_ _ e=>e)
 refine bk4 (RR:=λacc C=>compPost (model X.prog X.w) X.A X.xe (some (assign (.Name y py) X.env)) (λ_ s'=>SP X pins D .next s') acc C) S hc hg hi he h2 ?_
 rintro L C s' H' I' ⟨m,hn⟩ f q
 show wpAny _ _ (assign (.Name y py) X.env (.ref L)) _ _ s'
 refine wpAny_assign_Name (af7 (v:=.ref L) I' hN hi' hy rfl (λs'' I'' hh=>?_) hf)
 obtain⟨a,sb,ha⟩:=hh
 have hCa:C≠a:=by
  rcases ha with e|e
  . rw[e];exact f.2.1
  . exact λz=>f.2.2.2.2.1 y a e z.symm
 exact⟨m,hn.sameBut sb hCa,λh'' sb'=>⟨_,H',I''.turned (t':=s''.toks) (λb o hb e=>(sb'.2 b hb).trans e) f.1 f.2.1 f.2.2.2.1 f.2.2.2.2.1 f.2.2.2.2.2,q⟩⟩
end
end L2
namespace L2
open PySem PySem.Spec PyProof.Rows
section
variable {X : Cx}
theorem bm9(hc:X.calm=true):CallR X (.builtin "max") (λxs H Q=>∃(p:Addr)(ns:List Int),xs=[.ref p]/\SqL X.K H p (ns.map V.int)/\ns≠[]/\∀M,M∈ns->(∀a∈ns,a<=M)->Q (.int M) H):=by
 intro pins s σ H xs us Q I r h
 obtain⟨p,ns,rfl,hp,hne,q⟩:=h
 obtain⟨u,rfl,ru⟩:=r.one
 obtain rfl:u=Value.ref p:=ru
 obtain⟨its,rv,pl,_⟩:=I.list hp
 have hi:IntsAre its ns:=am1 rv
 have hl:=pl.isList
 obtain⟨xs,e⟩:=hi.allInts.items
 have hns:ns=xs.toList.map (·.1):=by
  rw[<-hi.numsOf,<-nums_intItems,<-e]
 have hsz:0<xs.size:=by
  have h3:=List.length_pos_iff.mpr hne
  rw[hns,List.length_map,Array.length_toList]at h3
  exact h3
 rw[e]at hl
 refine max_intList (I.ok.hd hc) hl hsz λv h' tk hv hk=>?_
 obtain⟨t,rfl⟩:=intItems_at hv
 obtain⟨h1,h2⟩:=argBest_gt (numAt xs) (xs.size-1)
 refine⟨.int _,H,I.kept hk,⟨t,rfl⟩,q _ ?_ λa ha=>?_⟩
 . rw[hns,numAt_eq];exact getD_mem (by rw[List.length_map,Array.length_toList];omega)
 . rw[hns]at ha
   obtain⟨j,hj,rfl⟩:=mem_getD ha
   rw[List.length_map,Array.length_toList]at hj
   rw[<-numAt_eq];exact h2 j (by omega)
theorem bm7(hc:X.calm=true):CallR X (.builtin "min") (λxs H Q=>∃(p:Addr)(ns:List Int),xs=[.ref p]/\SqL X.K H p (ns.map V.int)/\ns≠[]/\∀M,M∈ns->(∀a∈ns,M<=a)->Q (.int M) H):=by
 intro pins s σ H xs us Q I r h
 obtain⟨p,ns,rfl,hp,hne,q⟩:=h
 obtain⟨u,rfl,ru⟩:=r.one
 obtain rfl:u=Value.ref p:=ru
 obtain⟨its,rv,pl,_⟩:=I.list hp
 have hi:IntsAre its ns:=am1 rv
 have hl:=pl.isList
 obtain⟨xs,e⟩:=hi.allInts.items
 have hns:ns=xs.toList.map (·.1):=by
  rw[<-hi.numsOf,<-nums_intItems,<-e]
 have hsz:0<xs.size:=by
  have h3:=List.length_pos_iff.mpr hne
  rw[hns,List.length_map,Array.length_toList]at h3
  exact h3
 rw[e]at hl
 refine min_intList (I.ok.hd hc) hl hsz λv h' tk hv hk=>?_
 obtain⟨t,rfl⟩:=intItems_at hv
 obtain⟨h1,h2⟩:=argBest_lt (numAt xs) (xs.size-1)
 refine⟨.int _,H,I.kept hk,⟨t,rfl⟩,q _ ?_ λa ha=>?_⟩
 . rw[hns,numAt_eq];exact getD_mem (by rw[List.length_map,Array.length_toList];omega)
 . rw[hns]at ha
   obtain⟨j,hj,rfl⟩:=mem_getD ha
   rw[List.length_map,Array.length_toList]at hj
   rw[<-numAt_eq];exact h2 j (by omega)
end
section
variable {X : Cx}
end
end L2
namespace L2
open PySem PySem.Spec PyProof.Rows
def Its(z:Str):It:=⟨λi _=>i<z.cps.size,λi H x H'=>H'=H/\∃c,z.cps[i]?=some c/\x=.str ⟨#[c]⟩,λi _=>z.cps.size<=i⟩
theorem bg9(hQ:Q () s):wpAny M A (letOwnedTupleGo tg (.ref it) (.str x t)) Q E s:=by
 unfold letOwnedTupleGo
 cases tg<;>exact wpAny_pure hQ
theorem bx4{P:Program}{w:World}{K:PySem.W.Frag}{tg:Expr}(it:Addr)(z:Str)(t:Tok):xY P w K tg (Its z) [it] it (λi h=>h.IsStrIter it "str_ascii_iterator" z t i) where
 mem:=by simp
 obj:=λi h st b hb=>by
  have e:b=it:=by simpa using hb
  subst e
  obtain⟨o,e,c,d⟩:=st
  exact⟨o,e,λv q=>by rw[d]at q;cases q⟩
 keep:=λi h h' st k=>let⟨o,e,r⟩:=st;⟨o,k it (by simp) o e,r⟩
 item:=by
  intro X hP hw hK hc i pins s σ H E I hf st hg
  subst hP hw hK
  obtain⟨f0,f1,f2,f3,f4,f5⟩:=hf it (by simp)
  have hg':i<z.cps.size:=hg
  refine wpAny_pyNext_ascii_item st (c:=z.cps[i]) (by simp[hg']) λh' hit' hs'=>?_
  have I1:Inv X pins σ H {s with heap:=h',toks:=s.toks+1}:=I.turned (λb o hb e=>hs'.extBut b o hb e) f0 f1 f3 f4 f5
  exact⟨_,rfl,bg9 ⟨.str ⟨#[z.cps[i]]⟩,H,I1,⟨_,rfl⟩,⟨rfl,_,by simp[hg'],rfl⟩,hit',λb hb=>(hf b hb).1⟩⟩
 done:=by
  intro X hP hw hK hc i pins s σ H E I hf st hg
  subst hP hw hK
  obtain⟨f0,f1,f2,f3,f4,f5⟩:=hf it (by simp)
  have hg':z.cps.size<=i:=hg
  exact wpAny_pyNext_ascii_end (I.ok.hd hc) st (by simp[hg']) λh' he'=>⟨rfl,I.turned (t':=s.toks) (λb o hb e=>he' b o hb e) f0 f1 f3 f4 f5⟩
 self:=λ_ _ _ _ _ st h=>wpAny_pyIter_striter_ascii st h
theorem bv7{P:Program}{w:World}{K:PySem.W.Frag}{tg:Expr}(it:Addr)(z:Str)(t:Tok):xY P w K tg (Its z) [it] it (λi h=>h.IsStrIter it "str_iterator" z t i) where
 mem:=by simp
 obj:=λi h st b hb=>by
  have e:b=it:=by simpa using hb
  subst e
  obtain⟨o,e,c,d⟩:=st
  exact⟨o,e,λv q=>by rw[d]at q;cases q⟩
 keep:=λi h h' st k=>let⟨o,e,r⟩:=st;⟨o,k it (by simp) o e,r⟩
 item:=by
  intro X hP hw hK hc i pins s σ H E I hf st hg
  subst hP hw hK
  obtain⟨f0,f1,f2,f3,f4,f5⟩:=hf it (by simp)
  have hg':i<z.cps.size:=hg
  refine wpAny_pyNext_wide_item st (c:=z.cps[i]) (by simp[hg']) λh' hit' hs'=>?_
  have I1:Inv X pins σ H {s with heap:=h',toks:=s.toks+1}:=I.turned (λb o hb e=>hs'.extBut b o hb e) f0 f1 f3 f4 f5
  exact⟨_,rfl,bg9 ⟨.str ⟨#[z.cps[i]]⟩,H,I1,⟨_,rfl⟩,⟨rfl,_,by simp[hg'],rfl⟩,hit',λb hb=>(hf b hb).1⟩⟩
 done:=by
  intro X hP hw hK hc i pins s σ H E I hf st hg
  subst hP hw hK
  obtain⟨f0,f1,f2,f3,f4,f5⟩:=hf it (by simp)
  have hg':z.cps.size<=i:=hg
  exact wpAny_pyNext_wide_end (I.ok.hd hc) st (by simp[hg']) λh' he'=>⟨rfl,I.turned (t':=s.toks) (λb o hb e=>he' b o hb e) f0 f1 f3 f4 f5⟩
 self:=λ_ _ _ _ _ st h=>wpAny_pyIter_striter_wide st h
section
variable {X : Cx}
def dm1:V->Option Int->Option Int->Hp->VK->Prop:=λx lo hi H Q=>∃z,x=.str z/\z.length<=sizeLine/\Q (.str (Txt.slice z lo hi)) H
theorem dt2:SlR X dm1:=by
 intro pins s σ H x v vl vu lo hi sl Q I rx hs pl pu h
 obtain⟨z,rfl,hz,q⟩:=h
 obtain⟨t,rfl⟩:=rx
 refine⟨"str",_,F.slot_str_getitem.lookup,typeIs_str s z t,?_⟩
 obtain⟨o,e,c,d⟩:=hs
 have go:∀(l u:Option (Int×Tok)),vl=partValue l->vu=partValue u->lo=l.map (·.1)->hi=u.map (·.1)->wpAny (model X.prog X.w) X.A (getItem (.str z t) (.ref sl)) (EP X pins σ Q) X.xe s:=by
  rintro l u rfl rfl rfl rfl
  refine wpAny_getItem_str_slice (l:=l) (u:=u) (st:=none) ⟨o,e,c,d⟩ rfl ?_
  unfold sliceMade
  unfold Txt.slice at q
  have e1:((((none:Option (Int×Tok)).map (·.1)).getD 1==1&&(slicePicked z l u none).length==z.length)=true)=(((1:Int)==1&&(Builtin.Str.strSliceIndices (l.map (·.1)) (u.map (·.1)) 1 z.length).length==z.length)=true):=rfl
  split
  . rename_i hh
    rw[if_pos (e1▸hh)]at q
    exact⟨.str z,H,I,⟨t,rfl⟩,q⟩
  . rename_i hh
    rw[if_neg (e1▸hh)]at q
    refine⟨Nat.le_trans (Nat.le_trans (List.length_filterMap_le _ _) (sliceIndices_le _ _ _)) hz,.str _,H,I.tok _,⟨_,rfl⟩,q⟩
 cases pl with
 |none=>
  cases pu with
  |none=>exact go none none rfl rfl rfl rfl
  |int j u=>exact go none (some (j,u)) rfl rfl rfl rfl
 |int i t'=>
  cases pu with
  |none=>exact go (some (i,t')) none rfl rfl rfl rfl
  |int j u=>exact go (some (i,t')) (some (j,u)) rfl rfl rfl rfl
theorem an6:∀{ys:List Str}{us:List Value},Vals (ys.map V.str) us->StrsAre us ys
 |[],_,.nil=>.nil
 |y::ys,_,.cons r t=>by
  obtain⟨k,rfl⟩:=r
  exact .cons _ _ (an6 t)
def ba6(K:PySem.W.Frag):V->List V->Hp->VK->Prop:=λx vs H Q=>∃(z:Str)(p:Addr)(ys:List Str),x=.str z/\vs=[.ref p]/\SqL K H p (ys.map V.str)/\(ys.map (·.length)).sum+ys.length*z.length<=16777216/\Q (.str (Txt.join z ys)) H
theorem cw6:MtR X "str.join" (ba6 X.K):=by
 intro pins s σ H x xs v us Q I rx rv h
 obtain⟨z,p,ys,rfl,rfl,hp,hz,q⟩:=h
 obtain⟨t,rfl⟩:=rx
 obtain⟨u,rfl,ru⟩:=rv.one
 obtain rfl:u=Value.ref p:=ru
 obtain⟨its,r,pl,_⟩:=I.list hp
 exact join_list pl.isList (by simpa using an6 r) hz λt' k=>⟨.str _,H,I.tok _,⟨_,rfl⟩,q⟩
end
end L2
namespace L2
open PySem PySem.Spec PyProof.Rows
section
variable {X : Cx}
def ds6:R2:=λx y H Q=>∃i j,x=.str i/\y=.str j/\i.length+j.length<=sizeLine/\Q (.str (i++j)) H
def dl2(K:PySem.W.Frag):List V->Hp->VK->Prop:=λxs H Q=>∃x n,xs=[x]/\dq1 K x H n/\Q (.int n) H
def dm3:List V->Hp->VK->Prop:=λxs H Q=>∃i,xs=[.int i]/\Q (.int (if i<0 then -i else i)) H
def bt3:List V->Hp->VK->Prop:=λxs H Q=>∃i j,xs=[.int i,.int j]/\uA i j/\∀p,H p=none->Q (.ref p) (upd H p (.tup [.int (i/j),.int (i%j)]))
def dj9(K:PySem.W.Frag):List V->Hp->VK->Prop:=λxs H Q=>∃x T tx b,xs=[x,.ty T]/\TyN K H x tx/\fZ tx T b/\Q (.bl b) H
def dx1(K:PySem.W.Frag):List V->Hp->VK->Prop:=λxs H Q=>∃(p:Addr)(bs:List Bool),xs=[.ref p]/\SqL K H p (bs.map V.bl)/\Q (.bl (bs.all id)) H
def dk8:List V->Hp->VK->Prop:=λxs H Q=>∃i j,xs=[.int i,.int j]/\Q (.int (if j>i then j else i)) H
def dq8:List V->Hp->VK->Prop:=λxs H Q=>∃i j,xs=[.int i,.int j]/\Q (.int (if j<i then j else i)) H
def dw7(K:PySem.W.Frag):List V->Hp->VK->Prop:=λxs H Q=>∃(p:Addr)(ns:List Int),xs=[.ref p]/\SqL K H p (ns.map V.int)/\ns≠[]/\∀M,M∈ns->(∀a∈ns,a<=M)->Q (.int M) H
def db7(K:PySem.W.Frag):List V->Hp->VK->Prop:=λxs H Q=>∃(p:Addr)(ns:List Int),xs=[.ref p]/\SqL K H p (ns.map V.int)/\ns≠[]/\∀M,M∈ns->(∀a∈ns,M<=a)->Q (.int M) H
def cp3(K:PySem.W.Frag):List V->Hp->VK->Prop:=λxs H Q=>dk8 xs H Q\/dw7 K xs H Q
def ci2(K:PySem.W.Frag):List V->Hp->VK->Prop:=λxs H Q=>dq8 xs H Q\/db7 K xs H Q
theorem bf8(hc:X.calm=true:=by rfl):CallR X (.builtin "max") (cp3 X.K):=(bz8 hc).or (bm9 hc)
theorem bd8(hc:X.calm=true:=by rfl):CallR X (.builtin "min") (ci2 X.K):=(cc0 hc).or (bm7 hc)
theorem bg6(hm:X.mg x=none)(hv:bootBuiltins x=some (.type ty))(hg:Gl X x:=by rfl)(hn:x≠"__name__":=by decide)(hd:(x==("__debug__":Str))=false:=by decide):PE X (.Name x pos) (tC (.ty ty)):=
 cu8 (v:=.ty ty) hg hm hv rfl hn hd
def uV(mg:Str->Option Value)(x:Str)(v:V):Prop:=∃u,mg x=some u/\RelV v u
theorem iI(h:uV X.mg x v)(hg:Gl X x:=by rfl)(hd:(x==("__debug__":Str))=false:=by decide):PE X (.Name x pos) (tC v):=by
 obtain⟨u,hm,r⟩:=h
 exact ct6 hg hm r hd
end
theorem cX:bootBuiltins "len"=some (.builtin "len"):=PySem.boot_len
theorem at9:bootBuiltins "abs"=some (.builtin "abs"):=by decide+kernel
theorem bh9:bootBuiltins "divmod"=some (.builtin "divmod"):=by decide+kernel
theorem qS:bootBuiltins "isinstance"=some (.builtin "isinstance"):=by decide+kernel
theorem oA:bootBuiltins "all"=some (.builtin "all"):=by decide+kernel
theorem yJ:bootBuiltins "max"=some (.builtin "max"):=by decide+kernel
theorem sG:bootBuiltins "min"=some (.builtin "min"):=by decide+kernel
theorem de2:bootBuiltins "int"=some (.type "int"):=by decide+kernel
theorem bi4:bootBuiltins "bool"=some (.type "bool"):=by decide+kernel
theorem df2:bootBuiltins "str"=some (.type "str"):=by decide+kernel
theorem iO:bootBuiltins "list"=some (.type "list"):=by decide+kernel
section
variable {t u : TS} {D : at0} {σ : St} {H : Hp} {te ta tb tc : TE} {g : TG} {i : Nat} {v : V} {Q : VK} {c : TT} {K : PySem.W.Frag} {r r' : R2}
end
end L2
namespace L2
open PySem PySem.Spec PyProof.Rows
structure eF (K:PySem.W.Frag) (mg:Str->Option Value) (x:Str) (st:Stmt):Prop where
 ex:∃f fd,Fun K x x st f fd/\mg x=some (.ref f)
theorem du1{K:PySem.W.Frag}{h:Heap}{mg:Str->Option Value}(X:K.In h)(G:h.Ns mainGlobals mg){x:Str}{st:Stmt}{f:Addr}{oc:Value}{od an:Option Addr}{osl:Array (Option Value)}{kV doc pm cdv ct:Value}
 (a:PySem.W.nsIn K mainGlobals x=some (some (.ref f)))(l:K.lookup f=some ⟨oc,od,.func (PySem.W.fnOf x x (iM st) (dH st) (aM st) .none kV doc pm an cdv ct),osl⟩)
 (c:PySem.W.codeIn K cdv x=true)(k:PySem.W.keepIn K (.ref f)=true):eF K mg x st:=⟨f,_,af3 l c k,PySem.W.mg_of X G a⟩
theorem dn2{K:PySem.W.Frag}{h:Heap}{mg:Str->Option Value}(X:K.In h)(G:h.Ns mainGlobals mg){x:Str}{v:V}{u:Value}(a:PySem.W.nsIn K mainGlobals x=some (some u))(r:RelV v u):uV mg x v:=⟨u,PySem.W.mg_of X G a,r⟩
section
variable {P : Program} {w : World} {K : PySem.W.Frag} {mg : Str → Option Value} {base : Heap}
end
theorem bl6(h:Builtin.Int.intBits a+Builtin.Int.intBits b<=134217728):IntMulOk a b:=by
 have e:(2:Nat)^27=134217728:=by decide
 have h:Builtin.Int.intTooBig (Builtin.Int.intBits a+Builtin.Int.intBits b)=false:=by
  unfold Builtin.Int.intTooBig bitsLine
  exact decide_eq_false (by omega)
 unfold IntMulOk
 rw[h]
 simp
theorem cs8(h1:-(2^64)<b)(h2:b<2^64):IntMulOk a b:=IntMulOk.of_right (intBits_le_64 h1 h2)
theorem cz6(h1:-(2^64)<a)(h2:a<2^64):IntMulOk a b:=IntMulOk.of_left (intBits_le_64 h1 h2)
end L2
namespace L2
open PySem PySem.Spec PyProof.Rows
def SI(k:Bool)(h:Heap)(it l:Addr)(i:Nat):Prop:=∃o,h.get? it=some o/\o.cls=.type (cond k "tuple_iterator" "list_iterator")/\o.data=.fields #[.ref l,.int i 0]
def SQ(k:Bool)(h:Heap)(l:Addr)(us:Array Value):Prop:=∃o,h.get? l=some o/\o.cls=.type (cond k "tuple" "list")/\∃n,o.data=.seq us n
theorem SI.at(x:SI k h it l i)(e:∀o,h.get? it=some o->h'.get? it=some o):SI k h' it l i:=by
 obtain⟨o,ho,r⟩:=x
 exact⟨o,e o ho,r⟩
theorem SQ.at(x:SQ k h l us)(e:∀o,h.get? l=some o->h'.get? l=some o):SQ k h' l us:=by
 obtain⟨o,ho,r⟩:=x
 exact⟨o,e o ho,r⟩
section
variable {prog : Program} {w : World} {A : Around} {E : Value → Shared → Prop} {s : Shared}
theorem yF(hit:SI k s.heap it l i)(hl:SQ k s.heap l us)(hx:us[i]?=some x)
 (hQ:∀h',SI k h' it l (i+1)->Heap.SameBut it s.heap h'->Q x {s with heap:=h'}):wpAny (model prog w) A (Builtin.SmallTypes.nextOf (.ref it)) Q E s:=by
 cases k with
 |false=>exact wpAny_nextOf_list_item hit hl hx hQ
 |true=>
  obtain⟨o,ho,hc,hd⟩:=hit
  obtain⟨ol,hol,_,nl,hdl⟩:=hl
  have hT:s.TypeIs (.ref it) "tuple_iterator":=⟨o,ho,hc⟩
  unfold Builtin.SmallTypes.nextOf
  refine wpAny_bind (wpAny_callSpecial?_slot (name:=Str.ofString "__next__") hT F.slot_tuple_iterator_next (wpAny_call_entry F.slot_tuple_iterator_next hT F.entry_tuple_iterator_next ?_ (F.args_tuple_iterator_next_1 _)))
  (show wpAny _ _ (field (.ref it) 0>>=_) _ _ s);refine wpAny_bind (wpAny_field ho hd (x:=.ref l) rfl ?_)
  (show wpAny _ _ (if(Value.ref l==Value.none)=true then _ else _) _ _ s);rw[if_neg (show¬((Value.ref l==Value.none)=true) from Bool.false_ne_true)]
  (show wpAny _ _ (field (.ref it) 1>>=_) _ _ s);refine wpAny_bind (wpAny_field ho hd (x:=.int i 0) rfl ?_)
  (show wpAny _ _ (seqItems? (.ref l)>>=_) _ _ s);refine wpAny_bind (wpAny_seqItems hol hdl ?_)
  simp only[Int.toNat_natCast,hx];refine wpAny_bind (wpAny_setField ho hd (by simp) (wpAny_pure ⟨x,rfl,wpAny_pure (hQ _ ?_ (Heap.SameBut.update ..))⟩))
  refine⟨_,Heap.get?_update_self _ ho (Obj.isFreed_of_fields (Obj.data_mapFields hd _)),(Obj.cls_mapFields ..).trans hc,?_⟩
  rw[Obj.data_mapFields hd];simp[rawInt]
theorem ag9(hh:A.handled=none)(hit:SI k s.heap it l i)(hl:SQ k s.heap l us)(hx:us[i]?=none)
 (hE:∀h' e,Heap.ExtBut it s.heap h'->(∃o,h'.get? e=some o/\o.cls=.type "StopIteration")->E (.ref e) {s with heap:=h'}):wpAny (model prog w) A (Builtin.SmallTypes.nextOf (.ref it)) Q E s:=by
 cases k with
 |false=>exact wpAny_nextOf_list_end hh hit hl hx hE
 |true=>
  obtain⟨o,ho,hc,hd⟩:=hit
  obtain⟨ol,hol,_,nl,hdl⟩:=hl
  have hT:s.TypeIs (.ref it) "tuple_iterator":=⟨o,ho,hc⟩
  unfold Builtin.SmallTypes.nextOf
  refine wpAny_bind (wpAny_callSpecial?_slot (name:=Str.ofString "__next__") hT F.slot_tuple_iterator_next (wpAny_call_entry F.slot_tuple_iterator_next hT F.entry_tuple_iterator_next ?_ (F.args_tuple_iterator_next_1 _)))
  (show wpAny _ _ (field (.ref it) 0>>=_) _ _ s);refine wpAny_bind (wpAny_field ho hd (x:=.ref l) rfl ?_)
  (show wpAny _ _ (if(Value.ref l==Value.none)=true then _ else _) _ _ s);rw[if_neg (show¬((Value.ref l==Value.none)=true) from Bool.false_ne_true)]
  (show wpAny _ _ (field (.ref it) 1>>=_) _ _ s);refine wpAny_bind (wpAny_field ho hd (x:=.int i 0) rfl ?_)
  (show wpAny _ _ (seqItems? (.ref l)>>=_) _ _ s);refine wpAny_bind (wpAny_seqItems hol hdl ?_)
  simp only[Int.toNat_natCast,hx];refine wpAny_bind (wpAny_rule (wpAny_bind (wpAny_setField ho hd (by simp) ?_)))
  (show wpAny _ _ (newExc (.type "StopIteration") []>>=_) _ _ _);refine wpAny_bind ?_;simp only[newExc,newTuple]
  refine wpAny_bind (wpAny_newObj_type ?_ (by size_fits));refine wpAny_bind (m:=firstArgMember _ _) (wpAny_of_eq (a:=Value.none) (by first|rfl|(simp only[firstArgMember];rfl)) ?_)
  refine wpAny_newObj_type ?_ (by size_fits);simp only[raiseNew];refine wpAny_bind (wpAny_handled ?_)
  first|rw[show A.in1.handled=none from hh]|rw[hh]
  refine wpAny_bind (wpAny_pure (wpAny_throw ?_));exact hE _ _ (((Heap.SameBut.update ..).extBut.push _).push _) ⟨_,Heap.get?_push_size _ rfl,rfl⟩
theorem aj9(hl:SQ k s.heap l us)
 (hQ:Q (.ref s.heap.objs.size) {s with heap:=s.heap.push {cls:=.type (cond k "tuple_iterator" "list_iterator"),data:=.fields #[.ref l,.int 0 0]}}):wpAny (model prog w) A (pyIter (.ref l)) Q E s:=by
 cases k with
 |false=>exact wpAny_pyIter_list hl hQ
 |true=>exact wpAny_pyIter_tuple hl hQ
theorem cp1{k1 k2:Bool}{z TI TO i1 i2 l1 l2:Addr}{i:Nat}{us vs:Array Value}{x y a b:Value}{Q:Option Value->Shared->Prop}(D:ZipApart z TI TO i1 i2 l1 l2)
 (hz:IsZip s.heap z TI TO .none)(hTI:IsPair s.heap TI (.ref i1) (.ref i2))(hTO:IsPair s.heap TO a b)(n1:SI k1 s.heap i1 l1 i)(n2:SI k2 s.heap i2 l2 i)(q1:SQ k1 s.heap l1 us)(q2:SQ k2 s.heap l2 vs)(hx:us[i]?=some x)(hy:vs[i]?=some y)
 (hQ:∀h',IsZip h' z TI TO (rawInt s.heap.objs.size)->IsPair h' TO x y->SI k1 h' i1 l1 (i+1)->SI k2 h' i2 l2 (i+1)->IsPair h' s.heap.objs.size x y->
  (∀c o,c≠z->c≠TO->c≠i1->c≠i2->s.heap.get? c=some o->h'.get? c=some o)->Q (some (.ref s.heap.objs.size)) {s with heap:=h'}):
 wpAny (model prog w) A (pyNext (.ref z)) Q E s:=by
 have hT:s.TypeIs (.ref z) "zip":=⟨_,hz,rfl⟩
 unfold pyNext
 refine wpAny_bind (wpAny_attempt (wpAny_callSpecial?_slot (name:=Str.ofString "__next__") hT F.slot_zip_next (wpAny_call_entry F.slot_zip_next hT F.entry_zip_next ?_ (F.args_zip_next_1 _))))
 (show wpAny _ _ (field (.ref z) 2>>=_) _ _ _);refine wpAny_bind (wpAny_field hz rfl (x:=.bool false) rfl ?_)
 (show wpAny _ _ (field (.ref z) 3>>=_) _ _ _);refine wpAny_bind (wpAny_field hz rfl (x:=.ref TI) rfl ?_)
 refine wpAny_bind (wpAny_seqItems hTI rfl ?_);(show wpAny _ _ (Builtin.SmallTypes.ownedTupleIsFree (.ref z)>>=_) _ _ _)
 refine wpAny_bind ?_;unfold Builtin.SmallTypes.ownedTupleIsFree
 refine wpAny_bind (wpAny_field hz rfl (x:=.none) rfl (wpAny_pure ?_));simp only[if_true]
 refine wpAny_bind (wpAny_rule ?_);refine wpAny_bind (wpAny_field hz rfl (x:=.ref TO) rfl ?_)
 refine wpAny_bind (wpAny_setField_rec hz (by simp) λh₁ hz₁ g1=>?_)
 replace hz₁:IsZip h₁ z TI TO .ellipsis:=hz₁
 refine wpAny_bind ?_;simp only[List.zipIdx_cons,List.zipIdx_nil,List.forIn_cons,List.forIn_nil]
 refine wpAny_bind (wpAny_bind (wpAny_onRaise ?_));(show wpAny _ _ (Builtin.SmallTypes.nextOf (.ref i1)>>=_) _ _ _)
 refine wpAny_bind (yF (n1.at λo e=>g1.extBut _ _ D.i1z e) (q1.at λo e=>g1.extBut _ _ D.l1z e) hx λh₂ n1' g2=>wpAny_pure ?_)
 have t2:IsPair h₂ TO a b:=g2.extBut _ _ D.TOi1 (g1.extBut _ _ D.TOz hTO)
 refine wpAny_bind (wpAny_seqItems t2 rfl ?_);refine wpAny_bind (wpAny_updateSeq_pair t2 λh₃ t3 g3=>?_)
 replace t3:IsPair h₃ TO x b:=t3
 refine wpAny_bind (wpAny_letGo (wpAny_pure ?_));refine wpAny_bind (wpAny_bind (wpAny_onRaise ?_));(show wpAny _ _ (Builtin.SmallTypes.nextOf (.ref i2)>>=_) _ _ _)
 refine wpAny_bind (yF (n2.at λo e=>g3.extBut _ _ D.TOi2.symm (g2.extBut _ _ D.i12.symm (g1.extBut _ _ D.i2z e))) (q2.at λo e=>g3.extBut _ _ D.l2TO (g2.extBut _ _ D.l2i1 (g1.extBut _ _ D.l2z e))) hy λh₄ n2' g4=>wpAny_pure ?_)
 have t4:IsPair h₄ TO x b:=g4.extBut _ _ D.TOi2 t3
 refine wpAny_bind (wpAny_seqItems t4 rfl ?_);refine wpAny_bind (wpAny_updateSeq_pair t4 λh₅ t5 g5=>?_)
 replace t5:IsPair h₅ TO x y:=t5
 refine wpAny_bind (wpAny_letGo (wpAny_pure (wpAny_pure ?_)));refine wpAny_bind (wpAny_seqItems t5 rfl ?_);refine wpAny_bind (wpAny_newTuple ?_)
 have hsz:h₅.objs.size=s.heap.objs.size:=by rw[g5.1,g4.1,g3.1,g2.1,g1.1]
 have z5:IsZip h₅ z TI TO .ellipsis:=g5.extBut _ _ D.TOz.symm (g4.extBut _ _ D.i2z.symm (g3.extBut _ _ D.TOz.symm (g2.extBut _ _ D.i1z.symm hz₁)))
 have m1:SI k1 h₅ i1 l1 (i+1):=n1'.at λo e=>g5.extBut _ _ D.TOi1.symm (g4.extBut _ _ D.i12 (g3.extBut _ _ D.TOi1.symm e))
 have m2:SI k2 h₅ i2 l2 (i+1):=n2'.at λo e=>g5.extBut _ _ D.TOi2.symm e
 have zlt:z<h₅.objs.size:=Heap.lt_size z5
 (show wpAny _ _ (Builtin.SmallTypes.ownedTupleHandOut (.ref z) (.ref h₅.objs.size)>>=_) _ _ _);refine wpAny_bind ?_;unfold Builtin.SmallTypes.ownedTupleHandOut
 have z6:IsZip (h₅.push {cls:=.type "tuple",data:=.seq #[x,y]}) z TI TO .ellipsis:=Heap.get?_push_of_some _ z5
 refine wpAny_bind (wpAny_setField_rec z6 (by simp) λh₇ z7 g7=>?_)
 replace z7:IsZip h₇ z TI TO (rawInt h₅.objs.size):=z7
 refine wpAny_setField_rec z7 (by simp) λh₈ z8 g8=>?_
 replace z8:IsZip h₈ z TI TO (rawInt h₅.objs.size):=z8
 have up:∀c o,c≠z->h₅.get? c=some o->h₈.get? c=some o:=λc o c1 e=>g8.extBut _ _ c1 (g7.extBut _ _ c1 (Heap.get?_push_of_some _ e))
 have t8:IsPair h₈ h₅.objs.size x y:=g8.extBut _ _ (Nat.ne_of_gt zlt) (g7.extBut _ _ (Nat.ne_of_gt zlt) (Heap.get?_push_size _ rfl))
 rw[hsz]at z8 t8
 refine wpAny_pure ⟨_,rfl,?_⟩
 (show wpAny _ _ _ _ _ _);refine wpAny_pure ?_
 show Q (some (.ref h₅.objs.size)) _
 rw[hsz]
 refine hQ h₈ z8 (up _ _ D.TOz t5) (m1.at λo e=>up _ o D.i1z e) (m2.at λo e=>up _ o D.i2z e) t8 λc o c1 c2 c3 c4 e=>up c o c1 ?_
 exact g5.extBut _ _ c2 (g4.extBut _ _ c4 (g3.extBut _ _ c2 (g2.extBut _ _ c3 (g1.extBut _ _ c1 e))))
theorem cr4{k1 k2:Bool}{z TI TO i1 i2 l1 l2:Addr}{i:Nat}{us vs:Array Value}{a b:Value}{Q:Option Value->Shared->Prop}(hh:A.handled=none)(D:ZipApart z TI TO i1 i2 l1 l2)
 (hz:IsZip s.heap z TI TO .none)(hTI:IsPair s.heap TI (.ref i1) (.ref i2))(hTO:IsPair s.heap TO a b)(n1:SI k1 s.heap i1 l1 i)(n2:SI k2 s.heap i2 l2 i)(q1:SQ k1 s.heap l1 us)(q2:SQ k2 s.heap l2 vs)(hend:us[i]?=none\/vs[i]?=none)
 (hQ:∀h',(∀c o,c≠z->c≠TO->c≠i1->c≠i2->s.heap.get? c=some o->h'.get? c=some o)->Q none {s with heap:=h'}):
 wpAny (model prog w) A (pyNext (.ref z)) Q E s:=by
 have hT:s.TypeIs (.ref z) "zip":=⟨_,hz,rfl⟩
 unfold pyNext
 have bP:∀h' e,(∀c o,c≠z->c≠TO->c≠i1->c≠i2->s.heap.get? c=some o->h'.get? c=some o)->(∃o,h'.get? e=some o/\o.cls=.type "StopIteration")->
  wpAny (model prog w) A (do if(<-isInstance (.ref e) (.type "StopIteration"))=true then pure none else throw (.ref e)) Q E {s with heap:=h'}:=λh' e hk ⟨o,ho,hc⟩=>
  wpAny_bind (wpAny_isInstance (T:="StopIteration") (b:=true) ⟨o,ho,hc⟩ isSubtype_stop (wpAny_pure (hQ _ hk)))
 refine wpAny_bind (wpAny_attempt (wpAny_callSpecial?_slot (name:=Str.ofString "__next__") hT F.slot_zip_next (wpAny_call_entry F.slot_zip_next hT F.entry_zip_next ?_ (F.args_zip_next_1 _))))
 (show wpAny _ _ (field (.ref z) 2>>=_) _ _ _);refine wpAny_bind (wpAny_field hz rfl (x:=.bool false) rfl ?_)
 (show wpAny _ _ (field (.ref z) 3>>=_) _ _ _);refine wpAny_bind (wpAny_field hz rfl (x:=.ref TI) rfl ?_)
 refine wpAny_bind (wpAny_seqItems hTI rfl ?_);(show wpAny _ _ (Builtin.SmallTypes.ownedTupleIsFree (.ref z)>>=_) _ _ _)
 refine wpAny_bind ?_;unfold Builtin.SmallTypes.ownedTupleIsFree
 refine wpAny_bind (wpAny_field hz rfl (x:=.none) rfl (wpAny_pure ?_));simp only[if_true]
 refine wpAny_bind (wpAny_rule ?_);refine wpAny_bind (wpAny_field hz rfl (x:=.ref TO) rfl ?_)
 refine wpAny_bind (wpAny_setField_rec hz (by simp) λh₁ hz₁ g1=>?_)
 replace hz₁:IsZip h₁ z TI TO .ellipsis:=hz₁
 refine wpAny_bind ?_;simp only[List.zipIdx_cons,List.zipIdx_nil,List.forIn_cons,List.forIn_nil]
 refine wpAny_bind (wpAny_bind (wpAny_onRaise ?_));(show wpAny _ _ (Builtin.SmallTypes.nextOf (.ref i1)>>=_) _ _ _)
 have p1:SI k1 h₁ i1 l1 i:=n1.at λo e=>g1.extBut _ _ D.i1z e
 have p2:SQ k1 h₁ l1 us:=q1.at λo e=>g1.extBut _ _ D.l1z e
 cases hx:us[i]? with
 |none=>
  refine wpAny_bind (ag9 hh p1 p2 hx λh₂ e g2 he=>?_)
  obtain⟨oe,hoe,hce⟩:=he
  have z2:IsZip h₂ z TI TO .ellipsis:=g2 _ _ D.i1z.symm hz₁
  have hez:e≠z:=λq=>by subst q;rw[z2]at hoe;cases hoe;simp at hce
  refine wpAny_setField_rec z2 (by simp) λh₃ _ g3=>?_
  exact bP h₃ e (λc o c1 _ c3 _ q=>g3.extBut _ _ c1 (g2 _ _ c3 (g1.extBut _ _ c1 q))) ⟨oe,g3.extBut _ _ hez hoe,hce⟩
 |some x=>
  have hy:vs[i]?=none:=by
   rcases hend with h|h
   . rw[hx]at h;cases h
   . exact h
  refine wpAny_bind (yF p1 p2 hx λh₂ n1' g2=>wpAny_pure ?_)
  have t2:IsPair h₂ TO a b:=g2.extBut _ _ D.TOi1 (g1.extBut _ _ D.TOz hTO)
  refine wpAny_bind (wpAny_seqItems t2 rfl ?_);refine wpAny_bind (wpAny_updateSeq_pair t2 λh₃ t3 g3=>?_)
  refine wpAny_bind (wpAny_letGo (wpAny_pure ?_));refine wpAny_bind (wpAny_bind (wpAny_onRaise ?_));(show wpAny _ _ (Builtin.SmallTypes.nextOf (.ref i2)>>=_) _ _ _)
  refine wpAny_bind (ag9 hh (n2.at λo e=>g3.extBut _ _ D.TOi2.symm (g2.extBut _ _ D.i12.symm (g1.extBut _ _ D.i2z e))) (q2.at λo e=>g3.extBut _ _ D.l2TO (g2.extBut _ _ D.l2i1 (g1.extBut _ _ D.l2z e))) hy λh₄ e g4 he=>?_)
  obtain⟨oe,hoe,hce⟩:=he
  have z4:IsZip h₄ z TI TO .ellipsis:=g4 _ _ D.i2z.symm (g3.extBut _ _ D.TOz.symm (g2.extBut _ _ D.i1z.symm hz₁))
  have hez:e≠z:=λq=>by subst q;rw[z4]at hoe;cases hoe;simp at hce
  refine wpAny_setField_rec z4 (by simp) λh₅ _ g5=>?_
  exact bP h₅ e (λc o c1 c2 c3 c4 q=>g5.extBut _ _ c1 (g4 _ _ c4 (g3.extBut _ _ c2 (g2.extBut _ _ c3 (g1.extBut _ _ c1 q))))) ⟨oe,g5.extBut _ _ hez hoe,hce⟩
end
abbrev itO(k:Bool)(l:Addr):Obj:={cls:=.type (cond k "tuple_iterator" "list_iterator"),data:=.fields #[.ref l,.int 0 0]}
abbrev zA(k1:Bool)(h:Heap)(l1:Addr):Heap:=h.push (itO k1 l1)
abbrev zB(k1 k2:Bool)(h:Heap)(l1 l2:Addr):Heap:=(zA k1 h l1).push (itO k2 l2)
abbrev zC(k1 k2:Bool)(h:Heap)(l1 l2:Addr):Heap:=(zB k1 k2 h l1 l2).push {cls:=.type "tuple",data:=.seq #[.ref h.objs.size,.ref (zA k1 h l1).objs.size]}
abbrev zD(k1 k2:Bool)(h:Heap)(l1 l2:Addr):Heap:=(zC k1 k2 h l1 l2).push {cls:=.type "tuple",data:=.seq #[.none,.none]}
abbrev zE(k1 k2:Bool)(h:Heap)(l1 l2:Addr):Heap:=(zD k1 k2 h l1 l2).push {cls:=.type "zip",data:=.fields #[.none,.bool false,.bool false,.ref (zB k1 k2 h l1 l2).objs.size,.ref (zC k1 k2 h l1 l2).objs.size]}
theorem cs7(k1 k2:Bool)(l1 l2:Addr)(us vs:Array Value):
 Meets (Builtin.«zip.__new__» ⟨[.type "zip",.ref l1,.ref l2],[]⟩) (λ_ R s=>SQ k1 s.heap l1 us/\SQ k2 s.heap l2 vs/\R (.ok (.ret (.ref (zD k1 k2 s.heap l1 l2).objs.size))) {s with heap:=zE k1 k2 s.heap l1 l2}):=
 .of_wp λprog w A R s h=>by
  obtain⟨hp,g,d,tk,os⟩:=s
  obtain⟨hl1,hl2,h⟩:=h
  have hsub:=sub_zip
  have a1:SQ k1 (Shared.heap ⟨hp,g,d,tk,os⟩) l1 us:=hl1
  have a2:SQ k2 (Shared.heap ⟨hp.push (itO k1 l1),g,d,tk,os⟩) l2 vs:=SQ.at hl2 λo e=>Heap.get?_push_of_some _ e
  wp_walk using aj9 a1,aj9 a2
  exact⟨_,rfl,h⟩
section
variable {prog : Program} {w : World} {A : Around} {E : Value → Shared → Prop} {s : Shared}
theorem cm1(hl1:SQ k1 s.heap l1 us)(hl2:SQ k2 s.heap l2 vs)
 (h:∀h',IsZip h' (s.heap.objs.size+4) (s.heap.objs.size+2) (s.heap.objs.size+3) .none->IsPair h' (s.heap.objs.size+2) (.ref s.heap.objs.size) (.ref (s.heap.objs.size+1))->IsPair h' (s.heap.objs.size+3) .none .none->
  SI k1 h' s.heap.objs.size l1 0->SI k2 h' (s.heap.objs.size+1) l2 0->(∀c o,s.heap.get? c=some o->h'.get? c=some o)->Q (.ref (s.heap.objs.size+4)) {s with heap:=h'}):
 wpAny (model prog w) A (call (.type "zip") [.ref l1,.ref l2]) Q E s:=by
 refine callType_new F.called_zip (by decide) (F.typeCall_zip_2 _ _) (F.newCall_zip_2 _ _) (λobj=>F.args_object_init_3 obj _ _) F.entry_zip_new (cs7 k1 k2 l1 l2 us vs) ⟨hl1,hl2,?_⟩
 have z1:(zA k1 s.heap l1).objs.size=s.heap.objs.size+1:=Heap.size_push ..
 have z2:(zB k1 k2 s.heap l1 l2).objs.size=s.heap.objs.size+2:=(Heap.size_push ..).trans (by rw[z1])
 have z3:(zC k1 k2 s.heap l1 l2).objs.size=s.heap.objs.size+3:=(Heap.size_push ..).trans (by rw[z2])
 have z4:(zD k1 k2 s.heap l1 l2).objs.size=s.heap.objs.size+4:=(Heap.size_push ..).trans (by rw[z3])
 have u1:∀c o,(zA k1 s.heap l1).get? c=some o->(zE k1 k2 s.heap l1 l2).get? c=some o:=λc o e=>Heap.get?_push_of_some _ (Heap.get?_push_of_some _ (Heap.get?_push_of_some _ (Heap.get?_push_of_some _ e)))
 have u2:∀c o,(zB k1 k2 s.heap l1 l2).get? c=some o->(zE k1 k2 s.heap l1 l2).get? c=some o:=λc o e=>Heap.get?_push_of_some _ (Heap.get?_push_of_some _ (Heap.get?_push_of_some _ e))
 have g5:(zE k1 k2 s.heap l1 l2).get? (zD k1 k2 s.heap l1 l2).objs.size=some _:=Heap.get?_push_size _ rfl
 have g4:(zE k1 k2 s.heap l1 l2).get? (zC k1 k2 s.heap l1 l2).objs.size=some _:=Heap.get?_push_of_some _ (Heap.get?_push_size _ rfl)
 have g3:(zE k1 k2 s.heap l1 l2).get? (zB k1 k2 s.heap l1 l2).objs.size=some _:=Heap.get?_push_of_some _ (Heap.get?_push_of_some _ (Heap.get?_push_size _ rfl))
 have g2:(zE k1 k2 s.heap l1 l2).get? (zA k1 s.heap l1).objs.size=some _:=u2 _ _ (Heap.get?_push_size _ rfl)
 have g1:(zE k1 k2 s.heap l1 l2).get? s.heap.objs.size=some _:=u1 _ _ (Heap.get?_push_size _ rfl)
 show _/\_
 rw[z2,z3,z4]at g5
 rw[z1,z2]at g3
 rw[z3]at g4
 rw[z1]at g2
 rw[z4]
 exact⟨⟨_,g5,rfl⟩,h _ g5 g3 g4 ⟨_,g1,rfl,rfl⟩ ⟨_,g2,rfl,rfl⟩ λc o x=>u1 c o (Heap.get?_push_of_some _ x)⟩
end
end L2
namespace L2
open PySem PySem.Spec PyProof.Rows
def wN(k:Bool)(K:PySem.W.Frag)(H:Hp)(l:Addr)(xs:List V):Prop:=cond k (SqT K H l xs) (SqL K H l xs)
section
variable {X : Cx} {pins : List (Addr × Obj)} {σ : St} {H : Hp} {s : Shared} {l : Addr} {xs ys : List V}
theorem Inv.row(I:Inv X pins σ H s)(h:wN k X.K H l xs):∃its:List Value,Vals xs its/\SQ k s.heap l its.toArray/\xs.length<=sizeLine:=by
 cases k with
 |false=>obtain⟨its,r,p,z⟩:=I.list h;exact⟨its,r,p.isList,z⟩
 |true=>obtain⟨its,r,p,z⟩:=I.tuple h;exact⟨its,r,p,z⟩
theorem Inv.row_inj(I:Inv X pins σ H s)(h:wN k X.K H l xs)(h':wN k X.K H l ys):xs=ys:=by
 cases k with
 |false=>exact I.list_inj h h'
 |true=>exact I.tuple_inj h h'
theorem Inv.turnedL{t':Nat}{fp:List Addr}{h':Heap}(I:Inv X pins σ H s)(k:∀b o,b∉fp->s.heap.get? b=some o->h'.get? b=some o)(hf:∀b∈fp,pM X pins H b):Inv X pins σ H {s with heap:=h',toks:=t'}:=by
 have nit:∀b u,H b=some u->b∉fp:=λb u e z=>by rw[(hf b z).1]at e;cases e
 refine I.step (g':=s.gens) (d':=s.drawn) (ch:=fp) (λb hb=>?_) (λb o _ _ hc e _=>k b o hc e) (λb o _ _ hc e _=>⟨o.slots,k b o hc e⟩) (λ_ _ _ _ n=>n)
  (λb o hc e=>⟨o,k b o hc e⟩) (λ_ _ e=>e) (λ_ _ _ e=>e) (λb ps e=>⟨#[],by rw[e];simp⟩) (λm hm=>?_) (λb u e=>?_) I.bare
 . obtain⟨_,f1,_,f3,f4,f5⟩:=hf b hb
   exact⟨f3,f1,f4,f5⟩
 . obtain⟨o,es,ep,ho,r⟩:=hm
   exact⟨o,es,ep,k _ o (λz=>(hf _ z).2.1 rfl) ho,r⟩
 . refine(I.hok b u e).stay (λc v hc q=>k c v ?_ q) (λ_ q=>q) λ_ _ q=>q
   rcases hc with z|z
   . rw[z];exact nit b u e
   . exact nit c _ z
theorem Inv.paired{h':Heap}{t':Nat}{fp:List Addr}{x y:V}{u v:Value}(I:Inv X pins σ H s)(rx:RelV x u)(ry:RelV y v)(hf:∀b∈fp,pM X pins H b)(hl:∀b∈fp,b<s.heap.objs.size)
 (hp:h'.get? s.heap.objs.size=some {cls:=.type "tuple",data:=.seq #[u,v]})(k:∀b o,b∉fp->s.heap.get? b=some o->h'.get? b=some o):
 Inv X pins σ (upd H s.heap.objs.size (.tup [x,y])) {s with heap:=h',toks:=t'}/\∀b∈fp,upd H s.heap.objs.size (.tup [x,y]) b=none:=by
 have I0:Inv X pins σ (upd H s.heap.objs.size (.tup [x,y])) {s with heap:=s.heap.push {cls:=.type "tuple",data:=.seq #[u,v]},toks:=t'}:=
  I.laid (λ_ _ q=>Heap.get?_push_of_some _ q) (Nat.le_refl _) ⟨(show(2:Nat)<=sizeLine by decide),[u,v],.cons rx (.cons ry .nil),⟨_,Heap.get?_push_size _ rfl,rfl,_,rfl⟩⟩
 have hn:∀b∈fp,upd H s.heap.objs.size (.tup [x,y]) b=none:=λb hb=>by rw[cH (Nat.ne_of_lt (hl b hb))];exact(hf b hb).1
 refine⟨I0.turnedL (fp:=fp) (h':=h') (t':=t') (λb o hb e=>?_) λb hb=>⟨hn b hb,(hf b hb).2⟩,hn⟩
 rcases Heap.get?_push_cases e with⟨rfl,rfl⟩|e
 . exact hp
 . exact k b o hb e
end
def Itz(K:PySem.W.Frag)(k1 k2:Bool)(l1 l2:Addr):It:=
 ⟨λi H=>∃xs ys x y,wN k1 K H l1 xs/\wN k2 K H l2 ys/\xs[i]?=some x/\ys[i]?=some y,
  λi H v H'=>∃p,H p=none/\v=.ref p/\∀xs ys,wN k1 K H l1 xs->wN k2 K H l2 ys->∃x y,xs[i]?=some x/\ys[i]?=some y/\H'=upd H p (.tup [x,y]),
  λi H=>∃xs ys,wN k1 K H l1 xs/\wN k2 K H l2 ys/\(xs.length<=i\/ys.length<=i)⟩
def Ite(K:PySem.W.Frag)(l:Addr):It:=
 ⟨λi H=>∃xs x,SqL K H l xs/\xs[i]?=some x,λi H v H'=>∃p,H p=none/\v=.ref p/\∀xs,SqL K H l xs->∃x,xs[i]?=some x/\H'=upd H p (.tup [.int i,x]),λi H=>∃xs,SqL K H l xs/\xs.length<=i⟩
theorem cs4{P:Program}{w:World}{K:PySem.W.Frag}{es:List Expr}{n:Nat}{pos:Pos}{k1 k2:Bool}{z TI TO i1 i2 l1 l2:Addr}(D:ZipApart z TI TO i1 i2 l1 l2):
 xY P w K (.Tuple es n pos) (Itz K k1 k2 l1 l2) [z,TI,TO,i1,i2] z (λi h=>IsZip h z TI TO .none/\IsPair h TI (.ref i1) (.ref i2)/\(∃a b,IsPair h TO a b)/\SI k1 h i1 l1 i/\SI k2 h i2 l2 i) where
 mem:=by simp
 obj:=λi h st b hb=>by
  obtain⟨hz,hTI,⟨a,c,hTO⟩,n1,n2⟩:=st
  simp only[List.mem_cons,List.not_mem_nil,or_false]at hb
  rcases hb with rfl|rfl|rfl|rfl|rfl
  . exact⟨_,hz,λv e=>nomatch e⟩
  . exact⟨_,hTI,λv e=>nomatch e⟩
  . exact⟨_,hTO,λv e=>nomatch e⟩
  . obtain⟨o,e,_,d⟩:=n1;exact⟨o,e,λv q=>by rw[d]at q;cases q⟩
  . obtain⟨o,e,_,d⟩:=n2;exact⟨o,e,λv q=>by rw[d]at q;cases q⟩
 keep:=λi h h' st k=>by
  obtain⟨hz,hTI,⟨a,c,hTO⟩,n1,n2⟩:=st
  exact⟨k z (by simp) _ hz,k TI (by simp) _ hTI,⟨a,c,k TO (by simp) _ hTO⟩,n1.at λo e=>k i1 (by simp) o e,n2.at λo e=>k i2 (by simp) o e⟩
 item:=by
  intro X hP hw hK hc i pins s σ H E I hf st hg
  subst hP hw hK
  obtain⟨hz,hTI,⟨a,b,hTO⟩,n1,n2⟩:=st
  obtain⟨xs,ys,x,y,hq1,hq2,hx,hy⟩:=hg
  obtain⟨its,r1,p1,_⟩:=I.row hq1
  obtain⟨jts,r2,p2,_⟩:=I.row hq2
  obtain⟨u,hu,ru⟩:=r1.get hx
  obtain⟨v,hv,rv⟩:=r2.get hy
  refine cp1 D hz hTI hTO n1 n2 p1 p2 (x:=u) (y:=v) (by simpa using hu) (by simpa using hv) λh' a1 a2 a3 a4 a5 kk=>⟨_,rfl,wpAny_letOwnedTupleGo_zip a1 λh2 b1 gg=>?_⟩
  have lts:∀b∈[z,TI,TO,i1,i2],b<s.heap.objs.size:=λb hb=>by
   simp only[List.mem_cons,List.not_mem_nil,or_false]at hb
   rcases hb with rfl|rfl|rfl|rfl|rfl
   . exact Heap.lt_size hz
   . exact Heap.lt_size hTI
   . exact Heap.lt_size hTO
   . obtain⟨o,e,_⟩:=n1;exact Heap.lt_size e
   . obtain⟨o,e,_⟩:=n2;exact Heap.lt_size e
  have zne:s.heap.objs.size≠z:=Nat.ne_of_gt (lts z (by simp))
  obtain⟨I1,hn⟩:=I.paired (t':=s.toks) ru rv hf lts (gg.extBut _ _ zne a5) (λc o hc e=>gg.extBut _ _ (λq=>hc (by simp[q])) (kk c o (λq=>hc (by simp[q])) (λq=>hc (by simp[q])) (λq=>hc (by simp[q])) (λq=>hc (by simp[q])) e))
  refine⟨.ref s.heap.objs.size,_,I1,rfl,⟨_,I.fresh,rfl,λxs' ys' q1 q2=>⟨x,y,by rw[I.row_inj q1 hq1];exact hx,by rw[I.row_inj q2 hq2];exact hy,rfl⟩⟩,⟨b1,?_,⟨u,v,?_⟩,?_,?_⟩,hn⟩
  . exact gg.extBut _ _ D.TIz (kk _ _ D.TIz D.TITO D.TIi1 D.TIi2 hTI)
  . exact gg.extBut _ _ D.TOz a2
  . exact a3.at λo e=>gg.extBut _ _ D.i1z e
  . exact a4.at λo e=>gg.extBut _ _ D.i2z e
 done:=by
  intro X hP hw hK hc i pins s σ H E I hf st hg
  subst hP hw hK
  obtain⟨hz,hTI,⟨a,b,hTO⟩,n1,n2⟩:=st
  obtain⟨xs,ys,hq1,hq2,hx⟩:=hg
  obtain⟨its,r1,p1,_⟩:=I.row hq1
  obtain⟨jts,r2,p2,_⟩:=I.row hq2
  have e1:=r1.length
  have e2:=r2.length
  exact cr4 (I.ok.hd hc) D hz hTI hTO n1 n2 p1 p2 (hx.imp (λq=>by simp;omega) (λq=>by simp;omega)) λh' kk=>⟨rfl,I.turnedL (t':=s.toks) (λc o hc e=>kk c o (λq=>hc (by simp[q])) (λq=>hc (by simp[q])) (λq=>hc (by simp[q])) (λq=>hc (by simp[q])) e) hf⟩
 self:=λ_ _ _ _ _ st h=>wpAny_pyIter_zip st.1 h
theorem bp7{P:Program}{w:World}{K:PySem.W.Frag}{es:List Expr}{n:Nat}{pos:Pos}{e it l:Addr}(ne:e≠it):
 xY P w K (.Tuple es n pos) (Ite K l) [e,it] e (λi h=>(∃old,IsEnum h e it (i:Nat) old)/\h.IsListIter it l i) where
 mem:=by simp
 obj:=λi h st b hb=>by
  obtain⟨⟨old,he⟩,n1⟩:=st
  simp only[List.mem_cons,List.not_mem_nil,or_false]at hb
  rcases hb with rfl|rfl
  . exact⟨_,he,λv q=>nomatch q⟩
  . obtain⟨o,e,_,d⟩:=n1;exact⟨o,e,λv q=>by rw[d]at q;cases q⟩
 keep:=λi h h' st k=>by
  obtain⟨⟨old,he⟩,n1⟩:=st
  exact⟨⟨old,k e (by simp) _ he⟩,n1.at λo q=>k it (by simp) o q⟩
 item:=by
  intro X hP hw hK hc i pins s σ H E I hf st hg
  subst hP hw hK
  obtain⟨⟨old,he⟩,n1⟩:=st
  obtain⟨xs,x,hq,hx⟩:=hg
  obtain⟨its,r1,p1,_⟩:=I.list hq
  obtain⟨u,hu,ru⟩:=r1.get hx
  refine wpAny_pyNext_enum_item he n1 p1.isList (x:=u) (by simpa using hu) ne λh' a1 a2 a3 a4 kk=>⟨_,rfl,wpAny_letOwnedTupleGo_enum a1 λh2 b1 gg=>?_⟩
  have lts:∀b∈[e,it],b<s.heap.objs.size:=λb hb=>by
   simp only[List.mem_cons,List.not_mem_nil,or_false]at hb
   rcases hb with rfl|rfl
   . exact Heap.lt_size he
   . obtain⟨o,e,_⟩:=n1;exact Heap.lt_size e
  have zne:s.heap.objs.size≠e:=Nat.ne_of_gt (lts e (by simp))
  obtain⟨I1,hn⟩:=I.paired (t':=s.toks+1) (x:=.int (i:Nat)) (u:=.int (i:Nat) s.toks) ⟨_,rfl⟩ ru hf lts (gg.extBut _ _ zne a3) (λc o hc q=>gg.extBut _ _ (λz=>hc (by simp[z])) (kk c o (λz=>hc (by simp[z])) (λz=>hc (by simp[z])) q))
  exact⟨.ref s.heap.objs.size,_,I1,rfl,⟨_,I.fresh,rfl,λxs' q1=>⟨x,by rw[I.list_inj q1 hq];exact hx,rfl⟩⟩,⟨⟨u,b1⟩,a2.at λo q=>gg.extBut _ _ (Ne.symm ne) q⟩,hn⟩
 done:=by
  intro X hP hw hK hc i pins s σ H E I hf st hg
  subst hP hw hK
  obtain⟨⟨old,he⟩,n1⟩:=st
  obtain⟨xs,hq,hx⟩:=hg
  obtain⟨its,r1,p1,_⟩:=I.list hq
  have e1:=r1.length
  obtain⟨f0,f1,f2,f3,f4,f5⟩:=hf it (by simp)
  exact wpAny_pyNext_enum_end (I.ok.hd hc) he n1 p1.isList (by simp;omega) λh' eb=>⟨rfl,I.turned (t':=s.toks) (λb o hb q=>eb b o hb q) f0 f1 f3 f4 f5⟩
 self:=λ_ _ _ _ _ st h=>by
  obtain⟨⟨old,he⟩,_⟩:=st
  exact wpAny_pyIter_enum he h
theorem cs1:bootBuiltins "zip"=some (.type "zip"):=by decide+kernel
theorem bl8:bootBuiltins "enumerate"=some (.type "enumerate"):=by decide+kernel
section
variable {X : Cx}
def cz1(K:PySem.W.Frag)(ta:TA):TI:=λσ H R=>ta σ H λvs H1=>∃k1 k2 l1 l2,vs=[.ref l1,.ref l2]/\(∃xs,wN k1 K H1 l1 xs)/\(∃ys,wN k2 K H1 l2 ys)/\R (Itz K k1 k2 l1 l2) H1
def be5(K:PySem.W.Frag)(ta:TA):TI:=λσ H R=>ta σ H λvs H1=>∃l,vs=[.ref l]/\(∃xs,SqL K H1 l xs)/\R (Ite K l) H1
theorem dg4{es:List Expr}{n:Nat}{tpos:Pos}{a b:Expr}{ta:TA}{p pos:Pos}(hg:Gl X "zip")(hm:X.mg "zip"=none)(ha:PA X [a,b] ta)(hs:starEach [a,b] X.env=[(false,eval a X.env),(false,eval b X.env)]:=by rfl)(hs2:starEach [b] X.env=[(false,eval b X.env)]:=by rfl):
 PI X (.Tuple es n tpos) (.Call (.Name "zip" p) [a,b] [] pos) (cz1 X.K ta):=by
 intro pins s σ H R I h
 refine Call_ (oV I hg hm cs1 (PyProof.Rows.callWith_type1 (bY (ha pins s σ H _ I h) λus s1 ⟨vs,H1,I1,r1,q1⟩=>?_) (by rw[hs,hs2]) (by rw[hs2];rfl)))
 obtain⟨k1,k2,l1,l2,e,⟨xs,hq1⟩,⟨ys,hq2⟩,q⟩:=q1
 subst e
 cases r1 with
 |cons r rr=>
  cases rr with
  |cons r' rr=>
   cases rr
   cases r
   cases r'
   obtain⟨its,r1,p1,_⟩:=I1.row hq1
   obtain⟨jts,r2,p2,_⟩:=I1.row hq2
   refine cm1 p1 p2 λh' a1 a2 a3 a4 a5 kk=>wpAny_pyIter_zip a1 ?_
   have c1:l1<s1.heap.objs.size:=by obtain⟨_,z,_⟩:=p1;exact Heap.lt_size z
   have c2:l2<s1.heap.objs.size:=by obtain⟨_,z,_⟩:=p2;exact Heap.lt_size z
   refine⟨_,_,_,_,H1,rfl,I1.kept (t':=s1.toks) kk,cs4 (zipApart_new c1 c2),⟨a1,a2,⟨_,_,a3⟩,a4,a5⟩,λc hc=>?_,q⟩
   have le:s1.heap.objs.size<=c:=by
    simp only[List.mem_cons,List.not_mem_nil,or_false]at hc
    rcases hc with rfl|rfl|rfl|rfl|rfl<;>omega
   exact I1.fpOk le (I1.hok.fresh le)
theorem ci9{es:List Expr}{n:Nat}{tpos:Pos}{a:Expr}{ta:TA}{p pos:Pos}(hg:Gl X "enumerate")(hm:X.mg "enumerate"=none)(ha:PA X [a] ta)(hs:starEach [a] X.env=[(false,eval a X.env)]:=by rfl):
 PI X (.Tuple es n tpos) (.Call (.Name "enumerate" p) [a] [] pos) (be5 X.K ta):=by
 intro pins s σ H R I h
 refine Call_ (oV I hg hm bl8 (PyProof.Rows.callWith_type1 (bY (ha pins s σ H _ I h) λus s1 ⟨vs,H1,I1,r1,q1⟩=>?_) hs rfl))
 obtain⟨l,e,⟨xs,hq1⟩,q⟩:=q1
 subst e
 cases r1 with
 |cons r rr=>
  cases rr
  cases r
  obtain⟨its,r1,p1,_⟩:=I1.list hq1
  refine call_enumerate_list p1.isList λh' a1 a2 a3 kk=>wpAny_pyIter_enum a1 ?_
  refine⟨_,_,_,_,H1,rfl,I1.kept (t':=s1.toks) kk,bp7 (e:=s1.heap.objs.size+1) (it:=s1.heap.objs.size) (Nat.succ_ne_self _),⟨⟨_,a1⟩,a2⟩,λc hc=>?_,q⟩
  have le:s1.heap.objs.size<=c:=by
   simp only[List.mem_cons,List.not_mem_nil,or_false]at hc
   rcases hc with rfl|rfl<;>omega
  exact I1.fpOk le (I1.hok.fresh le)
end
end L2
namespace L2
open PySem PySem.Spec PyProof.Rows
def qA(σ:List Str)(x:Str):List Str:=if σ.any (· ==x)=true then σ else σ++[x]
def jZ(val:Nat->Str)(i:Nat):List Str:=((List.range i).map val).foldl qA []
theorem xR(val:Nat->Str)(i:Nat):jZ val (i+1)=qA (jZ val i) (val i):=by
 unfold jZ
 rw[List.range_succ,List.map_append,List.foldl_append]
 rfl
theorem ba0(val:Nat->Str):∀i,(jZ val i).length<=i
 |0=>Nat.le_refl _
 |i+1=>by
  rw[xR]
  unfold qA
  have ih:=ba0 val i
  split
  . omega
  . simp;omega
theorem bt7(σ:List Str)(v k:Str):(qA σ v).any (· ==k)=(σ.any (· ==k)||decide (k=v)):=by
 unfold qA
 by_cases h:σ.any (· ==v)=true
 . rw[if_pos h]
   by_cases e:k=v
   . subst e
     rw[h]
     simp
   . simp[e]
 . rw[if_neg h,List.any_append]
   by_cases e:k=v
   . subst e
     simp
   . have hb:(v==k)=false:=by simpa using(λh':v=k=>e h'.symm)
     simp[hb,e]
theorem bs7(σ:List Str)(v:Str):(qA σ v).length=if σ.any (· ==v)then σ.length else σ.length+1:=by
 unfold qA
 split<;>simp
section
variable {prog : Program} {w : World} {A : Around} {R : Result → Shared → Prop} {I : Addr} {fp wr : List Addr} {G : Array GenState → Array GenState → Prop} {n : Nat} {P : Nat → Value → Prop} {St : Nat → Shared → Prop}
theorem cg2(W:WalksS prog w A.in1 I fp wr G n P St)(S:Addr)(hS:S∉fp)(val:Nat->Str)(hval:∀i v,P i v->∃t,v=.str (val i) t)(hb:n+1<scanBound):
 ∀(k i:Nat)(s:Shared),n-i=k->i<=n->St i s->s.heap.SetOf (strKind prog w) S (λx=>(jZ val i).any (· ==x)) (jZ val i).length->
  (∀s',Moved (S::wr) G s s'->s'.heap.SetOf (strKind prog w) S (λx=>(jZ val n).any (· ==x)) (jZ val n).length->R (.ok (.ret .none)) s')->
  codeAny (model prog w) A (.builtin "set.update.loop" ⟨[.ref S,.ref I],[]⟩) R s:=by
 have hw:S∉wr:=λh=>hS (W.sub _ h)
 have sub:∀b∈wr,b∈S::wr:=λb hb=>List.mem_cons_of_mem _ hb
 intro k
 induction k with
 |zero=>
  intro i s hk hi st hs hR
  obtain rfl:i=n:=by omega
  refine codeAny_builtin PyProof.Rows.F.entry_set_update_loop ?_;rw[Around.under_plainId PyProof.Rows.F.plain_set_update_loop _]
  (show wpAny _ A.in1 (pyNext (.ref I)>>=_) _ _ s);refine wpAny_bind (W.done s _ _ st λs' hm=>?_)
  (show wpAny _ A.in1 (ret Value.none) _ _ s');refine wpAny_pure (hR s' (hm.mono sub) ?_)
  obtain⟨o,es,ep,t,ho,r⟩:=hs
  exact⟨o,es,ep,t,hm.heap S _ hw ho,r⟩
 |succ k ih=>
  intro i s hk hi st hs hR
  have lt:i<n:=by omega
  refine codeAny_builtin PyProof.Rows.F.entry_set_update_loop ?_;rw[Around.under_plainId PyProof.Rows.F.plain_set_update_loop _]
  (show wpAny _ A.in1 (pyNext (.ref I)>>=_) _ _ s);refine wpAny_bind (W.item i s _ _ lt st λv s' hP st' hm=>?_)
  obtain⟨t,rfl⟩:=hval i v hP
  have hs':s'.heap.SetOf (strKind prog w) S (λx=>(jZ val i).any (· ==x)) (jZ val i).length:=by
   obtain⟨o,es,ep,tb,ho,r⟩:=hs
   exact⟨o,es,ep,tb,hm.heap S _ hw ho,r⟩
  (show wpAny _ A.in1 (holding [Value.str (val i) t] (setAdd S (.str (val i) t))>>=_) _ _ s');refine wpAny_bind (wpAny_holding ?_);unfold setAdd
  refine wpAny_holding ?_;refine wpAny_bind ((strKind prog w).pyHash (k:=val i) (strKind_is _ _ _ _) ?_)
  have room:(jZ val i).length+1<scanBound:=by have:=ba0 val i;omega
  refine wpAny_setAddHashed_of (knd:=strKind prog w) (s:={s' with toks:=s'.toks+1}) (strKind_is _ _ _ _) rfl hs' room λh' hsb hS2=>?_
  have hi':h'.SetOf (strKind prog w) S (λx=>(jZ val (i+1)).any (· ==x)) (jZ val (i+1)).length:=SetOf_congr hS2 (λx=>by rw[xR,bt7]) (by rw[xR,bs7])
  refine wpAny_pure ⟨plainId_quiet PyProof.Rows.F.plain_set_update_loop _,ih (i+1) _ (by omega) lt (W.frame _ s' _ _ st' (Nat.le_succ _) λb hb o e=>?_) hi' λs'' hm'' hS''=>?_⟩
  . exact(hsb.2 b (λh:b=S=>hS (by rw[<-h];exact hb))).trans e
  . refine hR s'' (Moved.trans W.gtrans ((hm.mono sub).then_heap (Nat.le_succ _) λb o hb e=>?_) hm'') hS''
    exact(hsb.2 b (λh:b=S=>hb (by rw[h];exact List.mem_cons_self))).trans e
end
section
variable {prog : Program} {w : World} {A : Around} {E : Value → Shared → Prop} {s : Shared}
abbrev kC(led:Bool):Obj:={cls:=.type "set",dict:=none,data:=.set #[] 0 (.fresh 0 0 led)}
set_option maxHeartbeats 3200000 in
theorem an7(hh:A.handled=none)(hl:s.heap.IsList l us)(hv:∀(i:Nat) v,us[i]?=some v->∃t,v=.str (val i) t)(hb:us.size+1<scanBound)
 (h:∀(h':Heap)(tk:Nat),h'.SetOf (strKind prog w) s.heap.objs.size (λx=>(jZ val us.size).any (· ==x)) (jZ val us.size).length->(∀b o,b<s.heap.objs.size->s.heap.get? b=some o->h'.get? b=some o)->Q (.ref s.heap.objs.size) {s with heap:=h',toks:=tk}):
 wpAny (model prog w) A (call (.type "set") [.ref l]) Q E s:=by
 obtain⟨c,tl,hmro⟩:=PySem.F.called_set.mro
 have hmade:=PySem.F.called_set.made
 have hsub:=PySem.F.called_set.sub
 refine wpAny_call (codeAny_of_tree ?_);(show wpAny _ _ (callAny (.type "set") _) _ _ _)
 refine wpAny_pure ⟨Code.quiet_builtin _ (by decide+kernel),codeAny_builtin PySem.F.entry_type_call ?_⟩;rw[Around.under_plain (weight_type_call_type "set" [.ref l] []) rfl]
 have h1:=PySem.F.called_set.notType
 have h2:=PySem.F.called_set.canCreate
 have hct:=PySem.F.typeCall_set_1 (.ref l)
 (repeat(any_goals(first|assumption|wp_step)))
 refine codeAny_mono (code_set_new_1 (.ref l) (E:=E) (Q₁:=λobj s₁=>∃led:Bool,obj=.ref s.heap.objs.size/\s₁={s with heap:=s.heap.push (kC led)}) λled=>⟨led,rfl,rfl⟩) λr s₁ hr=>?_
 cases r with
 |error e=>exact hr
 |ok fl=>
  cases fl with
  |ret obj=>
   obtain⟨led,rfl,rfl⟩:=hr
   have hS:(s.heap.push (kC led)).get? s.heap.objs.size=some (kC led):=Heap.get?_push_size _ rfl
   have hT:Shared.TypeIs {s with heap:=s.heap.push (kC led)} (.ref s.heap.objs.size) "set":=⟨_,hS,rfl⟩
   have hli:=PySem.F.called_set.init.lookup
   have hbi:=PySem.F.called_set.init.bind (.ref s.heap.objs.size)
   (repeat(any_goals(first|assumption|wp_step)))
   refine codeAny_mono (codeAny_call_builtin (R:=wants (λr s₂=>r=.none/\∃h' tk,s₂={s with heap:=h',toks:=tk}/\h'.SetOf (strKind prog w) s.heap.objs.size (λx=>(jZ val us.size).any (· ==x)) (jZ val us.size).length/\
    (∀b o,b<s.heap.objs.size->s.heap.get? b=some o->h'.get? b=some o)) E) PySem.F.called_set.init.plain PySem.F.entry_set_init (check_set_init_1 hT ?_)) λr₂ s₂ hr₂=>?_
   . obtain⟨ol,hol,hcl,nl,hdl⟩:=hl
     obtain⟨ocls,odict,odata,oslots⟩:=ol
     simp only at hcl hdl;subst hcl;subst hdl
     have hol':(s.heap.push (kC led)).get? l=some {cls:=.type "list",dict:=odict,data:=.seq us nl,slots:=oslots}:=Heap.get?_push_of_some _ hol
     have hsls:=PySem.F.sub_list_set
     have hslf:=PySem.F.sub_list_frozenset
     have hne:(Value.type "list"==Value.type "dict")=false:=by decide
     have hl1:(s.heap.push (kC led)).IsList l us:=⟨_,hol',rfl,nl,rfl⟩
     unfold Builtin.«set.__init__» noKeywords Builtin.Frozenset.updateFrom;generalize hPI:pyIter=PI;wp_walk;subst hPI
     refine wpAny_pyIter_list hl1 ?_;refine wpAny_bind (wpAny_runValue ?_)
     have hlS:l<s.heap.objs.size:=Heap.lt_size hol
     have hh3:A.in1.in1.in1.handled=none:=by simp[hh]
     have hneI:l≠(s.heap.push (kC led)).objs.size:=by rw[Heap.size_push];exact Nat.ne_of_lt (Nat.lt_succ_of_lt hlS)
     have hSf:s.heap.objs.size∉[(s.heap.push (kC led)).objs.size,l]:=by
      rw[Heap.size_push];simp only[List.mem_cons,List.not_mem_nil,or_false,not_or];exact⟨Nat.ne_of_lt (Nat.lt_succ_self _),Nat.ne_of_gt hlS⟩
     refine cg2 ((Walks.list hh3 _ l hneI us).toS) s.heap.objs.size hSf val hv hb (us.size-0) 0 _ (by omega) (Nat.zero_le _) ⟨⟨_,Heap.get?_push_size _ rfl,rfl,rfl⟩,(hl1.push _)⟩ ?hS0 ?hR
     case hS0=>exact SetOf_congr ((setObjOf_fresh (knd:=strKind prog w) led).setOf (Heap.get?_push_of_some _ hS) (by unfold scanBound;omega)) (λ_=>rfl) rfl
     case hR=>
      intro s' hm hS'
      obtain⟨h',g',d',tk',os'⟩:=s'
      obtain rfl:g'=s.gens:=hm.gens
      obtain rfl:d'=s.drawn:=hm.drawn
      obtain rfl:os'=s.os:=hm.os
      (show wpAny _ _ _ _ _ _);refine wpAny_pure ?_;(show wpAny _ _ (ret Value.none) _ _ _)
      refine wpAny_pure ⟨rfl,h',tk',rfl,hS',λb o hb e=>?_⟩
      have hb2:b≠(s.heap.push (kC led)).objs.size:=by rw[Heap.size_push];exact Nat.ne_of_lt (Nat.lt_succ_of_lt hb)
      exact hm.heap b o (by simp only[List.mem_cons,List.not_mem_nil,or_false,not_or];exact⟨Nat.ne_of_lt hb,hb2⟩) (Heap.get?_push_of_some _ (Heap.get?_push_of_some _ e))
   . cases r₂ with
     |error e=>exact hr₂
     |ok fl₂=>
      cases fl₂ with
      |ret r=>
       obtain⟨rfl,h',tk,rfl,hS',hk'⟩:=hr₂
       (repeat(any_goals(first|assumption|wp_step)))
       exact h _ _ hS' hk'
      |_=>exact hr₂
  |_=>exact hr
end
end L2
namespace TL
open PySem PySem.Spec PyProof.Rows L2
inductive T where
 |non|bl (b:Bool)|int (i:Int)|str (x:Str)|ty (n:String)
 |lst (o:Bool) (xs:List T)
 |tup (xs:List T)
 |ins (o:Bool) (c:Str) (ns:List Str) (xs:List T)
mutual
def frz:T->T
 |.lst _ xs=>.lst false (frzs xs)
 |.tup xs=>.tup (frzs xs)
 |.ins _ c ns xs=>.ins false c ns (frzs xs)
 |.non=>.non
 |.bl b=>.bl b
 |.int i=>.int i
 |.str x=>.str x
 |.ty n=>.ty n
def frzs:List T->List T
 |[]=>[]
 |t::ts=>frz t::frzs ts
end
mutual
def dS:T->Bool
 |.lst o xs=>!o&&bA xs
 |.tup xs=>bA xs
 |.ins o _ _ xs=>!o&&bA xs
 |.non=>true
 |.bl _=>true
 |.int _=>true
 |.str _=>true
 |.ty _=>true
def bA:List T->Bool
 |[]=>true
 |t::ts=>dS t&&bA ts
end
mutual
def dX:T->Bool
 |.lst o xs=>o&&dL xs
 |.tup xs=>dL xs
 |.ins o _ _ xs=>o&&dL xs
 |.non=>true
 |.bl _=>true
 |.int _=>true
 |.str _=>true
 |.ty _=>true
def dL:List T->Bool
 |[]=>true
 |t::ts=>dX t&&dL ts
end
theorem nM:∀ts,bA ts=ts.all dS
 |[]=>rfl
 |t::ts=>by simp[bA,nM ts]
theorem ai7:∀ts,dL ts=ts.all dX
 |[]=>rfl
 |t::ts=>by simp[dL,ai7 ts]
mutual
theorem ao6:∀t,dS t=true->frz t=t
 |.lst o xs,h=>by
  simp only[dS,Bool.and_eq_true,Bool.not_eq_true']at h
  rw[frz,fJ xs h.2,h.1]
 |.tup xs,h=>by
  simp only[dS]at h
  rw[frz,fJ xs h]
 |.ins o _ _ xs,h=>by
  simp only[dS,Bool.and_eq_true,Bool.not_eq_true']at h
  rw[frz,fJ xs h.2,h.1]
 |.non,_=>rfl
 |.bl _,_=>rfl
 |.int _,_=>rfl
 |.str _,_=>rfl
 |.ty _,_=>rfl
theorem fJ:∀ts,bA ts=true->frzs ts=ts
 |[],_=>rfl
 |t::ts,h=>by
  simp only[bA,Bool.and_eq_true]at h
  rw[frzs,ao6 t h.1,fJ ts h.2]
end
structure Exc where
 c:Str
 ns:List Str
 xs:List T
inductive Res (α:Type) where
 |ok (a:α)|ex (x:Exc)|no
def Res.bind{α β:Type}:Res α->(α->Res β)->Res β
 |.ok a,f=>f a
 |.ex x,_=>.ex x
 |.no,_=>.no
abbrev Fr:=List (Option T)
inductive bU where
 |nx (ρ:Fr)|rt (t:T)|rm (ρ:Fr) (t:T)|bk (ρ:Fr)|ct (ρ:Fr)|ex (x:Exc)|no
def sS:HO->Bool
 |.tup _=>true
 |.frz _ _=>true
 |_=>false
def FzL(K:PySem.W.Frag)(H:Hp)(Z:Addr->Prop)(a:Addr)(xs:List V):Prop:=
 (H a=some (.lst xs)/\Z a)\/(∃o,H a=some (.frz o (.lst xs)))\/
  ∃(o:Obj)(its:Array Value)(n:Nat),K.lookup a=some o/\o.cls=.type "list"/\o.dict=none/\o.slots=#[]/\o.data=.seq its n/\its.size<=sizeLine/\Vals xs its.toList
theorem FzL.sqS{K:PySem.W.Frag}{H:Hp}{Z:Addr->Prop}{a:Addr}{xs:List V}(h:FzL K H Z a xs):SqS K H a xs:=by
 rcases h with⟨h,_⟩|⟨o,h⟩|h
 . exact .inl (.inl h)
 . exact .inl (.inr ⟨o,h⟩)
 . exact .inr h
theorem FzL.sq{K:PySem.W.Frag}{H:Hp}{Z:Addr->Prop}{a:Addr}{xs:List V}(h:FzL K H Z a xs):SqL K H a xs:=h.sqS.sq
section
variable (K : PySem.W.Frag) (cn : Str → Option Addr)
mutual
def Rep(H:Hp)(Z:Addr->Prop):T->V->List Addr->Prop
 |.non,v,A=>v=.non/\A=[]
 |.bl b,v,A=>v=.bl b/\A=[]
 |.int i,v,A=>v=.int i/\A=[]
 |.str x,v,A=>v=.str x/\A=[]
 |.ty n,v,A=>v=.ty n/\A=[]
 |.lst true ts,v,A=>∃a vs B,v=.ref a/\A=a::B/\H a=some (.lst vs)/\Reps H Z ts vs B
 |.lst false ts,v,A=>∃a vs,v=.ref a/\A=[]/\FzL K H Z a vs/\Reps H Z ts vs []
 |.tup ts,v,A=>∃a vs,v=.ref a/\SqT K H a vs/\Reps H Z ts vs A
 |.ins true c ns ts,v,A=>∃a C dx vs B,v=.ref a/\A=a::B/\cn c=some C/\H a=some (.ins C dx (ns.zip vs))/\ns.length=vs.length/\Reps H Z ts vs B
 |.ins false c ns ts,v,A=>∃a C dx vs,v=.ref a/\A=[]/\cn c=some C/\H a=some (.ins C dx (ns.zip vs))/\Z a/\ns.length=vs.length/\Reps H Z ts vs []
def Reps(H:Hp)(Z:Addr->Prop):List T->List V->List Addr->Prop
 |[],vs,A=>vs=[]/\A=[]
 |t::ts,vs,A=>∃v r B C,vs=v::r/\A=B++C/\Rep H Z t v B/\Reps H Z ts r C
end
end
section
variable {K : PySem.W.Frag} {cn : Str → Option Addr} {H H' : Hp} {Z Z' : Addr → Prop}
theorem FzL.keep(h:FzL K H Z a xs)(hk:∀a o,H a=some o->(Z a\/sS o=true)->H' a=some o)(hz:∀a,Z a->Z' a):FzL K H' Z' a xs:=by
 rcases h with⟨h,z⟩|⟨o,h⟩|h
 . exact .inl ⟨hk _ _ h (.inl z),hz _ z⟩
 . exact .inr (.inl ⟨o,hk _ _ h (.inr rfl)⟩)
 . exact .inr (.inr h)
theorem SqT.keep(h:SqT K H a xs)(hk:∀a o,H a=some o->sS o=true->H' a=some o):SqT K H' a xs:=by
 rcases h with(h|⟨o,h⟩)|h
 . exact .inl (.inl (hk _ _ h rfl))
 . exact .inl (.inr ⟨o,hk _ _ h rfl⟩)
 . exact .inr h
mutual
theorem Rep.keep:∀(t:T){v:V}{A:List Addr},Rep K cn H Z t v A->(∀a o,H a=some o->(a∈A\/Z a\/sS o=true)->H' a=some o)->(∀a,Z a->Z' a)->Rep K cn H' Z' t v A
 |.non,_,_,h,_,_=>by simpa only[Rep]using h
 |.bl _,_,_,h,_,_=>by simpa only[Rep]using h
 |.int _,_,_,h,_,_=>by simpa only[Rep]using h
 |.str _,_,_,h,_,_=>by simpa only[Rep]using h
 |.ty _,_,_,h,_,_=>by simpa only[Rep]using h
 |.lst true ts,v,A,h,hk,hz=>by
  simp only[Rep]at h⊢
  obtain⟨a,vs,B,rfl,rfl,e,r⟩:=h
  exact⟨a,vs,B,rfl,rfl,hk a _ e (.inl List.mem_cons_self),Reps.keep ts r (λb o q c=>hk b o q (c.imp_left (List.mem_cons_of_mem _))) hz⟩
 |.lst false ts,v,A,h,hk,hz=>by
  simp only[Rep]at h⊢
  obtain⟨a,vs,rfl,rfl,e,r⟩:=h
  exact⟨a,vs,rfl,rfl,e.keep (λb o q c=>hk b o q (.inr c)) hz,Reps.keep ts r hk hz⟩
 |.tup ts,v,A,h,hk,hz=>by
  simp only[Rep]at h⊢
  obtain⟨a,vs,rfl,e,r⟩:=h
  exact⟨a,vs,rfl,SqT.keep e (λb o q c=>hk b o q (.inr (.inr c))),Reps.keep ts r hk hz⟩
 |.ins true c ns ts,v,A,h,hk,hz=>by
  simp only[Rep]at h⊢
  obtain⟨a,C,dx,vs,B,rfl,rfl,hc,e,l,r⟩:=h
  exact⟨a,C,dx,vs,B,rfl,rfl,hc,hk a _ e (.inl List.mem_cons_self),l,Reps.keep ts r (λb o q c=>hk b o q (c.imp_left (List.mem_cons_of_mem _))) hz⟩
 |.ins false c ns ts,v,A,h,hk,hz=>by
  simp only[Rep]at h⊢
  obtain⟨a,C,dx,vs,rfl,rfl,hc,e,z,l,r⟩:=h
  exact⟨a,C,dx,vs,rfl,rfl,hc,hk a _ e (.inr (.inl z)),hz a z,l,Reps.keep ts r hk hz⟩
theorem Reps.keep:∀(ts:List T){vs:List V}{A:List Addr},Reps K cn H Z ts vs A->(∀a o,H a=some o->(a∈A\/Z a\/sS o=true)->H' a=some o)->(∀a,Z a->Z' a)->Reps K cn H' Z' ts vs A
 |[],_,_,h,_,_=>by simpa only[Reps]using h
 |t::ts,vs,A,h,hk,hz=>by
  simp only[Reps]at h⊢
  obtain⟨v,r,B,C,rfl,rfl,h1,h2⟩:=h
  exact⟨v,r,B,C,rfl,rfl,Rep.keep t h1 (λb o q c=>hk b o q (c.imp_left (List.mem_append_left _))) hz,Reps.keep ts h2 (λb o q c=>hk b o q (c.imp_left (List.mem_append_right _))) hz⟩
end
theorem Rep.same(h:Rep K cn H Z t v A)(s:Same H H')(hz:∀a,Z a->Z' a):Rep K cn H' Z' t v A:=Rep.keep t h (λa o q _=>s a o q) hz
theorem Reps.same(h:Reps K cn H Z t v A)(s:Same H H')(hz:∀a,Z a->Z' a):Reps K cn H' Z' t v A:=Reps.keep t h (λa o q _=>s a o q) hz
theorem bl9(h:H a=some o)(h':H b=some o')(i:sS o=true)(i':sS o'=false):a≠b:=by
 rintro rfl
 rw[h]at h'
 cases h'
 rw[i]at i'
 cases i'
theorem Rep.upd(h:Rep K cn H Z t v A)(ha:H a=some o)(hi:sS o=false)(hA:a∉A)(hZ:¬Z a):Rep K cn (L2.upd H a o') Z t v A:=
 Rep.keep t h (λb u q c=>by
  rw[cH]
  . exact q
  . rcases c with c|c|c
    . rintro rfl;exact hA c
    . rintro rfl;exact hZ c
    . exact bl9 q ha c hi) (λ_ z=>z)
theorem Reps.upd(h:Reps K cn H Z t v A)(ha:H a=some o)(hi:sS o=false)(hA:a∉A)(hZ:¬Z a):Reps K cn (L2.upd H a o') Z t v A:=
 Reps.keep t h (λb u q c=>by
  rw[cH]
  . exact q
  . rcases c with c|c|c
    . rintro rfl;exact hA c
    . rintro rfl;exact hZ c
    . exact bl9 q ha c hi) (λ_ z=>z)
mutual
theorem Rep.frz:∀(t:T){v:V}{A:List Addr},Rep K cn H Z t v A->(∀a,Z a->Z' a)->(∀a∈A,Z' a)->Rep K cn H Z' (frz t) v []
 |.non,_,_,h,_,_=>by simp only[Rep,TL.frz]at h⊢;exact⟨h.1,trivial⟩
 |.bl _,_,_,h,_,_=>by simp only[Rep,TL.frz]at h⊢;exact⟨h.1,trivial⟩
 |.int _,_,_,h,_,_=>by simp only[Rep,TL.frz]at h⊢;exact⟨h.1,trivial⟩
 |.str _,_,_,h,_,_=>by simp only[Rep,TL.frz]at h⊢;exact⟨h.1,trivial⟩
 |.ty _,_,_,h,_,_=>by simp only[Rep,TL.frz]at h⊢;exact⟨h.1,trivial⟩
 |.lst true ts,v,A,h,hz,hA=>by
  simp only[Rep,TL.frz]at h⊢
  obtain⟨a,vs,B,rfl,rfl,e,r⟩:=h
  exact⟨a,vs,rfl,trivial,.inl ⟨e,hA a List.mem_cons_self⟩,Reps.frz ts r hz λb hb=>hA b (List.mem_cons_of_mem _ hb)⟩
 |.lst false ts,v,A,h,hz,hA=>by
  simp only[Rep,TL.frz]at h⊢
  obtain⟨a,vs,rfl,rfl,e,r⟩:=h
  exact⟨a,vs,rfl,trivial,e.keep (λ_ _ q _=>q) hz,Reps.frz ts r hz hA⟩
 |.tup ts,v,A,h,hz,hA=>by
  simp only[Rep,TL.frz]at h⊢
  obtain⟨a,vs,rfl,e,r⟩:=h
  exact⟨a,vs,rfl,e,Reps.frz ts r hz hA⟩
 |.ins true c ns ts,v,A,h,hz,hA=>by
  simp only[Rep,TL.frz]at h⊢
  obtain⟨a,C,dx,vs,B,rfl,rfl,hc,e,l,r⟩:=h
  exact⟨a,C,dx,vs,rfl,trivial,hc,e,hA a List.mem_cons_self,l,Reps.frz ts r hz λb hb=>hA b (List.mem_cons_of_mem _ hb)⟩
 |.ins false c ns ts,v,A,h,hz,hA=>by
  simp only[Rep,TL.frz]at h⊢
  obtain⟨a,C,dx,vs,rfl,rfl,hc,e,z,l,r⟩:=h
  exact⟨a,C,dx,vs,rfl,trivial,hc,e,hz a z,l,Reps.frz ts r hz hA⟩
theorem Reps.frz:∀(ts:List T){vs:List V}{A:List Addr},Reps K cn H Z ts vs A->(∀a,Z a->Z' a)->(∀a∈A,Z' a)->Reps K cn H Z' (frzs ts) vs []
 |[],_,_,h,_,_=>by simp only[Reps,TL.frzs]at h⊢;exact⟨h.1,trivial⟩
 |t::ts,vs,A,h,hz,hA=>by
  simp only[Reps,TL.frzs]at h⊢
  obtain⟨v,r,B,C,rfl,rfl,h1,h2⟩:=h
  exact⟨v,r,[],[],rfl,rfl,Rep.frz t h1 hz λb hb=>hA b (List.mem_append_left _ hb),Reps.frz ts h2 hz λb hb=>hA b (List.mem_append_right _ hb)⟩
end
mutual
theorem Rep.any:∀(t:T){v:V}{A:List Addr},dX t=true->Rep K cn H Z t v A->Rep K cn H Z' t v A
 |.non,_,_,_,h=>by simpa only[Rep]using h
 |.bl _,_,_,_,h=>by simpa only[Rep]using h
 |.int _,_,_,_,h=>by simpa only[Rep]using h
 |.str _,_,_,_,h=>by simpa only[Rep]using h
 |.ty _,_,_,_,h=>by simpa only[Rep]using h
 |.lst true ts,v,A,c,h=>by
  simp only[Rep,dX,Bool.true_and]at h c⊢
  obtain⟨a,vs,B,rfl,rfl,e,r⟩:=h
  exact⟨a,vs,B,rfl,rfl,e,Reps.any ts c r⟩
 |.lst false ts,v,A,c,h=>by simp[dX]at c
 |.tup ts,v,A,c,h=>by
  simp only[Rep,dX]at h c⊢
  obtain⟨a,vs,rfl,e,r⟩:=h
  exact⟨a,vs,rfl,e,Reps.any ts c r⟩
 |.ins true cc ns ts,v,A,c,h=>by
  simp only[Rep,dX,Bool.true_and]at h c⊢
  obtain⟨a,C,dx,vs,B,rfl,rfl,hc,e,l,r⟩:=h
  exact⟨a,C,dx,vs,B,rfl,rfl,hc,e,l,Reps.any ts c r⟩
 |.ins false cc ns ts,v,A,c,h=>by simp[dX]at c
theorem Reps.any:∀(ts:List T){vs:List V}{A:List Addr},dL ts=true->Reps K cn H Z ts vs A->Reps K cn H Z' ts vs A
 |[],_,_,_,h=>by simpa only[Reps]using h
 |t::ts,vs,A,c,h=>by
  simp only[Reps,dL,Bool.and_eq_true]at h c⊢
  obtain⟨v,r,B,C,rfl,rfl,h1,h2⟩:=h
  exact⟨v,r,B,C,rfl,rfl,Rep.any t c.1 h1,Reps.any ts c.2 h2⟩
end
mutual
theorem Rep.bare:∀(t:T){v:V}{A:List Addr},dS t=true->Rep K cn H Z t v A->A=[]
 |.non,_,_,_,h=>by simp only[Rep]at h;exact h.2
 |.bl _,_,_,_,h=>by simp only[Rep]at h;exact h.2
 |.int _,_,_,_,h=>by simp only[Rep]at h;exact h.2
 |.str _,_,_,_,h=>by simp only[Rep]at h;exact h.2
 |.ty _,_,_,_,h=>by simp only[Rep]at h;exact h.2
 |.lst true ts,v,A,c,h=>by simp[dS]at c
 |.lst false ts,v,A,c,h=>by
  simp only[Rep]at h
  obtain⟨a,vs,rfl,rfl,e,r⟩:=h
  rfl
 |.tup ts,v,A,c,h=>by
  simp only[Rep,dS]at h c
  obtain⟨a,vs,rfl,e,r⟩:=h
  exact Reps.bare ts c r
 |.ins true cc ns ts,v,A,c,h=>by simp[dS]at c
 |.ins false cc ns ts,v,A,c,h=>by
  simp only[Rep]at h
  obtain⟨a,C,dx,vs,rfl,rfl,_⟩:=h
  rfl
theorem Reps.bare:∀(ts:List T){vs:List V}{A:List Addr},bA ts=true->Reps K cn H Z ts vs A->A=[]
 |[],_,_,_,h=>by simp only[Reps]at h;exact h.2
 |t::ts,vs,A,c,h=>by
  simp only[Reps,bA,Bool.and_eq_true]at h c
  obtain⟨v,r,B,C,rfl,rfl,h1,h2⟩:=h
  rw[Rep.bare t c.1 h1,Reps.bare ts c.2 h2]
  rfl
end
mutual
theorem Rep.dom:∀(t:T){v:V}{A:List Addr},Rep K cn H Z t v A->∀a∈A,∃o,H a=some o/\sS o=false
 |.non,_,_,h=>by simp only[Rep]at h;rw[h.2];intro a ha;cases ha
 |.bl _,_,_,h=>by simp only[Rep]at h;rw[h.2];intro a ha;cases ha
 |.int _,_,_,h=>by simp only[Rep]at h;rw[h.2];intro a ha;cases ha
 |.str _,_,_,h=>by simp only[Rep]at h;rw[h.2];intro a ha;cases ha
 |.ty _,_,_,h=>by simp only[Rep]at h;rw[h.2];intro a ha;cases ha
 |.lst true ts,v,A,h=>by
  simp only[Rep]at h
  obtain⟨a,vs,B,rfl,rfl,e,r⟩:=h
  intro b hb
  rcases List.mem_cons.mp hb with rfl|hb
  . exact⟨_,e,rfl⟩
  . exact Reps.dom ts r b hb
 |.lst false ts,v,A,h=>by
  simp only[Rep]at h
  obtain⟨a,vs,rfl,rfl,e,r⟩:=h
  intro a ha;cases ha
 |.tup ts,v,A,h=>by
  simp only[Rep]at h
  obtain⟨a,vs,rfl,e,r⟩:=h
  exact Reps.dom ts r
 |.ins true cc ns ts,v,A,h=>by
  simp only[Rep]at h
  obtain⟨a,C,dx,vs,B,rfl,rfl,hc,e,l,r⟩:=h
  intro b hb
  rcases List.mem_cons.mp hb with rfl|hb
  . exact⟨_,e,rfl⟩
  . exact Reps.dom ts r b hb
 |.ins false cc ns ts,v,A,h=>by
  simp only[Rep]at h
  obtain⟨a,C,dx,vs,rfl,rfl,_⟩:=h
  intro a ha;cases ha
theorem Reps.dom:∀(ts:List T){vs:List V}{A:List Addr},Reps K cn H Z ts vs A->∀a∈A,∃o,H a=some o/\sS o=false
 |[],_,_,h=>by simp only[Reps]at h;rw[h.2];intro a ha;cases ha
 |t::ts,vs,A,h=>by
  simp only[Reps]at h
  obtain⟨v,r,B,C,rfl,rfl,h1,h2⟩:=h
  intro a ha
  rcases List.mem_append.mp ha with ha|ha
  . exact Rep.dom t h1 a ha
  . exact Reps.dom ts h2 a ha
end
theorem Reps.length:∀(ts:List T){vs:List V}{A:List Addr},Reps K cn H Z ts vs A->vs.length=ts.length
 |[],_,_,h=>by simp only[Reps]at h;rw[h.1];rfl
 |t::ts,vs,A,h=>by
  simp only[Reps]at h
  obtain⟨v,r,B,C,rfl,rfl,h1,h2⟩:=h
  simp[Reps.length ts h2]
theorem Reps.get:∀(ts:List T){vs:List V}{A:List Addr}{i:Nat}{t:T},Reps K cn H Z ts vs A->ts[i]?=some t->∃v B,vs[i]?=some v/\Rep K cn H Z t v B/\(∀b∈B,b∈A)/\B.Sublist A
 |[],_,_,_,_,h,e=>by simp at e
 |t::ts,vs,A,0,t',h,e=>by
  simp only[Reps]at h
  obtain⟨v,r,B,C,rfl,rfl,h1,h2⟩:=h
  simp at e
  subst e
  exact⟨v,B,rfl,h1,λb hb=>List.mem_append_left _ hb,List.sublist_append_left _ _⟩
 |t::ts,vs,A,i+1,t',h,e=>by
  simp only[Reps]at h
  obtain⟨v,r,B,C,rfl,rfl,h1,h2⟩:=h
  obtain⟨v',B',e1,e2,e3,e4⟩:=Reps.get ts (i:=i) h2 (by simpa using e)
  exact⟨v',B',by simpa using e1,e2,λb hb=>List.mem_append_right _ (e3 b hb),e4.trans (List.sublist_append_right _ _)⟩
theorem Reps.append:∀(ts:List T){us:List T}{vs ws:List V}{A B:List Addr},Reps K cn H Z ts vs A->Reps K cn H Z us ws B->Reps K cn H Z (ts++us) (vs++ws) (A++B)
 |[],us,vs,ws,A,B,h,h'=>by
  simp only[Reps]at h
  obtain⟨rfl,rfl⟩:=h
  exact h'
 |t::ts,us,vs,ws,A,B,h,h'=>by
  simp only[Reps,List.cons_append]at h⊢
  obtain⟨v,r,C,D,rfl,rfl,h1,h2⟩:=h
  exact⟨v,r++ws,C,D++B,rfl,by simp,h1,Reps.append ts h2 h'⟩
theorem Reps.one(h:Rep K cn H Z t v B):Reps K cn H Z [t] [v] B:=by
 simp only[Reps]
 exact⟨v,[],B,[],rfl,by simp,h,rfl,rfl⟩
theorem Reps.nil:Reps K cn H Z [] [] []:=by simp[Reps]
theorem Reps.take:∀(n:Nat)(ts:List T){vs:List V},Reps K cn H Z ts vs []->Reps K cn H Z (ts.take n) (vs.take n) []
 |0,ts,vs,h=>by simp[Reps]
 |n+1,[],vs,h=>by
  simp only[Reps]at h
  obtain⟨rfl,_⟩:=h
  simp[Reps]
 |n+1,t::ts,vs,h=>by
  simp only[Reps]at h
  obtain⟨v,r,B,C,rfl,e,h1,h2⟩:=h
  have eb:B=[]/\C=[]:=by simpa using e.symm
  obtain⟨rfl,rfl⟩:=eb
  simp only[List.take_succ_cons,Reps]
  exact⟨v,r.take n,[],[],rfl,rfl,h1,Reps.take n ts h2⟩
theorem Reps.drop:∀(n:Nat)(ts:List T){vs:List V},Reps K cn H Z ts vs []->Reps K cn H Z (ts.drop n) (vs.drop n) []
 |0,ts,vs,h=>h
 |n+1,[],vs,h=>by
  simp only[Reps]at h
  obtain⟨rfl,_⟩:=h
  simp[Reps]
 |n+1,t::ts,vs,h=>by
  simp only[Reps]at h
  obtain⟨v,r,B,C,rfl,e,h1,h2⟩:=h
  have eb:B=[]/\C=[]:=by simpa using e.symm
  obtain⟨rfl,rfl⟩:=eb
  simpa using Reps.drop n ts h2
end
end TL
namespace TL
open PySem PySem.Spec PyProof.Rows L2
abbrev St:=L2.St
theorem bv0(h:H p=none)(o:HO):Same H (L2.upd H p o):=λb u q=>by rw[cH (gK q h)];exact q
theorem dR{α:Type}{P:α->Prop}:∀b∈([]:List α),P b:=λ_ h=>nomatch h
def Slot(K:PySem.W.Frag)(cn:Str->Option Addr)(H:Hp)(Z:Addr->Prop)(o:Option T)(w:Option V)(A:List Addr):Prop:=
 match o with
 |none=>A=[]
 |some t=>∃v,w=some v/\Rep K cn H Z t v A
def Slots(K:PySem.W.Frag)(cn:Str->Option Addr)(H:Hp)(Z:Addr->Prop):Fr->St->List (List Addr)->Prop
 |[],σ,As=>σ=[]/\As=[]
 |o::ρ,σ,As=>∃w σ' A As',σ=w::σ'/\As=A::As'/\Slot K cn H Z o w A/\Slots K cn H Z ρ σ' As'
abbrev gN:=List (Nat×V)
structure Frm (Jn:gN) (K:PySem.W.Frag) (cn:Str->Option Addr) (H:Hp) (Z:Addr->Prop) (ρ:Fr) (σ:St) (As:List (List Addr)):Prop where
 sl:Slots K cn H Z ρ σ As
 nd:As.flatten.Nodup
 nz:∀a∈As.flatten,¬Z a
 zi:∀a,Z a->H a≠none
 pn:∀p∈Jn,σ[p.1]?=some (some p.2)
structure Ev (As:List (List Addr)) (H:Hp) (Z:Addr->Prop) (As':List (List Addr)) (H':Hp) (Z':Addr->Prop):Prop where
 keep:∀a o,H a=some o->a∉As.flatten->H' a=some o
 own:∀a∈As'.flatten,a∈As.flatten\/H a=none
 zz:∀a,Z a->Z' a
 zn:∀a,Z' a->Z a\/a∈As.flatten\/H a=none
 dom:∀a,H' a=none->H a=none
theorem Ev.refl:Ev As H Z As H Z:=
 ⟨λ_ _ h _=>h,λ_ h=>.inl h,λ_ h=>h,λ_ h=>.inl h,λ_ h=>h⟩
theorem Ev.trans(a:Ev As H Z As1 H1 Z1)(b:Ev As1 H1 Z1 As2 H2 Z2):Ev As H Z As2 H2 Z2 where
 keep:=λx o h n=>b.keep x o (a.keep x o h n) λq=>by
  rcases a.own x q with q|q
  . exact n q
  . rw[h]at q;cases q
 own:=λx h=>by
  rcases b.own x h with q|q
  . exact a.own x q
  . exact .inr (a.dom x q)
 zz:=λx h=>b.zz x (a.zz x h)
 zn:=λx h=>by
  rcases b.zn x h with q|q|q
  . exact a.zn x q
  . exact .inr (a.own x q)
  . exact .inr (.inr (a.dom x q))
 dom:=λx h=>a.dom x (b.dom x h)
structure Post (K:PySem.W.Frag) (cn:Str->Option Addr) (As:List (List Addr)) (H:Hp) (Z:Addr->Prop) (mv:List Nat) (H':Hp) (Z':Addr->Prop) (t:T) (v:V) (B:List Addr):Prop where
 same:Same H H'
 zz:∀a,Z a->Z' a
 zn:∀a,Z' a->Z a\/H a=none
 zi:∀a,Z' a->H' a≠none
 rep:Rep K cn H' Z' t v B
 nd:B.Nodup
 bz:∀b∈B,¬Z' b
 bn:∀b∈B,H b=none\/∃i∈mv,b∈As.getD i []
structure PostB (K:PySem.W.Frag) (cn:Str->Option Addr) (H:Hp) (Z:Addr->Prop) (H':Hp) (Z':Addr->Prop) (t:T) (v:V) (B:List Addr):Prop where
 same:Same H H'
 zz:∀a,Z a->Z' a
 zn:∀a,Z' a->Z a\/H a=none
 zi:∀a,Z' a->H' a≠none
 rep:Rep K cn H' Z' t v B
structure dt6 (K:PySem.W.Frag) (cn:Str->Option Addr) (As:List (List Addr)) (H:Hp) (Z:Addr->Prop) (x:Exc) (C:Addr) (a:Option Addr) (H':Hp) (Z':Addr->Prop):Prop where
 ev:Ev As H Z [] H' Z'
 cls:cn x.c=some C
 zi:∀a,Z' a->H' a≠none
 flds:∃dx vs,a=some dx/\H' dx=some (.xd (x.ns.zip vs))/\x.ns.length=vs.length/\Reps K cn H' Z' x.xs vs []
section
variable (Jn : gN) (K : PySem.W.Frag) (cn : Str → Option Addr) (E : XK)
def WpX(As:List (List Addr))(H:Hp)(Z:Addr->Prop)(x:Exc):Prop:=∀C a H' Z',dt6 K cn As H Z x C a H' Z'->E (.ref C) a H'
def WpE(As:List (List Addr))(H:Hp)(Z:Addr->Prop)(mv:List Nat)(Q:VK):Res T->Prop
 |.ok t=>∀v H' Z' B,Post K cn As H Z mv H' Z' t v B->Q v H'
 |.ex x=>WpX K cn E As H Z x
 |.no=>False
def WpB(As:List (List Addr))(H:Hp)(Z:Addr->Prop)(Q:VK):Res T->Prop
 |.ok t=>∀v H' Z' B,PostB K cn H Z H' Z' t v B->Q v H'
 |.ex x=>WpX K cn E As H Z x
 |.no=>False
structure PostT (H:Hp) (Z:Addr->Prop) (H':Hp) (Z':Addr->Prop):Prop where
 same:Same H H'
 zz:∀a,Z a->Z' a
 zn:∀a,Z' a->Z a\/H a=none
 zi:∀a,Z' a->H' a≠none
def WpT(As:List (List Addr))(H:Hp)(Z:Addr->Prop)(Q:Bool->Hp->Prop):Res Bool->Prop
 |.ok b=>∀H' Z',PostT H Z H' Z'->Q b H'
 |.ex x=>WpX K cn E As H Z x
 |.no=>False
structure dx5 (As:List (List Addr)) (H:Hp) (Z:Addr->Prop) (t:T) (v:V) (H':Hp) (Z':Addr->Prop) (B:List Addr):Prop where
 ev:Ev As H Z [B] H' Z'
 rep:Rep K cn H' Z' t v B
 nd:B.Nodup
 bz:∀b∈B,¬Z' b
 zi:∀a,Z' a->H' a≠none
def Wp(As:List (List Addr))(H:Hp)(Z:Addr->Prop)(D:at0):bU->Prop
 |.nx ρ=>∀σ' As' H' Z',Frm Jn K cn H' Z' ρ σ' As'->Ev As H Z As' H' Z'->D.nx σ' H'
 |.bk ρ=>∀σ' As' H' Z',Frm Jn K cn H' Z' ρ σ' As'->Ev As H Z As' H' Z'->D.bk σ' H'
 |.ct ρ=>∀σ' As' H' Z',Frm Jn K cn H' Z' ρ σ' As'->Ev As H Z As' H' Z'->D.ct σ' H'
 |.rt t=>∀v H' Z' B,dx5 K cn As H Z t v H' Z' B->D.rt v H'
 |.rm ρ t=>∀v σ' As' H' Z',Frm Jn K cn H' Z' ρ σ' As'->Ev As H Z As' H' Z'->Rep K cn H' Z' t v []->D.rt v H'
 |.ex x=>WpX K cn E As H Z x
 |.no=>False
def RE(mv:List Nat)(te:TE)(d:Fr->Res T):Prop:=∀As H Z ρ σ,Frm Jn K cn H Z ρ σ As->∀Q,WpE K cn E As H Z mv Q (d ρ)->te σ H Q
def RB(te:TE)(d:Fr->Res T):Prop:=∀As H Z ρ σ,Frm Jn K cn H Z ρ σ As->∀Q,WpB K cn E As H Z Q (d ρ)->te σ H Q
def RT(tt:TT)(d:Fr->Res Bool):Prop:=∀As H Z ρ σ,Frm Jn K cn H Z ρ σ As->∀Q,WpT K cn E As H Z Q (d ρ)->tt σ H Q
def RS(ts:TS)(d:Fr->bU):Prop:=∀As H Z ρ σ,Frm Jn K cn H Z ρ σ As->∀D,Wp Jn K cn E As H Z D (d ρ)->ts D σ H
end
section
variable {Jn : gN} {K : PySem.W.Frag} {cn : Str → Option Addr} {E : XK} {As As1 : List (List Addr)} {H H1 : Hp} {Z Z1 : Addr → Prop} {ρ : Fr} {σ : St}
theorem WpX.ev(h:WpX K cn E As H Z x)(e:Ev As H Z As1 H1 Z1):WpX K cn E As1 H1 Z1 x:=λC a H' Z' p=>h C a H' Z' ⟨e.trans p.ev,p.cls,p.zi,p.flds⟩
theorem Wp.ev(h:Wp Jn K cn E As H Z D o)(e:Ev As H Z As1 H1 Z1):Wp Jn K cn E As1 H1 Z1 D o:=by
 cases o with
 |nx ρ=>exact λσ' As' H' Z' f q=>h σ' As' H' Z' f (e.trans q)
 |bk ρ=>exact λσ' As' H' Z' f q=>h σ' As' H' Z' f (e.trans q)
 |ct ρ=>exact λσ' As' H' Z' f q=>h σ' As' H' Z' f (e.trans q)
 |rt t=>exact λv H' Z' B p=>h v H' Z' B ⟨e.trans p.ev,p.rep,p.nd,p.bz,p.zi⟩
 |rm ρ t=>exact λv σ' As' H' Z' f q r=>h v σ' As' H' Z' f (e.trans q) r
 |ex x=>exact WpX.ev h e
 |no=>exact h
structure Mo (H:Hp) (Z:Addr->Prop) (H':Hp) (Z':Addr->Prop):Prop where
 same:Same H H'
 zz:∀a,Z a->Z' a
 zn:∀a,Z' a->Z a\/H a=none
 zi:∀a,Z' a->H' a≠none
theorem Mo.ev(m:Mo H Z H' Z'):Ev As H Z As H' Z':=
 ⟨λa o h _=>m.same a o h,λ_ h=>.inl h,m.zz,λa h=>(m.zn a h).imp_right .inr,λa h=>m.same.free h⟩
theorem Mo.trans(a:Mo H Z H1 Z1)(b:Mo H1 Z1 H2 Z2):Mo H Z H2 Z2:=
 ⟨a.same.trans b.same,λx h=>b.zz x (a.zz x h),λx h=>by
  rcases b.zn x h with q|q
  . exact a.zn x q
  . exact .inr (a.same.free q),b.zi⟩
theorem Frm.mo0(F:Frm Jn K cn H Z ρ σ As):Mo H Z H Z:=⟨Same.refl _,λ_ h=>h,λ_ h=>.inl h,F.zi⟩
theorem Post.mo(p:Post K cn As H Z mv H' Z' t v B):Mo H Z H' Z':=⟨p.same,p.zz,p.zn,p.zi⟩
theorem PostB.mo(p:PostB K cn H Z H' Z' t v B):Mo H Z H' Z':=⟨p.same,p.zz,p.zn,p.zi⟩
theorem PostT.mo(p:PostT H Z H' Z'):Mo H Z H' Z':=⟨p.same,p.zz,p.zn,p.zi⟩
theorem Mo.postT(p:Mo H Z H' Z'):PostT H Z H' Z':=⟨p.same,p.zz,p.zn,p.zi⟩
theorem Slot.mo(h:Slot K cn H Z o w A)(s:Same H H')(hz:∀a,Z a->Z' a):Slot K cn H' Z' o w A:=by
 cases o with
 |none=>exact h
 |some t=>obtain⟨v,e,r⟩:=h;exact⟨v,e,r.same s hz⟩
theorem Slots.mo(s:Same H H')(hz:∀a,Z a->Z' a):∀{ρ:Fr}{σ:St}{As:List (List Addr)},Slots K cn H Z ρ σ As->Slots K cn H' Z' ρ σ As
 |[],_,_,h=>h
 |o::ρ,_,_,h=>by
  obtain⟨w,σ',A,As',rfl,rfl,h1,h2⟩:=h
  exact⟨w,σ',A,As',rfl,rfl,h1.mo s hz,Slots.mo s hz h2⟩
theorem Slots.dom:∀{ρ:Fr}{σ:St}{As:List (List Addr)},Slots K cn H Z ρ σ As->∀a∈As.flatten,∃o,H a=some o/\sS o=false
 |[],_,_,h,a,ha=>by obtain⟨rfl,rfl⟩:=h;simp at ha
 |o::ρ,_,_,h,a,ha=>by
  obtain⟨w,σ',A,As',rfl,rfl,h1,h2⟩:=h
  rw[List.flatten_cons,List.mem_append]at ha
  rcases ha with ha|ha
  . cases o with
    |none=>have:A=[]:=h1;subst this;cases ha
    |some t=>obtain⟨v,e,r⟩:=h1;exact r.dom t a ha
  . exact Slots.dom h2 a ha
theorem Frm.mo(F:Frm Jn K cn H Z ρ σ As)(m:Mo H Z H' Z'):Frm Jn K cn H' Z' ρ σ As:=by
 refine⟨F.sl.mo m.same m.zz,F.nd,λa ha z=>?_,m.zi,F.pn⟩
 rcases m.zn a z with q|q
 . exact F.nz a ha q
 . obtain⟨o,e,_⟩:=F.sl.dom a ha
   rw[e]at q
   cases q
theorem WpE.mo(F:Frm Jn K cn H Z ρ σ As)(h:WpE K cn E As H Z mv Q r)(m:Mo H Z H' Z'):WpE K cn E As H' Z' mv Q r:=by
 cases r with
 |ok t=>exact λv H2 Z2 B p=>h v H2 Z2 B ⟨m.same.trans p.same,λa q=>p.zz a (m.zz a q),(m.trans p.mo).zn,p.zi,p.rep,p.nd,p.bz,λb hb=>(p.bn b hb).imp_left m.same.free⟩
 |ex x=>exact WpX.ev h m.ev
 |no=>exact h
theorem WpT.mo(h:WpT K cn E As H Z Q r)(m:Mo H Z H' Z'):WpT K cn E As H' Z' Q r:=by
 cases r with
 |ok b=>exact λH2 Z2 p=>h H2 Z2 (m.trans p.mo).postT
 |ex x=>exact WpX.ev h m.ev
 |no=>exact h
theorem Slots.get:∀{ρ:Fr}{σ:St}{As:List (List Addr)}{i:Nat}{t:T},Slots K cn H Z ρ σ As->ρ[i]?=some (some t)->∃v,σ[i]?=some (some v)/\Rep K cn H Z t v (As.getD i [])
 |[],_,_,_,_,h,e=>by simp at e
 |o::ρ,_,_,0,t,h,e=>by
  obtain⟨w,σ',A,As',rfl,rfl,h1,h2⟩:=h
  simp at e
  subst e
  obtain⟨v,rfl,r⟩:=h1
  exact⟨v,rfl,r⟩
 |o::ρ,_,_,i+1,t,h,e=>by
  obtain⟨w,σ',A,As',rfl,rfl,h1,h2⟩:=h
  obtain⟨v,e1,e2⟩:=Slots.get (i:=i) h2 (by simpa using e)
  exact⟨v,by simpa using e1,by simpa using e2⟩
theorem Slots.set(r:Rep K cn H Z t v B):∀{ρ:Fr}{σ:St}{As:List (List Addr)}(i:Nat),Slots K cn H Z ρ σ As->Slots K cn H Z (ρ.set i (some t)) (σ.set i (some v)) (As.set i B)
 |[],_,_,_,h=>by obtain⟨rfl,rfl⟩:=h;exact⟨rfl,rfl⟩
 |o::ρ,_,_,0,h=>by
  obtain⟨w,σ',A,As',rfl,rfl,h1,h2⟩:=h
  exact⟨some v,σ',B,As',rfl,rfl,⟨v,rfl,r⟩,h2⟩
 |o::ρ,_,_,i+1,h=>by
  obtain⟨w,σ',A,As',rfl,rfl,h1,h2⟩:=h
  exact⟨w,σ'.set i (some v),A,As'.set i B,rfl,rfl,h1,Slots.set r i h2⟩
theorem Slots.kill:∀{ρ:Fr}{σ:St}{As:List (List Addr)}(i:Nat),Slots K cn H Z ρ σ As->Slots K cn H Z (ρ.set i none) σ (As.set i [])
 |[],_,_,_,h=>by obtain⟨rfl,rfl⟩:=h;exact⟨rfl,rfl⟩
 |o::ρ,_,_,0,h=>by
  obtain⟨w,σ',A,As',rfl,rfl,h1,h2⟩:=h
  exact⟨w,σ',[],As',rfl,rfl,rfl,h2⟩
 |o::ρ,_,_,i+1,h=>by
  obtain⟨w,σ',A,As',rfl,rfl,h1,h2⟩:=h
  exact⟨w,σ',A,As'.set i [],rfl,rfl,h1,Slots.kill i h2⟩
theorem Slots.kill2(o:Option V):∀{ρ:Fr}{σ:St}{As:List (List Addr)}(i:Nat),Slots K cn H Z ρ σ As->Slots K cn H Z (ρ.set i none) (σ.set i o) (As.set i [])
 |[],_,_,_,h=>by obtain⟨rfl,rfl⟩:=h;exact⟨rfl,rfl⟩
 |o::ρ,_,_,0,h=>by
  obtain⟨w,σ',A,As',rfl,rfl,h1,h2⟩:=h
  exact⟨_,σ',[],As',rfl,rfl,rfl,h2⟩
 |o::ρ,_,_,i+1,h=>by
  obtain⟨w,σ',A,As',rfl,rfl,h1,h2⟩:=h
  exact⟨w,_,A,As'.set i [],rfl,rfl,h1,Slots.kill2 _ i h2⟩
theorem gO:∀{As:List (List Addr)}{i:Nat},a∈(As.set i B).flatten->a∈B\/a∈As.flatten
 |[],_,h=>by simp at h
 |A::As,0,h=>by
  rw[List.set_cons_zero,List.flatten_cons,List.mem_append]at h
  rw[List.flatten_cons,List.mem_append]
  exact h.imp_right .inr
 |A::As,i+1,h=>by
  rw[List.set_cons_succ,List.flatten_cons,List.mem_append]at h
  rw[List.flatten_cons,List.mem_append]
  rcases h with h|h
  . exact .inr (.inl h)
  . exact(gO h).imp_right .inr
theorem mM(hB:B.Nodup):∀{As:List (List Addr)}{i:Nat},As.flatten.Nodup->(∀b∈B,b∈As.flatten->b∈As.getD i [])->(As.set i B).flatten.Nodup
 |[],_,h,_=>h
 |A::As,0,h,d=>by
  rw[List.flatten_cons,List.nodup_append]at h
  rw[List.set_cons_zero,List.flatten_cons,List.nodup_append]
  refine⟨hB,h.2.1,λb hb c hc e=>?_⟩
  subst e
  have q:=d b hb (by rw[List.flatten_cons,List.mem_append];exact .inr hc)
  exact h.2.2 b (by simpa using q) b hc rfl
 |A::As,i+1,h,d=>by
  rw[List.flatten_cons,List.nodup_append]at h
  rw[List.set_cons_succ,List.flatten_cons,List.nodup_append]
  have d':∀b∈B,b∈As.flatten->b∈As.getD i []:=λb hb hc=>by
   have q:=d b hb (by rw[List.flatten_cons,List.mem_append];exact .inr hc)
   simpa using q
  refine⟨h.1,mM hB h.2.1 d',λa ha c hc e=>?_⟩
  subst e
  rcases gO hc with q|q
  . have z:=d a q (by rw[List.flatten_cons,List.mem_append];exact .inl ha)
    have z':a∈As.getD i []:=by simpa using z
    have z2:a∈As.flatten:=by
     rw[List.getD_eq_getElem?_getD]at z'
     cases e:As[i]? with
     |none=>rw[e]at z';cases z'
     |some C=>rw[e]at z';exact List.mem_flatten.mpr ⟨C,List.mem_of_getElem? e,z'⟩
    exact h.2.2 a ha a z2 rfl
  . exact h.2.2 a ha a q rfl
theorem aV(h:a∈As.getD i []):a∈As.flatten:=by
 rw[List.getD_eq_getElem?_getD]at h
 cases e:As[i]? with
 |none=>rw[e]at h;cases h
 |some C=>rw[e]at h;exact List.mem_flatten.mpr ⟨C,List.mem_of_getElem? e,h⟩
def yW(Jn:gN)(i:Nat):Bool:=Jn.all λp=>!(p.1==i)
theorem ag6(h:yW Jn i=true)(o:Option V)(q:∀p∈Jn,σ[p.1]?=some (some p.2)):∀p∈Jn,(σ.set i o)[p.1]?=some (some p.2):=λp hp=>by
 unfold yW at h
 rw[List.all_eq_true]at h
 have:=h p hp
 rw[List.getElem?_set_ne (by intro z;simp[z]at this)]
 exact q p hp
theorem Frm.set(F:Frm Jn K cn H Z ρ σ As)(r:Rep K cn H Z t v B)(nd:B.Nodup)(bz:∀b∈B,¬Z b)(i:Nat)(fr:∀b∈B,b∈As.flatten->b∈As.getD i [])(hJ:yW Jn i=true):Frm Jn K cn H Z (ρ.set i (some t)) (σ.set i (some v)) (As.set i B):=
 ⟨F.sl.set r i,mM nd F.nd fr,λa ha=>(gO ha).elim (bz a) (F.nz a),F.zi,ag6 hJ _ F.pn⟩
theorem Frm.kill(F:Frm Jn K cn H Z ρ σ As)(i:Nat):Frm Jn K cn H Z (ρ.set i none) σ (As.set i []):=
 ⟨F.sl.kill i,mM List.nodup_nil F.nd (λb hb=>by cases hb),λa ha=>(gO ha).elim (λq=>by cases q) (F.nz a),F.zi,F.pn⟩
def kills:List Nat->Fr->Fr
 |[],ρ=>ρ
 |i::is,ρ=>kills is (ρ.set i none)
def eW:List Nat->List (List Addr)->List (List Addr)
 |[],As=>As
 |i::is,As=>eW is (As.set i [])
theorem Frm.kills(mv:List Nat):∀{ρ:Fr}{As:List (List Addr)},Frm Jn K cn H Z ρ σ As->Frm Jn K cn H Z (TL.kills mv ρ) σ (eW mv As):=by
 induction mv with
 |nil=>exact λF=>F
 |cons i is ih=>exact λF=>ih (F.kill i)
theorem eM:∀{As:List (List Addr)},a∈(eW mv As).flatten->a∈As.flatten:=by
 induction mv with
 |nil=>exact λh=>h
 |cons i is ih=>exact λh=>(gO (ih h)).elim (λq=>by cases q) id
theorem xK:∀{As:List (List Addr)},As.flatten.Nodup->i∈mv->a∈As.getD i []->a∉(eW mv As).flatten:=by
 induction mv with
 |nil=>exact λ_ h=>by cases h
 |cons j js ih=>
  intro As nd hi ha hm
  by_cases e:i=j
  . subst e
    have h1:=eM (mv:=js) (As:=As.set i []) hm
    have:∀{As:List (List Addr)}{i:Nat},As.flatten.Nodup->a∈As.getD i []->a∉(As.set i []).flatten:=by
     intro As
     induction As with
     |nil=>intro i _ h;simp at h
     |cons A As ih2=>
      intro i nd h hm
      rw[List.flatten_cons,List.nodup_append]at nd
      cases i with
      |zero=>
       rw[List.set_cons_zero,List.flatten_cons,List.nil_append]at hm
       exact nd.2.2 a (by simpa using h) a hm rfl
      |succ i=>
       rw[List.set_cons_succ,List.flatten_cons,List.mem_append]at hm
       have h':a∈As.getD i []:=by simpa using h
       rcases hm with hm|hm
       . exact nd.2.2 a hm a (aV h') rfl
       . exact ih2 nd.2.1 h' hm
    exact this nd ha h1
  . have hi':i∈js:=(List.mem_cons.mp hi).resolve_left e
    refine ih (As:=As.set j []) (mM List.nodup_nil nd (λb hb=>by cases hb)) hi' ?_ hm
    rw[List.getD_eq_getElem?_getD,List.getElem?_set_ne (Ne.symm e),<-List.getD_eq_getElem?_getD]
    exact ha
def dh5(i:Nat)(ρ:Fr):Fr:=match ρ[i]? with
 |some (some t)=>ρ.set i (some (frz t))
 |_=>ρ
end
end TL
namespace TL
open PySem PySem.Spec PyProof.Rows L2
section
variable {Jn : gN} {K : PySem.W.Frag} {cn : Str → Option Addr} {E : XK}
theorem WpB.wpE(w:WpB K cn E As H Z Q r):WpE K cn E As H Z mv Q r:=by
 cases r with
 |ok t=>exact λv H' Z' B p=>w v H' Z' B ⟨p.same,p.zz,p.zn,p.zi,p.rep⟩
 |ex x=>exact w
 |no=>exact w
theorem RE.rb(h:RE Jn K cn E mv te d):RB Jn K cn E te d:=λAs H Z ρ σ F Q w=>h As H Z ρ σ F Q w.wpE
def aB(i:Nat):Fr->Res T:=λρ=>match ρ[i]? with
 |some (some t)=>.ok t
 |_=>.no
theorem dx4(i:Nat):RB Jn K cn E (bs0 i) (aB i):=λAs H Z ρ σ F Q w=>by
 unfold aB at w
 cases e:ρ[i]? with
 |none=>rw[e]at w;exact False.elim w
 |some o=>
  rw[e]at w
  cases o with
  |none=>exact False.elim w
  |some t=>
   obtain⟨v,es,r⟩:=F.sl.get e
   exact⟨v,es,w v H Z _ ⟨Same.refl _,λ_ h=>h,λ_ h=>.inl h,F.zi,r⟩⟩
theorem df7(i:Nat):RE Jn K cn E [i] (bs0 i) (aB i):=λAs H Z ρ σ F Q w=>by
 unfold aB at w
 cases e:ρ[i]? with
 |none=>rw[e]at w;exact False.elim w
 |some o=>
  rw[e]at w
  cases o with
  |none=>exact False.elim w
  |some t=>
   obtain⟨v,es,r⟩:=F.sl.get e
   refine⟨v,es,w v H Z _ ⟨Same.refl _,λ_ h=>h,λ_ h=>.inl h,F.zi,r,?_,λb hb=>F.nz b (aV hb),λb hb=>.inr ⟨i,List.mem_cons_self,hb⟩⟩⟩
   have nd:=F.nd
   rw[List.getD_eq_getElem?_getD]
   cases q:As[i]? with
   |none=>exact List.nodup_nil
   |some C=>exact List.Nodup.sublist (List.sublist_flatten_of_mem (List.mem_of_getElem? q)) nd
def aQ(d:Fr->Res T):Fr->Res T:=λρ=>(d ρ).bind λt=>if dS t=true then .ok t else .no
theorem RB.chk(h:RB Jn K cn E te d):RE Jn K cn E [] te (aQ d):=λAs H Z ρ σ F Q w=>h As H Z ρ σ F Q (by
 unfold aQ at w
 cases e:d ρ with
 |ok t=>
  rw[e]at w
  intro v H' Z' B p
  by_cases c:dS t=true
  . simp only[Res.bind,if_pos c]at w
    have:=p.rep.bare t c
    subst this
    exact w v H' Z' [] ⟨p.same,p.zz,p.zn,p.zi,p.rep,List.nodup_nil,dR,dR⟩
  . simp only[Res.bind,if_neg c]at w
    exact False.elim w
 |ex x=>rw[e]at w;exact w
 |no=>rw[e]at w;exact w)
def bk0(d:Fr->Res T):Fr->Res T:=λρ=>(d ρ).bind λt=>.ok (frz t)
theorem RE.frz{te:TE}{d:Fr->Res T}(h:RE Jn K cn E [] te d):RE Jn K cn E [] te (bk0 d):=λAs H Z ρ σ F Q w=>h As H Z ρ σ F Q (by
 unfold bk0 at w
 cases e:d ρ with
 |ok t=>
  rw[e]at w
  intro v H' Z' B p
  refine w v H' (λa=>Z' a\/a∈B) [] ⟨p.same,λa h=>.inl (p.zz a h),λa h=>?_,λa h=>?_,Rep.frz t p.rep (λa h=>.inl h) (λa h=>.inr h),List.nodup_nil,dR,dR⟩
  . rcases h with h|h
    . exact p.zn a h
    . rcases p.bn a h with q|⟨i,q,_⟩
      . exact .inr q
      . cases q
  . rcases h with h|h
    . exact p.zi a h
    . obtain⟨o,q,_⟩:=p.rep.dom t a h
      rw[q]
      exact(λz=>nomatch z)
 |ex x=>rw[e]at w;exact w
 |no=>rw[e]at w;exact w)
def dC(t:T):Fr->Res T:=λ_=>.ok t
theorem ab9(h:∀H Z,Rep K cn H Z t v []):RE Jn K cn E [] (tC v) (dC t):=λAs H Z ρ σ F Q w=>
 w v H Z [] ⟨Same.refl _,λ_ h=>h,λ_ h=>.inl h,F.zi,h H Z,List.nodup_nil,dR,dR⟩
theorem du2:RE Jn K cn E [] (tC (.int i)) (dC (.int i)):=ab9 λH Z=>by simp[Rep]
theorem dp4:RE Jn K cn E [] (tC (.str i)) (dC (.str i)):=ab9 λH Z=>by simp[Rep]
theorem dd6:RE Jn K cn E [] (tC (.bl i)) (dC (.bl i)):=ab9 λH Z=>by simp[Rep]
theorem dg3:RE Jn K cn E [] (tC .non) (dC .non):=ab9 λH Z=>by simp[Rep]
theorem dk5:RE Jn K cn E [] (tC (.ty n)) (dC (.ty n)):=ab9 λH Z=>by simp[Rep]
def mH(K:PySem.W.Frag)(cn:Str->Option Addr)(r:R2)(f:T->T->Res T):Prop:=
 ∀(E:XK)(As:List (List Addr))(H:Hp)(Z:Addr->Prop)(t u:T)(x y:V)(A B:List Addr)(Q:VK),(∀a,Z a->H a≠none)->Rep K cn H Z t x A->Rep K cn H Z u y B->WpE K cn E As H Z [] Q (f t u)->r x y H Q
def aG(f:T->T->Res T)(a b:Fr->Res T):Fr->Res T:=λρ=>(a ρ).bind λx=>(b ρ).bind λy=>f x y
theorem dm5(hr:mH K cn r f)(ha:RB Jn K cn E ta a)(hb:RB Jn K cn E tb b):RE Jn K cn E [] (tOp r ta tb) (aG f a b):=λAs H Z ρ σ F Q w=>by
 unfold aG at w
 refine ha As H Z ρ σ F _ ?_
 cases e:a ρ with
 |ok t=>
  rw[e]at w
  intro v H1 Z1 B p
  refine hb As H1 Z1 ρ σ (F.mo p.mo) _ ?_
  simp only[Res.bind]at w
  cases e2:b ρ with
  |ok u=>
   rw[e2]at w
   intro v2 H2 Z2 B2 p2
   exact hr E As H2 Z2 t u v v2 B B2 Q p2.zi (p.rep.same p2.same p2.zz) p2.rep (w.mo F (p.mo.trans p2.mo))
  |ex x=>rw[e2]at w;exact WpX.ev w p.mo.ev
  |no=>rw[e2]at w;exact w
 |ex x=>rw[e]at w;exact w
 |no=>rw[e]at w;exact w
def eZ(f:T->Res T)(a:Fr->Res T):Fr->Res T:=λρ=>(a ρ).bind f
def R1R(K:PySem.W.Frag)(cn:Str->Option Addr)(r:V->Hp->VK->Prop)(f:T->Res T):Prop:=
 ∀(E:XK)(As:List (List Addr))(H:Hp)(Z:Addr->Prop)(t:T)(x:V)(A:List Addr)(Q:VK),(∀a,Z a->H a≠none)->Rep K cn H Z t x A->WpE K cn E As H Z [] Q (f t)->r x H Q
theorem du7(hr:R1R K cn r f)(ha:RB Jn K cn E ta a):RE Jn K cn E [] (tUn r ta) (eZ f a):=λAs H Z ρ σ F Q w=>by
 unfold eZ at w
 refine ha As H Z ρ σ F _ ?_
 cases e:a ρ with
 |ok t=>
  rw[e]at w
  exact λv H1 Z1 B p=>hr E As H1 Z1 t v B Q p.zi p.rep (WpE.mo F w p.mo)
 |ex x=>rw[e]at w;exact w
 |no=>rw[e]at w;exact w
def oK(f g:T->T->Res T)(a b c:Fr->Res T):Fr->Res T:=λρ=>(a ρ).bind λx=>(b ρ).bind λy=>(f x y).bind λk=>match k with
 |.bl true=>(c ρ).bind λz=>g y z
 |.bl false=>.ok (.bl false)
 |_=>.no
theorem WpE.bl(w:WpE K cn E As H Z [] Q (.ok (.bl b)))(zi:∀a,Z a->H a≠none):Q (.bl b) H:=
 w (.bl b) H Z [] ⟨Same.refl _,λ_ h=>h,λ_ h=>.inl h,zi,by simp[Rep],List.nodup_nil,dR,dR⟩
theorem cz4(hr:mH K cn r f)(hr':mH K cn r' g)(ha:RB Jn K cn E ta a)(hb:RB Jn K cn E tb b)(hc:RB Jn K cn E tc c):RE Jn K cn E [] (aa9 r r' ta tb tc) (oK f g a b c):=λAs H Z ρ σ F Q w=>by
 unfold oK at w
 refine ha As H Z ρ σ F _ ?_
 cases e:a ρ with
 |ok t=>
  rw[e]at w
  intro v H1 Z1 B p
  refine hb As H1 Z1 ρ σ (F.mo p.mo) _ ?_
  simp only[Res.bind]at w
  cases e2:b ρ with
  |ok u=>
   rw[e2]at w
   intro v2 H2 Z2 B2 p2
   refine hr E As H2 Z2 t u v v2 B B2 _ p2.zi (p.rep.same p2.same p2.zz) p2.rep ?_
   simp only at w
   cases e3:f t u with
   |ok k=>
    rw[e3]at w
    intro v3 H3 Z3 B3 p3
    have m3:=(p.mo.trans p2.mo).trans p3.mo
    cases k with
    |bl k=>
     have q:=p3.rep
     simp only[Rep]at q
     obtain⟨rfl,rfl⟩:=q
     refine⟨k,rfl,?_⟩
     cases k with
     |true=>
      rw[if_pos rfl]
      refine hc As H3 Z3 ρ σ (F.mo m3) _ ?_
      simp only at w
      cases e4:c ρ with
      |ok z=>
       rw[e4]at w
       intro v4 H4 Z4 B4 p4
       exact hr' E As H4 Z4 u z v2 v4 B2 B4 Q p4.zi (p2.rep.same (p3.same.trans p4.same) (λa h=>p4.zz a (p3.zz a h))) p4.rep (WpE.mo F w (m3.trans p4.mo))
      |ex x=>rw[e4]at w;exact WpX.ev w m3.ev
      |no=>rw[e4]at w;exact w
     |false=>
      rw[if_neg (by decide)]
      exact WpE.bl (WpE.mo F w m3) p3.zi
    |_=>exact False.elim w
   |ex x=>rw[e3]at w;exact WpX.ev w (p.mo.trans p2.mo).ev
   |no=>rw[e3]at w;exact w
  |ex x=>rw[e2]at w;exact WpX.ev w p.mo.ev
  |no=>rw[e2]at w;exact w
 |ex x=>rw[e]at w;exact w
 |no=>rw[e]at w;exact w
def pV(a b:Fr->Res T):Fr->Res T:=λρ=>(a ρ).bind λx=>match x with
 |.bl true=>b ρ
 |.bl false=>.ok (.bl false)
 |_=>.no
def dl9(a b:Fr->Res T):Fr->Res T:=λρ=>(a ρ).bind λx=>match x with
 |.bl true=>.ok (.bl true)
 |.bl false=>b ρ
 |_=>.no
def au8(a:Fr->Res T):Fr->Res T:=λρ=>(a ρ).bind λx=>match x with
 |.bl b=>.ok (.bl (!b))
 |_=>.no
theorem cm7(ha:RB Jn K cn E ta a)(hb:RE Jn K cn E [] tb b):RE Jn K cn E [] (ci5 ta tb) (pV a b):=λAs H Z ρ σ F Q w=>by
 unfold pV at w
 refine ha As H Z ρ σ F _ ?_
 cases e:a ρ with
 |ok t=>
  rw[e]at w
  intro v H1 Z1 B p
  cases t with
  |bl k=>
   have q:=p.rep
   simp only[Rep]at q
   obtain⟨rfl,rfl⟩:=q
   refine⟨k,rfl,?_⟩
   cases k with
   |true=>rw[if_pos rfl];exact hb As H1 Z1 ρ σ (F.mo p.mo) Q (WpE.mo F w p.mo)
   |false=>rw[if_neg (by decide)];exact WpE.bl (WpE.mo F w p.mo) p.zi
  |_=>exact False.elim w
 |ex x=>rw[e]at w;exact w
 |no=>rw[e]at w;exact w
theorem co7(ha:RB Jn K cn E ta a):RE Jn K cn E [] (cd6 ta) (au8 a):=λAs H Z ρ σ F Q w=>by
 unfold au8 at w
 refine ha As H Z ρ σ F _ ?_
 cases e:a ρ with
 |ok t=>
  rw[e]at w
  intro v H1 Z1 B p
  cases t with
  |bl k=>
   have q:=p.rep
   simp only[Rep]at q
   obtain⟨rfl,rfl⟩:=q
   exact⟨k,rfl,WpE.bl (WpE.mo F w p.mo) p.zi⟩
  |_=>exact False.elim w
 |ex x=>rw[e]at w;exact w
 |no=>rw[e]at w;exact w
def dIf(c:Fr->Res Bool)(a b:Fr->Res T):Fr->Res T:=λρ=>(c ρ).bind λk=>if k=true then a ρ else b ρ
theorem dv5(hc:RT Jn K cn E tt c)(ha:RE Jn K cn E [] ta a)(hb:RE Jn K cn E [] tb b):RE Jn K cn E [] (tIf tt ta tb) (dIf c a b):=λAs H Z ρ σ F Q w=>by
 unfold dIf at w
 refine hc As H Z ρ σ F _ ?_
 cases e:c ρ with
 |ok k=>
  rw[e]at w
  intro H1 Z1 p
  simp only[Res.bind]at w
  split
  . next h=>rw[if_pos h]at w;exact ha As H1 Z1 ρ σ (F.mo p.mo) Q (WpE.mo F w p.mo)
  . next h=>rw[if_neg h]at w;exact hb As H1 Z1 ρ σ (F.mo p.mo) Q (WpE.mo F w p.mo)
 |ex x=>rw[e]at w;exact w
 |no=>rw[e]at w;exact w
def toB:T->Res Bool
 |.bl b=>.ok b
 |_=>.no
def bK(a:Fr->Res T):Fr->Res Bool:=λρ=>(a ρ).bind toB
theorem bp3(ha:RB Jn K cn E ta a):RT Jn K cn E (ax8 ta) (bK a):=λAs H Z ρ σ F Q w=>by
 unfold bK at w
 refine ha As H Z ρ σ F _ ?_
 cases e:a ρ with
 |ok t=>
  rw[e]at w
  intro v H1 Z1 B p
  cases t with
  |bl k=>
   have q:=p.rep
   simp only[Rep]at q
   obtain⟨rfl,rfl⟩:=q
   exact⟨k,rfl,w H1 Z1 p.mo.postT⟩
  |_=>exact False.elim w
 |ex x=>rw[e]at w;exact w
 |no=>rw[e]at w;exact w
def tW:T->Res Bool
 |.non=>.ok false
 |.bl b=>.ok b
 |.int i=>.ok (i !=0)
 |.str x=>if x.length<=sizeLine then .ok ((x.length:Int) !=0)else .no
 |.lst _ xs=>.ok (!xs.isEmpty)
 |.tup xs=>.ok (!xs.isEmpty)
 |_=>.no
def kQ(a:Fr->Res T):Fr->Res Bool:=λρ=>(a ρ).bind tW
theorem Reps.isEmpty(r:Reps K cn H Z ts vs A):vs.isEmpty=ts.isEmpty:=by
 have h:=Reps.length ts r
 cases ts<;>cases vs<;>simp_all
theorem cc7(r:Rep K cn H Z t v B)(h:tW t=.ok k):bw0 K v H k:=by
 cases t with
 |non=>simp only[Rep]at r;obtain⟨rfl,_⟩:=r;cases h;rfl
 |bl b=>simp only[Rep]at r;obtain⟨rfl,_⟩:=r;cases h;rfl
 |int b=>simp only[Rep]at r;obtain⟨rfl,_⟩:=r;cases h;rfl
 |str b=>
  simp only[Rep]at r
  obtain⟨rfl,_⟩:=r
  simp only[tW]at h
  split at h
  . cases h;exact⟨by assumption,rfl⟩
  . cases h
 |lst o xs=>
  cases h
  cases o with
  |true=>
   simp only[Rep]at r
   obtain⟨a,vs,B,rfl,rfl,e,r⟩:=r
   exact .inl ⟨vs,SqL.of e,by rw[r.isEmpty]⟩
  |false=>
   simp only[Rep]at r
   obtain⟨a,vs,rfl,rfl,e,r⟩:=r
   exact .inl ⟨vs,e.sq,by rw[r.isEmpty]⟩
 |tup xs=>
  cases h
  simp only[Rep]at r
  obtain⟨a,vs,rfl,e,r⟩:=r
  exact .inr (.inl ⟨vs,e,by rw[r.isEmpty]⟩)
 |ty _=>cases h
 |ins _ _ _ _=>cases h
theorem bx8(h:tW t=.ex x):False:=by
 cases t<;>simp only[tW]at h<;>first|cases h|(split at h<;>cases h)
theorem ds4(ha:RB Jn K cn E ta a):RT Jn K cn E (λσ H Q=>ta σ H λx H'=>∃k,bw0 K x H' k/\Q k H') (kQ a):=λAs H Z ρ σ F Q w=>by
 unfold kQ at w
 refine ha As H Z ρ σ F _ ?_
 cases e:a ρ with
 |ok t=>
  rw[e]at w
  intro v H1 Z1 B p
  simp only[Res.bind]at w
  cases e2:tW t with
  |ok k=>rw[e2]at w;exact⟨k,cc7 p.rep e2,w H1 Z1 p.mo.postT⟩
  |ex x=>exact(bx8 e2).elim
  |no=>rw[e2]at w;exact w.elim
 |ex x=>rw[e]at w;exact w
 |no=>rw[e]at w;exact w
def kR(c:Fr->Res Bool):Fr->Res Bool:=λρ=>(c ρ).bind λk=>.ok (!k)
def tV(c d:Fr->Res Bool):Fr->Res Bool:=λρ=>(c ρ).bind λk=>if k=true then d ρ else .ok false
def zL(c d:Fr->Res Bool):Fr->Res Bool:=λρ=>(c ρ).bind λk=>if k=true then .ok true else d ρ
theorem db2(hc:RT Jn K cn E tt c):RT Jn K cn E (di3 tt) (kR c):=λAs H Z ρ σ F Q w=>by
 unfold kR at w
 refine hc As H Z ρ σ F _ ?_
 cases e:c ρ with
 |ok k=>rw[e]at w;exact λH1 Z1 p=>w H1 Z1 p
 |ex x=>rw[e]at w;exact w
 |no=>rw[e]at w;exact w
theorem ds0(hc:RT Jn K cn E tt c)(hd:RT Jn K cn E uu d):RT Jn K cn E (dy3 tt uu) (tV c d):=λAs H Z ρ σ F Q w=>by
 unfold tV at w
 refine hc As H Z ρ σ F _ ?_
 cases e:c ρ with
 |ok k=>
  rw[e]at w
  intro H1 Z1 p
  cases k with
  |true=>rw[if_pos rfl];exact hd As H1 Z1 ρ σ (F.mo p.mo) Q (WpT.mo w p.mo)
  |false=>rw[if_neg (by decide)];exact w H1 Z1 p
 |ex x=>rw[e]at w;exact w
 |no=>rw[e]at w;exact w
theorem dh8(hc:RT Jn K cn E tt c)(hd:RT Jn K cn E uu d):RT Jn K cn E (tOr tt uu) (zL c d):=λAs H Z ρ σ F Q w=>by
 unfold zL at w
 refine hc As H Z ρ σ F _ ?_
 cases e:c ρ with
 |ok k=>
  rw[e]at w
  intro H1 Z1 p
  cases k with
  |false=>rw[if_neg (by decide)];exact hd As H1 Z1 ρ σ (F.mo p.mo) Q (WpT.mo w p.mo)
  |true=>rw[if_pos rfl];exact w H1 Z1 p
 |ex x=>rw[e]at w;exact w
 |no=>rw[e]at w;exact w
end
end TL
namespace TL
open PySem PySem.Spec PyProof.Rows L2
section
variable {Jn : gN} {K : PySem.W.Frag} {cn : Str → Option Addr} {E : XK}
structure ds5 (K:PySem.W.Frag) (cn:Str->Option Addr) (As:List (List Addr)) (H:Hp) (Z:Addr->Prop) (mv:List Nat) (H':Hp) (Z':Addr->Prop) (ts:List T) (vs:List V) (B:List Addr):Prop where
 mo:Mo H Z H' Z'
 rep:Reps K cn H' Z' ts vs B
 nd:B.Nodup
 bz:∀b∈B,¬Z' b
 bn:∀b∈B,H b=none\/∃i∈mv,b∈As.getD i []
def WpA(K:PySem.W.Frag)(cn:Str->Option Addr)(E:XK)(As:List (List Addr))(H:Hp)(Z:Addr->Prop)(mv:List Nat)(Q:List V->Hp->Prop):Res (List T)->Prop
 |.ok ts=>∀vs H' Z' B,ds5 K cn As H Z mv H' Z' ts vs B->Q vs H'
 |.ex x=>WpX K cn E As H Z x
 |.no=>False
def dt9(K:PySem.W.Frag)(cn:Str->Option Addr)(E:XK)(As:List (List Addr))(H:Hp)(Z:Addr->Prop)(Q:List V->Hp->Prop):Res (List T)->Prop
 |.ok ts=>∀vs H' Z' B,Mo H Z H' Z'->Reps K cn H' Z' ts vs B->Q vs H'
 |.ex x=>WpX K cn E As H Z x
 |.no=>False
def RA(Jn:gN)(K:PySem.W.Frag)(cn:Str->Option Addr)(E:XK)(mv:List Nat)(ta:TA)(d:Fr->Res (List T)):Prop:=∀As H Z ρ σ,Frm Jn K cn H Z ρ σ As->∀Q,WpA K cn E As H Z mv Q (d ρ)->ta σ H Q
def uL(Jn:gN)(K:PySem.W.Frag)(cn:Str->Option Addr)(E:XK)(ta:TA)(d:Fr->Res (List T)):Prop:=∀As H Z ρ σ,Frm Jn K cn H Z ρ σ As->∀Q,dt9 K cn E As H Z Q (d ρ)->ta σ H Q
def aI:Fr->Res (List T):=λ_=>.ok []
def aD(a:Fr->Res T)(r:Fr->Res (List T)):Fr->Res (List T):=λρ=>(a ρ).bind λt=>(r ρ).bind λts=>.ok (t::ts)
theorem dh4:RA Jn K cn E [] ai5 aI:=λAs H Z ρ σ F Q w=>w [] H Z [] ⟨F.mo0,Reps.nil,List.nodup_nil,dR,dR⟩
theorem ct7:uL Jn K cn E ai5 aI:=λAs H Z ρ σ F Q w=>w [] H Z [] F.mo0 Reps.nil
theorem cx4{As:List (List Addr)}{a:Addr}:∀{i j:Nat},As.flatten.Nodup->a∈As.getD i []->a∈As.getD j []->i=j:=by
 induction As with
 |nil=>intro i j _ h;simp at h
 |cons A As ih=>
  intro i j nd h1 h2
  rw[List.flatten_cons,List.nodup_append]at nd
  cases i with
  |zero=>
   cases j with
   |zero=>rfl
   |succ j=>exact absurd rfl (nd.2.2 a (by simpa using h1) a (aV (by simpa using h2)))
  |succ i=>
   cases j with
   |zero=>exact absurd rfl (nd.2.2 a (by simpa using h2) a (aV (by simpa using h1)))
   |succ j=>exact congrArg (· +1) (ih (i:=i) (j:=j) nd.2.1 (by simpa using h1) (by simpa using h2))
theorem cp7{mv mw:List Nat}{te:TE}{tr:TA}{a:Fr->Res T}{r:Fr->Res (List T)}(ha:RE Jn K cn E mv te a)(hr:RA Jn K cn E mw tr r)(hd:(mv.all λi=>!mw.contains i)=true:=by rfl):RA Jn K cn E (mv++mw) (yQ te tr) (aD a r):=λAs H Z ρ σ F Q w=>by
 unfold aD at w
 refine ha As H Z ρ σ F _ ?_
 cases e:a ρ with
 |ok t=>
  rw[e]at w
  intro v H1 Z1 B p
  refine hr As H1 Z1 ρ σ (F.mo p.mo) _ ?_
  simp only[Res.bind]at w
  cases e2:r ρ with
  |ok ts=>
   rw[e2]at w
   intro vs H2 Z2 B2 p2
   refine w (v::vs) H2 Z2 (B++B2) ⟨p.mo.trans p2.mo,?_,?_,?_,?_⟩
   . simp only[Reps]
     exact⟨v,vs,B,B2,rfl,rfl,p.rep.same p2.mo.same p2.mo.zz,p2.rep⟩
   . rw[List.nodup_append]
     refine⟨p.nd,p2.nd,λb hb c hc z=>?_⟩
     subst z
     obtain⟨o,ho,_⟩:=p.rep.dom t b hb
     rcases p2.bn b hc with q|⟨j,hj,q⟩
     . rw[ho]at q;cases q
     . rcases p.bn b hb with z|⟨i,hi,z⟩
       . obtain⟨o',ho',_⟩:=F.sl.dom b (aV q)
         rw[ho']at z;cases z
       . have eij:=cx4 F.nd z q
         subst eij
         have hh:=List.all_eq_true.mp hd i hi
         simp at hh
         exact hh hj
   . intro b hb
     rcases List.mem_append.mp hb with hb|hb
     . intro z
       rcases p2.mo.zn b z with z|z
       . exact p.bz b hb z
       . obtain⟨o,ho,_⟩:=p.rep.dom t b hb
         rw[ho]at z;cases z
     . exact p2.bz b hb
   . intro b hb
     rcases List.mem_append.mp hb with hb|hb
     . exact(p.bn b hb).imp_right λ⟨i,hi,z⟩=>⟨i,List.mem_append_left _ hi,z⟩
     . rcases p2.bn b hb with z|⟨i,hi,z⟩
       . exact .inl (p.same.free z)
       . exact .inr ⟨i,List.mem_append_right _ hi,z⟩
  |ex x=>rw[e2]at w;exact WpX.ev w p.mo.ev
  |no=>rw[e2]at w;exact w
 |ex x=>rw[e]at w;exact w
 |no=>rw[e]at w;exact w
theorem cy1(ha:RB Jn K cn E te a)(hr:uL Jn K cn E tr r):uL Jn K cn E (yQ te tr) (aD a r):=λAs H Z ρ σ F Q w=>by
 unfold aD at w
 refine ha As H Z ρ σ F _ ?_
 cases e:a ρ with
 |ok t=>
  rw[e]at w
  intro v H1 Z1 B p
  refine hr As H1 Z1 ρ σ (F.mo p.mo) _ ?_
  simp only[Res.bind]at w
  cases e2:r ρ with
  |ok ts=>
   rw[e2]at w
   intro vs H2 Z2 B2 m2 r2
   refine w (v::vs) H2 Z2 (B++B2) (p.mo.trans m2) ?_
   simp only[Reps]
   exact⟨v,vs,B,B2,rfl,rfl,p.rep.same m2.same m2.zz,r2⟩
  |ex x=>rw[e2]at w;exact WpX.ev w p.mo.ev
  |no=>rw[e2]at w;exact w
 |ex x=>rw[e]at w;exact w
 |no=>rw[e]at w;exact w
def eO(r:Fr->Res (List T)):Fr->Res T:=λρ=>(r ρ).bind λts=>if ts.length<=sizeLine then .ok (.lst true ts)else .no
def cN(r:Fr->Res (List T)):Fr->Res T:=λρ=>(r ρ).bind λts=>if ts.length<=sizeLine then .ok (.tup ts)else .no
theorem Mo.new(o:HO)(hp:H p=none)(zi:∀a,Z a->H a≠none):Mo H Z (L2.upd H p o) Z:=
 ⟨bv0 hp o,λ_ h=>h,λ_ h=>.inl h,λa h=>by
  by_cases e:a=p
  . subst e;rw[eD];exact(λz=>nomatch z)
  . rw[cH e];exact zi a h⟩
theorem dx0(h:RA Jn K cn E mv ta r):RE Jn K cn E mv (dm4 ta) (eO r):=λAs H Z ρ σ F Q w=>by
 unfold eO at w
 refine h As H Z ρ σ F _ ?_
 cases e:r ρ with
 |ok ts=>
  rw[e]at w
  intro vs H1 Z1 B p
  simp only[Res.bind]at w
  split at w
  . next hl=>
    refine⟨by rw[Reps.length ts p.rep];exact hl,λq hq=>?_⟩
    have hZ:¬Z1 q:=λz=>p.mo.zi q z hq
    have m:=Mo.new (.lst vs) hq p.mo.zi
    refine w (.ref q) _ Z1 (q::B) ⟨(p.mo.trans m).same,(p.mo.trans m).zz,(p.mo.trans m).zn,m.zi,?_,?_,?_,?_⟩
    . simp only[Rep]
      exact⟨q,vs,B,rfl,rfl,eD,p.rep.same m.same m.zz⟩
    . refine List.nodup_cons.mpr ⟨λhb=>?_,p.nd⟩
      obtain⟨o,ho,_⟩:=Reps.dom ts p.rep q hb
      rw[ho]at hq;cases hq
    . intro b hb
      rcases List.mem_cons.mp hb with rfl|hb
      . exact hZ
      . exact p.bz b hb
    . intro b hb
      rcases List.mem_cons.mp hb with rfl|hb
      . exact .inl (p.mo.same.free hq)
      . exact p.bn b hb
  . exact w.elim
 |ex x=>rw[e]at w;exact w
 |no=>rw[e]at w;exact w
theorem dh3(h:RA Jn K cn E mv ta r):RE Jn K cn E mv (dx3 ta) (cN r):=λAs H Z ρ σ F Q w=>by
 unfold cN at w
 refine h As H Z ρ σ F _ ?_
 cases e:r ρ with
 |ok ts=>
  rw[e]at w
  intro vs H1 Z1 B p
  simp only[Res.bind]at w
  split at w
  . next hl=>
    refine⟨by rw[Reps.length ts p.rep];exact hl,λq hq=>?_⟩
    have m:=Mo.new (.tup vs) hq p.mo.zi
    refine w (.ref q) _ Z1 B ⟨(p.mo.trans m).same,(p.mo.trans m).zz,(p.mo.trans m).zn,m.zi,?_,p.nd,p.bz,p.bn⟩
    simp only[Rep]
    exact⟨q,vs,rfl,SqT.of eD,p.rep.same m.same m.zz⟩
  . exact w.elim
 |ex x=>rw[e]at w;exact w
 |no=>rw[e]at w;exact w
def wP(K:PySem.W.Frag)(cn:Str->Option Addr)(r:List V->Hp->VK->Prop)(f:List T->Res T):Prop:=
 ∀(E:XK)(As:List (List Addr))(H:Hp)(Z:Addr->Prop)(ts:List T)(xs:List V)(A:List Addr)(Q:VK),(∀a,Z a->H a≠none)->Reps K cn H Z ts xs A->WpE K cn E As H Z [] Q (f ts)->r xs H Q
def bZ(f:List T->Res T)(r:Fr->Res (List T)):Fr->Res T:=λρ=>(r ρ).bind f
theorem de5(hr:wP K cn r f)(ha:uL Jn K cn E ta a):RE Jn K cn E [] (tCB r ta) (bZ f a):=λAs H Z ρ σ F Q w=>by
 unfold bZ at w
 refine ha As H Z ρ σ F _ ?_
 cases e:a ρ with
 |ok ts=>rw[e]at w;exact λvs H1 Z1 B m p=>hr E As H1 Z1 ts vs B Q m.zi p (WpE.mo F w m)
 |ex x=>rw[e]at w;exact w
 |no=>rw[e]at w;exact w
def RMR(K:PySem.W.Frag)(cn:Str->Option Addr)(ty:String)(r:V->List V->Hp->VK->Prop)(f:T->List T->Res T):Prop:=
 ∀(E:XK)(As:List (List Addr))(H:Hp)(Z:Addr->Prop)(t:T)(ts:List T)(x:V)(xs:List V)(A B:List Addr)(Q:VK),(∀a,Z a->H a≠none)->Rep K cn H Z t x A->Reps K cn H Z ts xs B->WpE K cn E As H Z [] Q (f t ts)->r x xs H Q
def dBM(ok:T->Bool)(f:T->List T->Res T)(o:Fr->Res T)(r:Fr->Res (List T)):Fr->Res T:=λρ=>(o ρ).bind λt=>if ok t=true then(r ρ).bind λts=>f t ts else .no
def bf1:T->Bool
 |.str _=>true
 |_=>false
def ah1:T->Bool
 |.lst _ _=>true
 |_=>false
theorem by8(h:bf1 t=true)(r:Rep K cn H Z t v B):tyV K "str" v H:=by
 cases t with
 |str x=>simp only[Rep]at r;obtain⟨rfl,_⟩:=r;rfl
 |_=>cases h
theorem Rep.lstSq(r:Rep K cn H Z (.lst o ts) v B):∃a vs C,v=.ref a/\SqS K H a vs/\Reps K cn H Z ts vs C/\C.Sublist B:=by
 cases o with
 |true=>
  simp only[Rep]at r
  obtain⟨a,vs,C,rfl,rfl,e,r⟩:=r
  exact⟨a,vs,C,rfl,.inl (.inl e),r,List.sublist_cons_self _ _⟩
 |false=>
  simp only[Rep]at r
  obtain⟨a,vs,rfl,rfl,e,r⟩:=r
  exact⟨a,vs,[],rfl,e.sqS,r,List.Sublist.slnil⟩
theorem bu8(h:ah1 t=true)(r:Rep K cn H Z t v B):tyV K "list" v H:=by
 cases t with
 |lst o xs=>obtain⟨a,vs,C,rfl,s,_⟩:=r.lstSq;exact .inl ⟨rfl,vs,s.sq⟩
 |_=>cases h
theorem ch5(hty:∀{H:Hp}{Z:Addr->Prop}{t:T}{v:V}{B:List Addr},ok t=true->Rep K cn H Z t v B->tyV K ty v H)(hr:RMR K cn ty r f)
 (ho:RB Jn K cn E to o)(ha:uL Jn K cn E ta a):RE Jn K cn E [] (tBM K ty r to ta) (dBM ok f o a):=λAs H Z ρ σ F Q w=>by
 unfold dBM at w
 refine ho As H Z ρ σ F _ ?_
 cases e:o ρ with
 |ok t=>
  rw[e]at w
  intro v H1 Z1 B p
  simp only[Res.bind]at w
  split at w
  . next hok=>
    refine⟨hty hok p.rep,ha As H1 Z1 ρ σ (F.mo p.mo) _ ?_⟩
    cases e2:a ρ with
    |ok ts=>rw[e2]at w;exact λvs H2 Z2 B2 m r2=>hr E As H2 Z2 t ts v vs B B2 Q m.zi (p.rep.same m.same m.zz) r2 (WpE.mo F w (p.mo.trans m))
    |ex x=>rw[e2]at w;exact WpX.ev w p.mo.ev
    |no=>rw[e2]at w;exact w
  . exact w.elim
 |ex x=>rw[e]at w;exact w
 |no=>rw[e]at w;exact w
def bG(K:PySem.W.Frag)(cn:Str->Option Addr)(n:Nat)(F:List T->Res T):Sp:=λvs H Q E=>vs.length=n/\∃ts Z,(∀a,Z a->H a≠none)/\Reps K cn H Z ts vs []/\WpE K cn E [] H Z [] Q (F ts)
def bJ(n:Nat)(F:List T->Res T)(r:Fr->Res (List T)):Fr->Res T:=λρ=>(r ρ).bind λts=>if ts.length=n then match F (frzs ts)with
 |.ok t=>if(dX t||bA ts)=true then .ok t else .no
 |_=>.no else .no
theorem dt4(ha:uL Jn K cn E ta a):RE Jn K cn E [] (cs3 (bG K cn n G) ta) (bJ n G a):=λAs H Z ρ σ F Q w=>by
 unfold bJ at w
 refine ha As H Z ρ σ F _ ?_
 cases e:a ρ with
 |ok ts=>
  rw[e]at w
  intro vs H1 Z1 B m r1
  simp only[Res.bind]at w
  split at w
  . next hn=>
    refine⟨by rw[Reps.length ts r1,hn],frzs ts,(λa=>Z1 a\/a∈B),λa h=>?_,Reps.frz ts r1 (λa h=>.inl h) (λa h=>.inr h),?_⟩
    . rcases h with h|h
      . exact m.zi a h
      . obtain⟨o,q,_⟩:=Reps.dom ts r1 a h
        rw[q]
        exact(λz=>nomatch z)
    cases e2:G (frzs ts)with
    |ok t=>
     rw[e2]at w
     intro v H2 Z2 C p
     simp only at w
     split at w
     . next hc=>
       rw[Bool.or_eq_true]at hc
       have bn:∀b∈C,H1 b=none:=λb hb=>(p.bn b hb).resolve_right (λ⟨i,hi,_⟩=>by cases hi)
       by_cases hcl:dX t=true
       . refine w v H2 Z1 C ⟨m.same.trans p.same,m.zz,λa h=>m.zn a h,λa h=>?_,Rep.any t hcl p.rep,p.nd,λb hb z=>?_,λb hb=>.inl (m.same.free (bn b hb))⟩
         . intro q
           exact m.zi a h (p.same.free q)
         . exact m.zi b z (bn b hb)
       . have hno:=hc.resolve_left hcl
         have hB:=Reps.bare ts hno r1
         subst hB
         refine w v H2 Z2 C ⟨m.same.trans p.same,λa h=>p.zz a (.inl (m.zz a h)),λa h=>?_,p.zi,p.rep,p.nd,p.bz,λb hb=>.inl (m.same.free (bn b hb))⟩
         rcases p.zn a h with(h|h)|h
         . exact m.zn a h
         . cases h
         . exact .inr (m.same.free h)
     . exact w.elim
    |ex x=>rw[e2]at w;exact w.elim
    |no=>rw[e2]at w;exact w.elim
  . exact w.elim
 |ex x=>rw[e]at w;exact w
 |no=>rw[e]at w;exact w
def WpO(K:PySem.W.Frag)(cn:Str->Option Addr)(E:XK)(As:List (List Addr))(H:Hp)(Z:Addr->Prop)(Q:Option Int->Hp->Prop):Res (Option Int)->Prop
 |.ok o=>∀H' Z',Mo H Z H' Z'->Q o H'
 |.ex x=>WpX K cn E As H Z x
 |.no=>False
def RO(Jn:gN)(K:PySem.W.Frag)(cn:Str->Option Addr)(E:XK)(t:TO)(d:Fr->Res (Option Int)):Prop:=∀As H Z ρ σ,Frm Jn K cn H Z ρ σ As->∀Q,WpO K cn E As H Z Q (d ρ)->t σ H Q
def iL:Fr->Res (Option Int):=λ_=>.ok none
def toI:T->Res (Option Int)
 |.int i=>.ok (some i)
 |_=>.no
def iS(a:Fr->Res T):Fr->Res (Option Int):=λρ=>(a ρ).bind toI
theorem ce7:RO Jn K cn E bl4 iL:=λAs H Z ρ σ F Q w=>w H Z F.mo0
theorem cv9(ha:RB Jn K cn E te a):RO Jn K cn E (cs5 te) (iS a):=λAs H Z ρ σ F Q w=>by
 unfold iS at w
 refine ha As H Z ρ σ F _ ?_
 cases e:a ρ with
 |ok t=>
  rw[e]at w
  intro v H1 Z1 B p
  cases t with
  |int i=>
   have q:=p.rep
   simp only[Rep]at q
   obtain⟨rfl,rfl⟩:=q
   exact⟨i,rfl,w H1 Z1 p.mo⟩
  |_=>exact False.elim w
 |ex x=>rw[e]at w;exact w
 |no=>rw[e]at w;exact w
def RSR(K:PySem.W.Frag)(cn:Str->Option Addr)(r:V->Option Int->Option Int->Hp->VK->Prop)(f:T->Option Int->Option Int->Res T):Prop:=
 ∀(E:XK)(As:List (List Addr))(H:Hp)(Z:Addr->Prop)(t:T)(x:V)(A:List Addr)(lo hi:Option Int)(Q:VK),(∀a,Z a->H a≠none)->Rep K cn H Z t x A->WpE K cn E As H Z [] Q (f t lo hi)->r x lo hi H Q
def sU(f:T->Option Int->Option Int->Res T)(a:Fr->Res T)(l h:Fr->Res (Option Int)):Fr->Res T:=λρ=>(a ρ).bind λt=>(l ρ).bind λlo=>(h ρ).bind λhi=>f t lo hi
theorem dm6(hr:RSR K cn r f)(ha:RB Jn K cn E te a)(hl:RO Jn K cn E tl l)(hh:RO Jn K cn E th h):RE Jn K cn E [] (tSl r te tl th) (sU f a l h):=λAs H Z ρ σ F Q w=>by
 unfold sU at w
 refine ha As H Z ρ σ F _ ?_
 cases e:a ρ with
 |ok t=>
  rw[e]at w
  intro v H1 Z1 B p
  refine hl As H1 Z1 ρ σ (F.mo p.mo) _ ?_
  simp only[Res.bind]at w
  cases e2:l ρ with
  |ok lo=>
   rw[e2]at w
   intro H2 Z2 m2
   have m12:=p.mo.trans m2
   refine hh As H2 Z2 ρ σ (F.mo m12) _ ?_
   simp only at w
   cases e3:h ρ with
   |ok hi=>
    rw[e3]at w
    intro H3 Z3 m3
    exact hr E As H3 Z3 t v B lo hi Q m3.zi (p.rep.same (m2.same.trans m3.same) λa h=>m3.zz a (m2.zz a h)) (WpE.mo F w (m12.trans m3))
   |ex x=>rw[e3]at w;exact WpX.ev w m12.ev
   |no=>rw[e3]at w;exact w
  |ex x=>rw[e2]at w;exact WpX.ev w p.mo.ev
  |no=>rw[e2]at w;exact w
 |ex x=>rw[e]at w;exact w
 |no=>rw[e]at w;exact w
end
end TL
namespace TL
open PySem PySem.Spec PyProof.Rows L2
section
variable {Jn : gN} {K : PySem.W.Frag} {cn : Str → Option Addr} {E : XK}
def SqF(fz k:Bool)(K:PySem.W.Frag)(H:Hp)(Z:Addr->Prop)(l:Addr)(xs:List V):Prop:=cond k (SqT K H l xs) (if fz=true then FzL K H Z l xs else SqL K H l xs)
def iT(ts us:List T):List T:=List.zipWith (λt u=>T.tup [t,u]) ts us
def yS(ts:List T):List T:=List.zipWith (λi t=>T.tup [.int (i:Nat),t]) (List.range ts.length) ts
def Src(K:PySem.W.Frag)(cn:Str->Option Addr)(fz:Bool)(H:Hp)(Z:Addr->Prop)(J:It)(ts:List T):Prop:=
 (∃a vs,J=Itl K a/\(if fz=true then FzL K H Z a vs else SqL K H a vs)/\Reps K cn H Z ts vs [])\/
 (∃a vs,J=Itt K a/\SqT K H a vs/\Reps K cn H Z ts vs [])\/
 (∃(lo:Int)(n:Nat),J=Itr lo n/\ts=(List.range n).map λi=>T.int (lo+(i:Nat)))\/
 (∃z:Str,J=Its z/\ts=z.cps.toList.map λc=>T.str ⟨#[c]⟩)\/
 (∃k1 k2 l1 l2 vs ws us us',J=Itz K k1 k2 l1 l2/\SqF fz k1 K H Z l1 vs/\SqF fz k2 K H Z l2 ws/\Reps K cn H Z us vs []/\Reps K cn H Z us' ws []/\ts=iT us us')\/
 (∃l vs us,J=Ite K l/\SqF fz false K H Z l vs/\Reps K cn H Z us vs []/\ts=yS us)
theorem af4(h:if fz=true then FzL K H Z a vs else SqL K H a vs):SqL K H a vs:=by
 cases fz with
 |true=>rw[if_pos rfl]at h;exact h.sq
 |false=>rw[if_neg (by decide)]at h;exact h
theorem SqF.sq(h:SqF fz k K H Z l xs):wN k K H l xs:=by
 cases k with
 |true=>exact h
 |false=>exact af4 h
theorem ad7:∀{us us':List T}{i:Nat},(iT us us')[i]?=some t->∃t1 t2,us[i]?=some t1/\us'[i]?=some t2/\t=.tup [t1,t2]:=by
 intro us us' i h
 unfold iT at h
 rw[List.getElem?_zipWith]at h
 cases h1:us[i]? with
 |none=>rw[h1]at h;cases h
 |some t1=>
  cases h2:us'[i]? with
  |none=>rw[h1,h2]at h;cases h
  |some t2=>
   rw[h1,h2]at h
   exact⟨t1,t2,rfl,rfl,(Option.some.inj h).symm⟩
theorem wW(us us':List T):(iT us us').length=min us.length us'.length:=by simp[iT]
theorem af6(us:List T):(yS us).length=us.length:=by simp[yS]
theorem aa7{t:T}{us:List T}{i:Nat}(h:(yS us)[i]?=some t):∃t2,us[i]?=some t2/\t=.tup [.int i,t2]:=by
 unfold yS at h
 rw[List.getElem?_zipWith]at h
 cases h2:us[i]? with
 |none=>rw[h2]at h;cases q:(List.range us.length)[i]?<;>rw[q]at h<;>cases h
 |some t2=>
  have hi:=(List.getElem?_eq_some_iff.mp h2).1
  rw[h2,List.getElem?_range hi]at h
  exact⟨t2,rfl,(Option.some.inj h).symm⟩
theorem bt1(ex:x=.ref p)(hp:H p=some (.tup [v1,v2]))(h1:Rep K cn H Z t1 v1 [])(h2:Rep K cn H Z t2 v2 []):Rep K cn H Z (.tup [t1,t2]) x []:=by
 simp only[Rep]
 refine⟨p,[v1,v2],ex,SqT.of hp,?_⟩
 simp only[Reps]
 exact⟨v1,[v2],[],[],rfl,rfl,h1,v2,[],[],[],rfl,rfl,h2,rfl,rfl⟩
theorem Src.turn{fz:Bool}{H:Hp}{Z:Addr->Prop}{J:It}{ts:List T}{i:Nat}{t:T}(h:Src K cn fz H Z J ts)(zi:∀a,Z a->H a≠none)(e:ts[i]?=some t):J.go i H/\∀x H',J.yld i H x H'->Mo H Z H' Z/\Rep K cn H' Z t x []:=by
 have m0:Mo H Z H Z:=⟨Same.refl _,λ_ h=>h,λ_ h=>.inl h,zi⟩
 rcases h with⟨a,vs,rfl,hs,r⟩|⟨a,vs,rfl,hs,r⟩|⟨lo,n,rfl,rfl⟩|⟨z,rfl,rfl⟩|⟨k1,k2,l1,l2,vs,ws,us,us',rfl,q1,q2,r1,r2,rfl⟩|⟨l,vs,us,rfl,q1,r1,rfl⟩
 . obtain⟨v,B,ev,rv,hB,_⟩:=Reps.get ts r e
   have hs:=af4 hs
   have eB:B=[]:=List.eq_nil_iff_forall_not_mem.mpr λb hb=>by cases hB b hb
   subst eB
   refine⟨⟨vs,v,hs,ev⟩,λx H' ⟨e1,e2⟩=>⟨e1▸m0,?_⟩⟩
   subst e1
   have:=e2 vs hs
   rw[ev]at this
   cases this
   exact rv
 . obtain⟨v,B,ev,rv,hB,_⟩:=Reps.get ts r e
   have eB:B=[]:=List.eq_nil_iff_forall_not_mem.mpr λb hb=>by cases hB b hb
   subst eB
   refine⟨⟨vs,v,hs,ev⟩,λx H' ⟨e1,e2⟩=>⟨e1▸m0,?_⟩⟩
   subst e1
   have:=e2 vs hs
   rw[ev]at this
   cases this
   exact rv
 . rw[List.getElem?_map]at e
   cases q:(List.range n)[i]? with
   |none=>rw[q]at e;cases e
   |some j=>
    rw[q]at e
    obtain⟨h1,h2⟩:=List.getElem?_eq_some_iff.mp q
    simp at h1 h2
    subst h2
    cases e
    refine⟨h1,λx H' ⟨e1,e2⟩=>⟨e1▸m0,?_⟩⟩
    subst e1
    subst e2
    simp[Rep]
 . rw[List.getElem?_map]at e
   cases q:z.cps.toList[i]? with
   |none=>rw[q]at e;cases e
   |some c=>
    rw[q]at e
    cases e
    have h1:=(List.getElem?_eq_some_iff.mp q).1
    refine⟨show i<z.cps.size by simpa using h1,λx H' ⟨e1,c',e2,e3⟩=>⟨e1▸m0,?_⟩⟩
    subst e1
    rw[<-Array.getElem?_toList]at e2
    rw[q]at e2
    cases e2
    subst e3
    simp[Rep]
 . obtain⟨t1,t2,e1,e2,rfl⟩:=ad7 e
   obtain⟨v1,B1,ev1,rv1,hB1,_⟩:=Reps.get us r1 e1
   obtain⟨v2,B2,ev2,rv2,hB2,_⟩:=Reps.get us' r2 e2
   have n1:B1=[]:=List.eq_nil_iff_forall_not_mem.mpr λb hb=>by cases hB1 b hb
   have n2:B2=[]:=List.eq_nil_iff_forall_not_mem.mpr λb hb=>by cases hB2 b hb
   subst n1 n2
   refine⟨⟨vs,ws,v1,v2,q1.sq,q2.sq,ev1,ev2⟩,λx H' ⟨p,hp,ex,h⟩=>?_⟩
   obtain⟨y1,y2,f1,f2,rfl⟩:=h vs ws q1.sq q2.sq
   rw[ev1]at f1
   rw[ev2]at f2
   cases f1
   cases f2
   have m:=Mo.new (.tup [v1,v2]) hp zi
   exact⟨m,bt1 ex eD (rv1.same m.same m.zz) (rv2.same m.same m.zz)⟩
 . obtain⟨t2,e2,rfl⟩:=aa7 e
   obtain⟨v2,B2,ev2,rv2,hB2,_⟩:=Reps.get us r1 e2
   have n2:B2=[]:=List.eq_nil_iff_forall_not_mem.mpr λb hb=>by cases hB2 b hb
   subst n2
   refine⟨⟨vs,v2,q1.sq,ev2⟩,λx H' ⟨p,hp,ex,h⟩=>?_⟩
   obtain⟨y2,f2,rfl⟩:=h vs q1.sq
   rw[ev2]at f2
   cases f2
   have m:=Mo.new (.tup [.int i,v2]) hp zi
   exact⟨m,bt1 ex eD (by simp[Rep]) (rv2.same m.same m.zz)⟩
theorem Src.stop(h:Src K cn fz H Z J ts)(e:ts.length<=i):J.stop i H:=by
 rcases h with⟨a,vs,rfl,hs,r⟩|⟨a,vs,rfl,hs,r⟩|⟨lo,n,rfl,rfl⟩|⟨z,rfl,rfl⟩|⟨k1,k2,l1,l2,vs,ws,us,us',rfl,q1,q2,r1,r2,rfl⟩|⟨l,vs,us,rfl,q1,r1,rfl⟩
 . exact⟨vs,af4 hs,by rw[Reps.length ts r];exact e⟩
 . exact⟨vs,hs,by rw[Reps.length ts r];exact e⟩
 . show n<=i
   simpa using e
 . have:z.cps.size<=i:=by simpa using e
   exact this
 . refine⟨vs,ws,q1.sq,q2.sq,?_⟩
   rw[Reps.length us r1,Reps.length us' r2]
   rw[wW]at e
   omega
 . refine⟨vs,q1.sq,?_⟩
   rw[Reps.length us r1]
   rw[af6]at e
   exact e
theorem Same.sqT(e:Same H H')(h:SqT K H a xs):SqT K H' a xs:=SqT.keep h λb o q _=>e b o q
theorem SqF.mo(h:SqF fz k K H Z l xs)(m:Mo H Z H' Z'):SqF fz k K H' Z' l xs:=by
 cases k with
 |true=>exact Same.sqT m.same h
 |false=>
  cases fz with
  |true=>exact FzL.keep (show FzL K H Z l xs from h) (λb o q _=>m.same b o q) m.zz
  |false=>exact m.same.seq (show SqL K H l xs from h)
theorem SqF.kept(h:SqF true k K H Z l xs)(kz:∀b o,H b=some o->(Z b\/sS o=true)->H' b=some o)(hz:∀a,Z a->Z' a):SqF true k K H' Z' l xs:=by
 cases k with
 |true=>exact SqT.keep (show SqT K H l xs from h) λb o q c=>kz b o q (.inr c)
 |false=>exact FzL.keep (show FzL K H Z l xs from h) kz hz
theorem Src.mo(h:Src K cn fz H Z J ts)(m:Mo H Z H' Z'):Src K cn fz H' Z' J ts:=by
 rcases h with⟨a,vs,rfl,hs,r⟩|⟨a,vs,rfl,hs,r⟩|h|h|⟨k1,k2,l1,l2,vs,ws,us,us',rfl,q1,q2,r1,r2,rfl⟩|⟨l,vs,us,rfl,q1,r1,rfl⟩
 . refine .inl ⟨a,vs,rfl,?_,r.same m.same m.zz⟩
   cases fz with
   |true=>rw[if_pos rfl]at hs⊢;exact hs.keep (λb o q _=>m.same b o q) m.zz
   |false=>rw[if_neg (by decide)]at hs⊢;exact m.same.seq hs
 . exact .inr (.inl ⟨a,vs,rfl,Same.sqT m.same hs,r.same m.same m.zz⟩)
 . exact .inr (.inr (.inl h))
 . exact .inr (.inr (.inr (.inl h)))
 . exact .inr (.inr (.inr (.inr (.inl ⟨k1,k2,l1,l2,vs,ws,us,us',rfl,q1.mo m,q2.mo m,r1.same m.same m.zz,r2.same m.same m.zz,rfl⟩))))
 . exact .inr (.inr (.inr (.inr (.inr ⟨l,vs,us,rfl,q1.mo m,r1.same m.same m.zz,rfl⟩))))
theorem Src.ev(h:Src K cn true H Z J ts)(F:Frm Jn K cn H Z ρ σ As)(e:Ev As H Z As' H' Z'):Src K cn true H' Z' J ts:=by
 have kz:∀b o,H b=some o->(Z b\/sS o=true)->H' b=some o:=λb o q c=>e.keep b o q λhb=>by
  rcases c with c|c
  . exact F.nz b hb c
  . obtain⟨o',q',i'⟩:=F.sl.dom b hb
    rw[q]at q'
    cases q'
    rw[c]at i'
    cases i'
 rcases h with⟨a,vs,rfl,hs,r⟩|⟨a,vs,rfl,hs,r⟩|h|h|⟨k1,k2,l1,l2,vs,ws,us,us',rfl,q1,q2,r1,r2,rfl⟩|⟨l,vs,us,rfl,q1,r1,rfl⟩
 . rw[if_pos rfl]at hs
   refine .inl ⟨a,vs,rfl,?_,Reps.keep ts r (λb o q c=>kz b o q (c.resolve_left ((λz=>nomatch z)))) e.zz⟩
   rw[if_pos rfl]
   exact hs.keep kz e.zz
 . exact .inr (.inl ⟨a,vs,rfl,SqT.keep hs (λb o q c=>kz b o q (.inr c)),Reps.keep ts r (λb o q c=>kz b o q (c.resolve_left ((λz=>nomatch z)))) e.zz⟩)
 . exact .inr (.inr (.inl h))
 . exact .inr (.inr (.inr (.inl h)))
 . exact .inr (.inr (.inr (.inr (.inl ⟨k1,k2,l1,l2,vs,ws,us,us',rfl,q1.kept kz e.zz,q2.kept kz e.zz,Reps.keep us r1 (λb o q c=>kz b o q (c.resolve_left ((λz=>nomatch z)))) e.zz,Reps.keep us' r2 (λb o q c=>kz b o q (c.resolve_left ((λz=>nomatch z)))) e.zz,rfl⟩))))
 . exact .inr (.inr (.inr (.inr (.inr ⟨l,vs,us,rfl,q1.kept kz e.zz,Reps.keep us r1 (λb o q c=>kz b o q (c.resolve_left ((λz=>nomatch z)))) e.zz,rfl⟩))))
def WpI(K:PySem.W.Frag)(cn:Str->Option Addr)(E:XK)(fz:Bool)(As:List (List Addr))(H:Hp)(Z:Addr->Prop)(R:It->Hp->Prop):Res (List T)->Prop
 |.ok ts=>∀J H' Z',Mo H Z H' Z'->Src K cn fz H' Z' J ts->R J H'
 |.ex x=>WpX K cn E As H Z x
 |.no=>False
def RI(Jn:gN)(K:PySem.W.Frag)(cn:Str->Option Addr)(E:XK)(fz:Bool)(wi:TI)(d:Fr->Res (List T)):Prop:=∀As H Z ρ σ,Frm Jn K cn H Z ρ σ As->∀R,WpI K cn E fz As H Z R (d ρ)->wi σ H R
noncomputable def gate{α:Type}(p:Prop)(a:Res α):Res α:=@ite _ p (Classical.propDecidable p) a .no
theorem cf0(a:Res α):gate True a=a:=by unfold gate;rw[if_pos trivial]
theorem vC(h:p):gate p a=a:=by unfold gate;rw[if_pos h]
theorem WpI.gate(w:WpI K cn E fz As H Z R (TL.gate p r)):p/\WpI K cn E fz As H Z R r:=by
 unfold TL.gate at w
 split at w
 . exact⟨by assumption,w⟩
 . exact w.elim
theorem WpE.gate(w:WpE K cn E As H Z mv Q (TL.gate p r)):p/\WpE K cn E As H Z mv Q r:=by
 unfold TL.gate at w
 split at w
 . exact⟨by assumption,w⟩
 . exact w.elim
def iX(lo:Int)(n:Nat):List T:=(List.range n).map λi=>T.int (lo+(i:Nat))
noncomputable def pJ:List T->Res (List T)
 |[.int j]=>gate (-(2^62)<=j/\j<2^62) (.ok (iX 0 j.toNat))
 |_=>.no
noncomputable def bn5:List T->Res (List T)
 |[.int i,.int j]=>gate (-(2^62)<=i/\i<2^62/\-(2^62)<=j/\j<2^62) (.ok (iX i (j-i).toNat))
 |_=>.no
def iF(f:List T->Res (List T))(a:Fr->Res (List T)):Fr->Res (List T):=λρ=>(a ρ).bind f
theorem Reps.ints1(r:Reps K cn H Z [.int i] vs A):vs=[.int i]:=by
 simp only[Reps,Rep]at r
 obtain⟨v,w,B,C,rfl,rfl,⟨rfl,rfl⟩,rfl,rfl⟩:=r
 rfl
theorem Reps.ints2(r:Reps K cn H Z [.int i,.int j] vs A):vs=[.int i,.int j]:=by
 simp only[Reps,Rep]at r
 obtain⟨v,w,B,C,rfl,rfl,⟨rfl,rfl⟩,v2,w2,B2,C2,rfl,rfl,⟨rfl,rfl⟩,rfl,rfl⟩:=r
 rfl
theorem cd9(ha:uL Jn K cn E ta a):RI Jn K cn E fz (cj5 ta) (iF pJ a):=λAs H Z ρ σ F R w=>by
 unfold iF at w
 refine ha As H Z ρ σ F _ ?_
 cases e:a ρ with
 |ok ts=>
  rw[e]at w
  intro vs H1 Z1 B m r
  simp only[Res.bind]at w
  unfold pJ at w
  split at w
  . next j=>
    obtain⟨hb,w⟩:=w.gate
    exact⟨j,r.ints1,hb.1,hb.2,w (Itr 0 j.toNat) H1 Z1 m (.inr (.inr (.inl ⟨0,j.toNat,rfl,rfl⟩)))⟩
  . exact w.elim
 |ex x=>rw[e]at w;exact w
 |no=>rw[e]at w;exact w
theorem ce8(ha:uL Jn K cn E ta a):RI Jn K cn E fz (ch6 ta) (iF bn5 a):=λAs H Z ρ σ F R w=>by
 unfold iF at w
 refine ha As H Z ρ σ F _ ?_
 cases e:a ρ with
 |ok ts=>
  rw[e]at w
  intro vs H1 Z1 B m r
  simp only[Res.bind]at w
  unfold bn5 at w
  split at w
  . next i j=>
    obtain⟨hb,w⟩:=w.gate
    exact⟨i,j,r.ints2,hb,w (Itr i (j-i).toNat) H1 Z1 m (.inr (.inr (.inl ⟨i,_,rfl,rfl⟩)))⟩
  . exact w.elim
 |ex x=>rw[e]at w;exact w
 |no=>rw[e]at w;exact w
def iV(K:PySem.W.Frag)(tl:TE):TI:=λσ H R=>tl σ H λx H1=>(∃a,x=.ref a/\(((∃xs,SqL K H1 a xs)/\R (Itl K a) H1)\/((∃xs,SqT K H1 a xs)/\R (Itt K a) H1)))\/∃z,x=.str z/\R (Its z) H1
def jP:T->Res (List T)
 |.lst _ ts=>if bA ts=true then .ok ts else .no
 |.tup ts=>if bA ts=true then .ok ts else .no
 |.str z=>.ok (z.cps.toList.map λc=>T.str ⟨#[c]⟩)
 |_=>.no
def uO:T->Res (List T)
 |.lst o ts=>if(!o&&bA ts)=true then .ok ts else .no
 |.tup ts=>if bA ts=true then .ok ts else .no
 |.str z=>.ok (z.cps.toList.map λc=>T.str ⟨#[c]⟩)
 |_=>.no
def iD(f:T->Res (List T))(a:Fr->Res T):Fr->Res (List T):=λρ=>(a ρ).bind f
theorem Reps.bareE(r:Reps K cn H Z ts vs A)(h:bA ts=true):Reps K cn H Z ts vs []:=by
 have:=Reps.bare ts h r
 subst this
 exact r
theorem dr9(ha:RB Jn K cn E tl a):RI Jn K cn E false (iV K tl) (iD jP a):=λAs H Z ρ σ F R w=>by
 unfold iD at w
 refine ha As H Z ρ σ F _ ?_
 cases e:a ρ with
 |ok t=>
  rw[e]at w
  intro v H1 Z1 B p
  simp only[Res.bind]at w
  cases t with
  |lst o ts=>
   simp only[jP]at w
   split at w
   . next hn=>
     obtain⟨b,vs,C,rfl,hs,r,_⟩:=p.rep.lstSq
     have hs:=hs.sq
     exact .inl ⟨b,rfl,.inl ⟨⟨vs,hs⟩,w _ H1 Z1 p.mo (.inl ⟨b,vs,rfl,by rw[if_neg (by decide)];exact hs,r.bareE hn⟩)⟩⟩
   . exact w.elim
  |tup ts=>
   simp only[jP]at w
   split at w
   . next hn=>
     have q:=p.rep
     simp only[Rep]at q
     obtain⟨b,vs,rfl,hs,r⟩:=q
     exact .inl ⟨b,rfl,.inr ⟨⟨vs,hs⟩,w _ H1 Z1 p.mo (.inr (.inl ⟨b,vs,rfl,hs,r.bareE hn⟩))⟩⟩
   . exact w.elim
  |str z=>
   have q:=p.rep
   simp only[Rep]at q
   obtain⟨rfl,_⟩:=q
   exact .inr ⟨z,rfl,w _ H1 Z1 p.mo (.inr (.inr (.inr (.inl ⟨z,rfl,rfl⟩))))⟩
  |_=>exact w.elim
 |ex x=>rw[e]at w;exact w
 |no=>rw[e]at w;exact w
theorem dw9(ha:RB Jn K cn E tl a):RI Jn K cn E true (iV K tl) (iD uO a):=λAs H Z ρ σ F R w=>by
 unfold iD at w
 refine ha As H Z ρ σ F _ ?_
 cases e:a ρ with
 |ok t=>
  rw[e]at w
  intro v H1 Z1 B p
  simp only[Res.bind]at w
  cases t with
  |lst o ts=>
   simp only[uO]at w
   split at w
   . next hn=>
     rw[Bool.and_eq_true]at hn
     cases o with
     |true=>exact absurd hn.1 (by decide)
     |false=>
      have q:=p.rep
      simp only[Rep]at q
      obtain⟨b,vs,rfl,rfl,hs,r⟩:=q
      exact .inl ⟨b,rfl,.inl ⟨⟨vs,hs.sq⟩,w _ H1 Z1 p.mo (.inl ⟨b,vs,rfl,by rw[if_pos rfl];exact hs,r⟩)⟩⟩
   . exact w.elim
  |tup ts=>
   simp only[uO]at w
   split at w
   . next hn=>
     have q:=p.rep
     simp only[Rep]at q
     obtain⟨b,vs,rfl,hs,r⟩:=q
     exact .inl ⟨b,rfl,.inr ⟨⟨vs,hs⟩,w _ H1 Z1 p.mo (.inr (.inl ⟨b,vs,rfl,hs,r.bareE hn⟩))⟩⟩
   . exact w.elim
  |str z=>
   have q:=p.rep
   simp only[Rep]at q
   obtain⟨rfl,_⟩:=q
   exact .inr ⟨z,rfl,w _ H1 Z1 p.mo (.inr (.inr (.inr (.inl ⟨z,rfl,rfl⟩))))⟩
  |_=>exact w.elim
 |ex x=>rw[e]at w;exact w
 |no=>rw[e]at w;exact w
def as0(fz:Bool):T->Option (List T)
 |.lst o ts=>if((!fz||!o)&&bA ts)=true then some ts else none
 |.tup ts=>if bA ts=true then some ts else none
 |_=>none
def al9(fz:Bool):List T->Res (List T)
 |[t,u]=>match as0 fz t,as0 fz u with
  |some ts,some us=>.ok (iT ts us)
  |_,_=>.no
 |_=>.no
def bt6(fz:Bool):List T->Res (List T)
 |[.lst o ts]=>if((!fz||!o)&&bA ts)=true then .ok (yS ts)else .no
 |_=>.no
theorem bn4(r:Rep K cn H Z (.lst o ts) v A)(hc:((!fz||!o)&&bA ts)=true):∃l vs,v=.ref l/\SqF fz false K H Z l vs/\Reps K cn H Z ts vs []:=by
 rw[Bool.and_eq_true]at hc
 cases o with
 |true=>
  simp only[Rep]at r
  obtain⟨a,vs,B,rfl,rfl,e,r⟩:=r
  cases fz with
  |true=>simp at hc
  |false=>exact⟨a,vs,rfl,SqL.of e,r.bareE hc.2⟩
 |false=>
  simp only[Rep]at r
  obtain⟨a,vs,rfl,rfl,e,r⟩:=r
  cases fz with
  |true=>exact⟨a,vs,rfl,e,r⟩
  |false=>exact⟨a,vs,rfl,e.sq,r⟩
theorem be4(r:Rep K cn H Z t v A)(h:as0 fz t=some ts):∃k l vs,v=.ref l/\SqF fz k K H Z l vs/\Reps K cn H Z ts vs []:=by
 cases t with
 |lst o us=>
  simp only[as0]at h
  split at h
  . next hc=>
    cases h
    exact⟨false,bn4 r hc⟩
  . cases h
 |tup us=>
  simp only[as0]at h
  split at h
  . next hc=>
    cases h
    simp only[Rep]at r
    obtain⟨a,vs,rfl,e,r⟩:=r
    exact⟨true,a,vs,rfl,e,r.bareE hc⟩
  . cases h
 |_=>simp[as0]at h
theorem db1(ha:uL Jn K cn E ta a):RI Jn K cn E fz (cz1 K ta) (iF (al9 fz) a):=λAs H Z ρ σ F R w=>by
 unfold iF at w
 refine ha As H Z ρ σ F _ ?_
 cases e:a ρ with
 |ok ts=>
  rw[e]at w
  intro vs H1 Z1 B m r1
  simp only[Res.bind]at w
  unfold al9 at w
  split at w
  . next t u=>
    split at w
    . next p q h1 h2=>
      simp only[Reps]at r1
      obtain⟨v,r',B1,C1,rfl,rfl,ra,v2,r2,B2,C2,rfl,rfl,rb,rfl,rfl⟩:=r1
      obtain⟨k1,l1,us,rfl,s1,p1⟩:=be4 ra h1
      obtain⟨k2,l2,us',rfl,s2,p2⟩:=be4 rb h2
      exact⟨k1,k2,l1,l2,rfl,⟨_,s1.sq⟩,⟨_,s2.sq⟩,w _ H1 Z1 m (.inr (.inr (.inr (.inr (.inl ⟨k1,k2,l1,l2,us,us',_,_,rfl,s1,s2,p1,p2,rfl⟩)))))⟩
    . exact w.elim
  . exact w.elim
 |ex x=>rw[e]at w;exact w
 |no=>rw[e]at w;exact w
theorem cx7(ha:uL Jn K cn E ta a):RI Jn K cn E fz (be5 K ta) (iF (bt6 fz) a):=λAs H Z ρ σ F R w=>by
 unfold iF at w
 refine ha As H Z ρ σ F _ ?_
 cases e:a ρ with
 |ok ts=>
  rw[e]at w
  intro vs H1 Z1 B m r1
  simp only[Res.bind]at w
  unfold bt6 at w
  split at w
  . next o ts=>
    split at w
    . next hc=>
      simp only[Reps]at r1
      obtain⟨v,r',B1,C1,rfl,rfl,ra,rfl,rfl⟩:=r1
      obtain⟨l1,us,rfl,s1,p1⟩:=bn4 (fz:=fz) ra hc
      exact⟨l1,rfl,⟨_,s1.sq⟩,w _ H1 Z1 m (.inr (.inr (.inr (.inr (.inr ⟨l1,us,_,rfl,s1,p1,rfl⟩)))))⟩
    . exact w.elim
  . exact w.elim
 |ex x=>rw[e]at w;exact w
 |no=>rw[e]at w;exact w
def RG(Jn:gN)(K:PySem.W.Frag)(cn:Str->Option Addr)(ks:List Nat)(g:TG)(b:T->Fr->Option Fr):Prop:=
 ∀As H Z ρ σ t v B,Frm Jn K cn H Z ρ σ As->Rep K cn H Z t v B->B.Nodup->(∀x∈B,¬Z x)->(∀x∈B,x∉As.flatten)->∀(Q:St->Hp->Prop) ρ',b t ρ=some ρ'->
  (∀σ' As',Frm Jn K cn H Z ρ' σ' As'->(∀a∈As'.flatten,a∈As.flatten\/a∈B)->σ'.length=σ.length->(∀i,i∉ks->σ'[i]?=σ[i]?)->Q σ' H)->g v σ H Q
structure RGs (Jn:gN) (K:PySem.W.Frag) (cn:Str->Option Addr) (ks:List Nat) (n:Nat) (g:TGs) (b:List T->Fr->Option Fr):Prop where
 len:∀ts ρ ρ',b ts ρ=some ρ'->ts.length=n
 run:∀As H Z ρ σ ts vs B,Frm Jn K cn H Z ρ σ As->Reps K cn H Z ts vs B->B.Nodup->(∀x∈B,¬Z x)->(∀x∈B,x∉As.flatten)->∀(Q:St->Hp->Prop) ρ',b ts ρ=some ρ'->
  (∀σ' As',Frm Jn K cn H Z ρ' σ' As'->(∀a∈As'.flatten,a∈As.flatten\/a∈B)->σ'.length=σ.length->(∀i,i∉ks->σ'[i]?=σ[i]?)->Q σ' H)->g vs σ H Q
def aJ(i:Nat):T->Fr->Option Fr:=λt ρ=>some (ρ.set i (some t))
def eU:List T->Fr->Option Fr
 |[],ρ=>some ρ
 |_::_,_=>none
def bE(b:T->Fr->Option Fr)(bs:List T->Fr->Option Fr):List T->Fr->Option Fr
 |[],_=>none
 |t::ts,ρ=>match b t ρ with
  |some ρ1=>bs ts ρ1
  |none=>none
def eR(bs:List T->Fr->Option Fr):T->Fr->Option Fr
 |.tup ts,ρ=>bs ts ρ
 |_,_=>none
theorem bu3(i:Nat)(hJ:yW Jn i=true:=by rfl):RG Jn K cn [i] (au2 i) (aJ i):=λAs H Z ρ σ t v B F r nd bz bo Q ρ' e h=>by
 cases e
 refine h _ (As.set i B) (F.set r nd bz i (λb hb hA=>absurd hA (bo b hb)) hJ) (λa ha=>(gO ha).symm) (by rw[List.length_set]) λj hj=>?_
 rw[List.getElem?_set_ne (λz=>hj (by rw[z];exact List.mem_cons_self))]
theorem cp8:RGs Jn K cn [] 0 dy1 eU where
 len:=λts ρ ρ' e=>by
  cases ts with
  |nil=>rfl
  |cons _ _=>cases e
 run:=λAs H Z ρ σ ts vs B F r nd bz bo Q ρ' e h=>by
  cases ts with
  |nil=>
   cases e
   simp only[Reps]at r
   exact⟨r.1,h σ As F (λa ha=>.inl ha) rfl λ_ _=>rfl⟩
  |cons _ _=>cases e
theorem cc3(h1:RG Jn K cn ks g b)(h2:RGs Jn K cn ls n gs bs):RGs Jn K cn (ks++ls) (n+1) (bc5 g gs) (bE b bs) where
 len:=λts ρ ρ' e=>by
  cases ts with
  |nil=>cases e
  |cons t ts=>
   simp only[bE]at e
   cases e1:b t ρ with
   |none=>rw[e1]at e;cases e
   |some ρ1=>rw[e1]at e;rw[List.length_cons,h2.len ts ρ1 ρ' e]
 run:=λAs H Z ρ σ ts vs B F r nd bz bo Q ρ' e h=>by
  cases ts with
  |nil=>cases e
  |cons t ts=>
   simp only[bE]at e
   cases e1:b t ρ with
   |none=>rw[e1]at e;cases e
   |some ρ1=>
    rw[e1]at e
    simp only[Reps]at r
    obtain⟨v,vs',B1,B2,rfl,rfl,r1,r2⟩:=r
    rw[List.nodup_append]at nd
    refine⟨v,vs',rfl,h1 As H Z ρ σ t v B1 F r1 nd.1 (λx hx=>bz x (List.mem_append_left _ hx)) (λx hx=>bo x (List.mem_append_left _ hx)) _ ρ1 e1 λσ1 As1 F1 o1 l1 k1=>?_⟩
    refine h2.run As1 H Z ρ1 σ1 ts vs' B2 F1 r2 nd.2.1 (λx hx=>bz x (List.mem_append_right _ hx)) (λx hx hA=>?_) Q ρ' e λσ2 As2 F2 o2 l2 k2=>?_
    . rcases o1 x hA with z|z
      . exact bo x (List.mem_append_right _ hx) z
      . exact nd.2.2 x z x hx rfl
    . refine h σ2 As2 F2 (λa ha=>?_) (l2.trans l1) λi hi=>?_
      . rcases o2 a ha with z|z
        . exact(o1 a z).imp_right (List.mem_append_left _)
        . exact .inr (List.mem_append_right _ z)
      . rw[k2 i (λz=>hi (List.mem_append_right _ z)),k1 i (λz=>hi (List.mem_append_left _ z))]
theorem dy0(h:RGs Jn K cn ks n gs bs):RG Jn K cn ks (cv0 K n gs) (eR bs):=λAs H Z ρ σ t v B F r nd bz bo Q ρ' e h'=>by
 cases t with
 |tup ts=>
  simp only[eR]at e
  simp only[Rep]at r
  obtain⟨a,vs,rfl,hs,r⟩:=r
  exact⟨a,vs,rfl,hs,by rw[Reps.length ts r];exact h.len ts ρ ρ' e,h.run As H Z ρ σ ts vs B F r nd bz bo Q ρ' e h'⟩
 |_=>cases e
def cE(b:T->Fr->Option Fr)(c:Fr->Res Bool)(d:Fr->Res T)(ρ:Fr):List T->Res (List T)
 |[]=>.ok []
 |t::ts=>match b t ρ with
  |none=>.no
  |some ρ1=>(c ρ1).bind λk=>if k=true then(d ρ1).bind λu=>(cE b c d ρ ts).bind λus=>.ok (u::us)else cE b c d ρ ts
def dY(ks:List Nat)(di:Fr->Res (List T))(b:T->Fr->Option Fr)(c:Fr->Res Bool)(d:Fr->Res T):Fr->Res T:=λρ=>
 (di ρ).bind λts=>if ts.length<=sizeLine then(cE b c d (kills ks ρ) ts).bind λus=>.ok (.lst true us)else .no
def cM:Fr->Res Bool:=λ_=>.ok true
theorem dr3:RT Jn K cn E db3 cM:=λAs H Z ρ σ F Q w=>w H Z F.mo0.postT
theorem Slots.clr(ks:List Nat):∀{ρ:Fr}{σ:St}{As:List (List Addr)},Slots K cn H Z ρ σ As->Slots K cn H Z (kills ks ρ) (L2.clr ks σ) (eW ks As):=by
 induction ks with
 |nil=>exact λh=>h
 |cons k ks ih=>exact λh=>ih (h.kill2 none k)
def uZ(Jn:gN)(ks:List Nat):Bool:=ks.all (yW Jn)
theorem ao2:∀(ks:List Nat){σ:St},uZ Jn ks=true->(∀p∈Jn,σ[p.1]?=some (some p.2))->∀p∈Jn,(L2.clr ks σ)[p.1]?=some (some p.2)
 |[],_,_,q=>q
 |k::ks,σ,h,q=>by
  unfold uZ at h
  rw[List.all_cons,Bool.and_eq_true]at h
  exact ao2 ks h.2 (ag6 h.1 none q)
theorem Frm.clr(ks:List Nat)(F:Frm Jn K cn H Z ρ σ As)(hk:uZ Jn ks=true):Frm Jn K cn H Z (TL.kills ks ρ) (L2.clr ks σ) (eW ks As):=
 ⟨F.sl.clr ks,(F.kills ks).nd,(F.kills ks).nz,F.zi,ao2 ks hk F.pn⟩
theorem cn7(hg:RG Jn K cn ks g b)(hc:RT Jn K cn E tc c)(he:RE Jn K cn E [] te d)(hk:uZ Jn ks=true)
 (F:Frm Jn K cn H Z ρ σ As)(hs:Src K cn false H Z J ts)(hl:ts.length<=sizeLine)
 (w:WpE K cn E As H Z [] Q ((cE b c d (kills ks ρ) ts).bind λus=>.ok (.lst true us))):CGo ks g tc te σ (λD H'=>Q (.ref D) H') J H:=by
 let R (us:List T) (rest:List T):Res T:=(cE b c d (kills ks ρ) rest).bind λus'=>.ok (.lst true (us++us'))
 refine⟨λi m ys H'=>m=ts.length-i/\i<=ts.length/\∃us Z' B,Mo H Z H' Z'/\Reps K cn H' Z' us ys B/\B.Nodup/\(∀x∈B,¬Z' x/\H x=none)/\us.length<=i/\WpE K cn E As H Z [] Q (R us (ts.drop i)),⟨ts.length,by simp,Nat.zero_le _,[],Z,[],F.mo0,Reps.nil,List.nodup_nil,dR,Nat.le_refl _,?_⟩,?_⟩
 . simpa[R]using w
 rintro i m ys H1 ⟨rfl,hi,us,Z1,B,m1,r1,nd,bz,hul,w⟩
 have hyl:=Reps.length us r1
 have s1:=hs.mo m1
 by_cases hlt:i<ts.length
 . obtain⟨t,et⟩:∃t,ts[i]?=some t:=⟨ts[i],List.getElem?_eq_getElem hlt⟩
   obtain⟨go,yl⟩:=s1.turn m1.zi et
   have ed:ts.drop i=t::ts.drop (i+1):=by
    have:=List.getElem?_eq_some_iff.mp et
    obtain⟨h1,h2⟩:=this
    rw[<-h2]
    exact List.drop_eq_getElem_cons hlt
   refine .inr ⟨go,by omega,_,λys' H' p'=>⟨ts.length-(i+1),by omega,p'⟩,λx H' y=>?_⟩
   obtain⟨my,rx⟩:=yl x H' y
   have r1:=r1.same my.same my.zz
   have m1:=m1.trans my
   have F1:=(F.mo m1).clr ks hk
   rw[ed]at w
   simp only[R,cE]at w
   cases eb:b t (kills ks ρ)with
   |none=>rw[eb]at w;exact w.elim
   |some ρ1=>
    rw[eb]at w
    simp only at w
    refine hg (eW ks As) H' Z1 (kills ks ρ) (L2.clr ks σ) t x [] F1 rx List.nodup_nil (dR) (dR) _ ρ1 eb λσ2 As2 F2 o2 l2 k2=>⟨⟨?_,λj v hj=>?_⟩,?_⟩
    . rw[l2,oO]
    . have:=(ah5 ks σ hj).2
      rw[k2 j this,hj]
    refine hc As2 H' Z1 ρ1 σ2 F2 _ ?_
    have toX:∀{x:Exc}{H2:Hp}{Z2:Addr->Prop},Mo H' Z1 H2 Z2->WpX K cn E As H Z x->WpX K cn E As2 H2 Z2 x:=by
     intro x H2 Z2 m2 h
     refine h.ev (m1.trans m2).ev|>.ev ⟨λ_ _ q _=>q,λa ha=>?_,λ_ q=>q,λ_ q=>.inl q,λ_ q=>q⟩
     rcases o2 a ha with z|z
     . exact .inl (eM z)
     . cases z
    cases ec:c ρ1 with
    |ok k=>
     rw[ec]at w
     intro H2 Z2 p2
     simp only[Res.bind]at w
     cases k with
     |true=>
      rw[if_pos rfl]at w
      rw[if_pos rfl]
      refine he As2 H2 Z2 ρ1 σ2 (F2.mo p2.mo) _ ?_
      cases ee:d ρ1 with
      |ok u=>
       rw[ee]at w
       intro v H3 Z3 C p3
       have m3:=(m1.trans p2.mo).trans p3.mo
       have bnC:∀y∈C,H2 y=none:=λy hy=>(p3.bn y hy).resolve_right (λ⟨i,hi,_⟩=>by cases hi)
       refine⟨rfl,hlt,us++[u],Z3,B++C,m3,Reps.append us (r1.same (p2.same.trans p3.same) (λa h=>p3.zz a (p2.zz a h))) (Reps.one p3.rep),?_,?_,by simp;omega,?_⟩
       . rw[List.nodup_append]
         refine⟨nd,p3.nd,λx hx y hy e=>?_⟩
         subst e
         obtain⟨o,ho,_⟩:=Reps.dom us r1 x hx
         have:=bnC x hy
         rw[p2.same x o ho]at this
         cases this
       . intro x hx
         rcases List.mem_append.mp hx with hx|hx
         . refine⟨λz=>?_,(bz x hx).2⟩
           obtain⟨o,ho,_⟩:=Reps.dom us r1 x hx
           rcases(p2.mo.trans p3.mo).zn x z with z|z
           . exact(bz x hx).1 z
           . rw[ho]at z;cases z
         . exact⟨p3.bz x hx,(m1.trans p2.mo).same.free (bnC x hx)⟩
       . simp only[R]
         have:∀r:Res (List T),((r.bind λus'=>Res.ok (u::us')).bind λus'=>Res.ok (T.lst true (us++us')))=r.bind λus'=>Res.ok (T.lst true (us++[u]++us')):=by
          intro r
          cases r<;>simp[Res.bind]
         simp only at w
         rw[<-this]
         exact w
      |ex x=>rw[ee]at w;exact toX p2.mo w
      |no=>rw[ee]at w;exact w.elim
     |false=>
      rw[if_neg (by decide)]at w
      rw[if_neg (by decide)]
      refine⟨rfl,hlt,us,Z2,B,m1.trans p2.mo,r1.same p2.same p2.zz,nd,λx hx=>⟨λz=>?_,(bz x hx).2⟩,by omega,w⟩
      obtain⟨o,ho,_⟩:=Reps.dom us r1 x hx
      rcases p2.zn x z with z|z
      . exact(bz x hx).1 z
      . rw[ho]at z;cases z
    |ex x=>rw[ec]at w;exact toX ⟨Same.refl _,λ_ h=>h,λ_ h=>.inl h,m1.zi⟩ w
    |no=>rw[ec]at w;exact w.elim
 . have ei:i=ts.length:=by omega
   subst ei
   refine .inl ⟨s1.stop (Nat.le_refl _),λD hD=>?_⟩
   rw[List.drop_length]at w
   simp only[R,cE,Res.bind,List.append_nil]at w
   have hm:=m1.trans (Mo.new (.lst ys) hD m1.zi)
   refine w (.ref D) _ Z1 (D::B) ⟨hm.same,hm.zz,hm.zn,hm.zi,?_,?_,?_,?_⟩
   . simp only[Rep]
     exact⟨D,ys,B,rfl,rfl,eD,r1.same (bv0 hD _) (λ_ h=>h)⟩
   . refine List.nodup_cons.mpr ⟨λhb=>?_,nd⟩
     obtain⟨o,ho,_⟩:=Reps.dom us r1 D hb
     rw[ho]at hD;cases hD
   . intro x hx
     rcases List.mem_cons.mp hx with rfl|hx
     . exact λz=>m1.zi _ z hD
     . exact(bz x hx).1
   . intro x hx
     rcases List.mem_cons.mp hx with rfl|hx
     . exact .inl (m1.same.free hD)
     . exact .inl (bz x hx).2
theorem bo4(hi:RI Jn K cn E false wi di)(hg:RG Jn K cn ks g b)(hc:RT Jn K cn E tc c)(he:RE Jn K cn E [] te d)(hk:uZ Jn ks=true:=by rfl):
 RE Jn K cn E [] (bt5 ks wi g tc te) (dY ks di b c d):=λAs H Z ρ σ F Q w=>by
 unfold dY at w
 refine hi As H Z ρ σ F _ ?_
 cases e:di ρ with
 |ok ts=>
  rw[e]at w
  intro J H1 Z1 m s
  simp only[Res.bind]at w
  split at w
  . next hl=>exact cn7 hg hc he hk (F.mo m) s hl (WpE.mo F w m)
  . exact w.elim
 |ex x=>rw[e]at w;exact w
 |no=>rw[e]at w;exact w
def sSeq(a b:Fr->bU):Fr->bU:=λρ=>match a ρ with
 |.nx ρ'=>b ρ'
 |o=>o
def bX:Fr->bU:=λρ=>.nx ρ
theorem cr7:RS Jn K cn E cv5 bX:=λAs H Z ρ σ F D w=>w σ As H Z F Ev.refl
theorem dg1(ha:RS Jn K cn E t a)(hb:RS Jn K cn E u b):RS Jn K cn E (dh0 t u) (sSeq a b):=λAs H Z ρ σ F D w=>by
 unfold sSeq at w
 refine ha As H Z ρ σ F _ ?_
 cases e:a ρ with
 |nx ρ'=>
  rw[e]at w
  exact λσ' As' H' Z' F' ev=>hb As' H' Z' ρ' σ' F' D (Wp.ev w ev)
 |bk ρ'=>rw[e]at w;exact w
 |ct ρ'=>rw[e]at w;exact w
 |rt t=>rw[e]at w;exact w
 |rm ρ' t=>rw[e]at w;exact w
 |ex x=>rw[e]at w;exact w
 |no=>rw[e]at w;exact w
def bF(mv:List Nat)(d:Fr->Res T)(b:T->Fr->Option Fr):Fr->bU:=λρ=>match d ρ with
 |.ok t=>match b t (kills mv ρ)with
  |some ρ'=>.nx ρ'
  |none=>.no
 |.ex x=>.ex x
 |.no=>.no
theorem Post.out(F:Frm Jn K cn H Z ρ σ As)(p:Post K cn As H Z mv H' Z' t v B):∀x∈B,x∉(eW mv As).flatten:=λx hx hA=>by
 rcases p.bn x hx with z|⟨i,hi,z⟩
 . obtain⟨o,ho,_⟩:=F.sl.dom x (eM hA)
   rw[ho]at z;cases z
 . exact xK F.nd hi z hA
theorem Post.inA(p:Post K cn As H Z mv H' Z' t v B):∀x∈B,x∈As.flatten\/H x=none:=λx hx=>by
 rcases p.bn x hx with z|⟨i,hi,z⟩
 . exact .inr z
 . exact .inl (aV z)
theorem bz9(he:RE Jn K cn E mv te d)(hg:RG Jn K cn ks g b):RS Jn K cn E (ba1 te g) (bF mv d b):=λAs H Z ρ σ F D w=>by
 unfold bF at w
 refine he As H Z ρ σ F _ ?_
 cases e:d ρ with
 |ok t=>
  rw[e]at w
  intro v H1 Z1 B p
  simp only at w
  cases eb:b t (kills mv ρ)with
  |none=>rw[eb]at w;exact w.elim
  |some ρ'=>
   rw[eb]at w
   refine hg (eW mv As) H1 Z1 (kills mv ρ) σ t v B ((F.mo p.mo).kills mv) p.rep p.nd p.bz (p.out F) _ ρ' eb λσ' As' F' o' _ _=>?_
   refine w σ' As' H1 Z1 F' ⟨λa o h _=>p.same a o h,λa ha=>?_,p.zz,λa h=>(p.zn a h).imp_right .inr,λa h=>p.same.free h⟩
   rcases o' a ha with z|z
   . exact .inl (eM z)
   . exact p.inA a z
 |ex x=>rw[e]at w;exact w
 |no=>rw[e]at w;exact w
theorem bc6(hi:RI Jn K cn E false wi di)(hg:RG Jn K cn ks g b)(hc:RT Jn K cn E tc c)(he:RE Jn K cn E [] te d)(hk:uZ Jn ks=true:=by rfl)(hJ:yW Jn k=true:=by rfl):
 RS Jn K cn E (ag0 k ks wi g tc te) (bF [] (dY ks di b c d) (aJ k)):=λAs H Z ρ σ F D w=>
 bz9 (bo4 hi hg hc he hk) (bu3 k hJ) As H Z ρ σ F D w
def bM(mv:List Nat)(d:Fr->Res T):Fr->bU:=λρ=>match d ρ with
 |.ok t=>.rt t
 |.ex x=>.ex x
 |.no=>.no
theorem dq4(he:RE Jn K cn E mv te d):RS Jn K cn E (dw2 te) (bM mv d):=λAs H Z ρ σ F D w=>by
 unfold bM at w
 refine he As H Z ρ σ F _ ?_
 cases e:d ρ with
 |ok t=>
  rw[e]at w
  intro v H1 Z1 B p
  refine w v H1 Z1 B ⟨⟨λa o h _=>p.same a o h,λa ha=>?_,p.zz,λa h=>(p.zn a h).imp_right .inr,λa h=>p.same.free h⟩,p.rep,p.nd,p.bz,p.zi⟩
  rw[List.flatten_cons,List.flatten_nil,List.append_nil]at ha
  exact p.inA a ha
 |ex x=>rw[e]at w;exact w
 |no=>rw[e]at w;exact w
def cW(c:Fr->Res Bool)(a b:Fr->bU):Fr->bU:=λρ=>match c ρ with
 |.ok k=>if k=true then a ρ else b ρ
 |.ex x=>.ex x
 |.no=>.no
theorem dg8(hc:RT Jn K cn E tt c)(ha:RS Jn K cn E t a)(hb:RS Jn K cn E u b):RS Jn K cn E (df1 tt t u) (cW c a b):=λAs H Z ρ σ F D w=>by
 unfold cW at w
 refine hc As H Z ρ σ F _ ?_
 cases e:c ρ with
 |ok k=>
  rw[e]at w
  intro H1 Z1 p
  simp only at w
  split
  . next h=>rw[if_pos h]at w;exact ha As H1 Z1 ρ σ (F.mo p.mo) D (Wp.ev w p.mo.ev)
  . next h=>rw[if_neg h]at w;exact hb As H1 Z1 ρ σ (F.mo p.mo) D (Wp.ev w p.mo.ev)
 |ex x=>rw[e]at w;exact w
 |no=>rw[e]at w;exact w
def df5(d:Fr->Res T):Fr->bU:=λρ=>match d ρ with
 |.ok _=>.nx ρ
 |.ex x=>.ex x
 |.no=>.no
def de3:Fr->bU:=λρ=>.bk ρ
def dx7:Fr->bU:=λρ=>.ct ρ
def eI(b:T->Fr->Option Fr)(body:Fr->bU):List T->Fr->bU
 |[],ρ=>.nx ρ
 |t::ts,ρ=>match b t ρ with
  |none=>.no
  |some ρ1=>match body ρ1 with
   |.nx ρ2=>eI b body ts ρ2
   |.ct ρ2=>eI b body ts ρ2
   |.bk ρ2=>.nx ρ2
   |o=>o
def kP(di:Fr->Res (List T))(b:T->Fr->Option Fr)(body:Fr->bU):Fr->bU:=λρ=>match di ρ with
 |.ok ts=>eI b body ts ρ
 |.ex x=>.ex x
 |.no=>.no
theorem dt1(hi:RI Jn K cn E true wi di)(hg:RG Jn K cn ks g b)(hb:RS Jn K cn E tb body):RS Jn K cn E (df3 wi g tb) (kP di b body):=λAs H Z ρ σ F D w=>by
 unfold kP at w
 refine hi As H Z ρ σ F _ ?_
 cases e:di ρ with
 |ok ts=>
  rw[e]at w
  intro J H1 Z1 m s
  refine⟨λi k σ' H'=>k=ts.length-i/\i<=ts.length/\∃ρ' Z' As',Frm Jn K cn H' Z' ρ' σ' As'/\Src K cn true H' Z' J ts/\Wp Jn K cn E As' H' Z' D (eI b body (ts.drop i) ρ'),⟨ts.length,by simp,Nat.zero_le _,ρ,Z1,As,F.mo m,s,Wp.ev w m.ev⟩,?_⟩
  rintro i k σ1 H2 ⟨rfl,hle,ρ1,Z2,As1,F1,s1,w1⟩
  by_cases hlt:i<ts.length
  . obtain⟨t,et⟩:∃t,ts[i]?=some t:=⟨ts[i],List.getElem?_eq_getElem hlt⟩
    obtain⟨go,yl⟩:=s1.turn F1.zi et
    have ed:ts.drop i=t::ts.drop (i+1):=by
     obtain⟨h1,h2⟩:=List.getElem?_eq_some_iff.mp et
     rw[<-h2]
     exact List.drop_eq_getElem_cons hlt
    refine .inr ⟨go,_,λσ' H' p'=>⟨ts.length-(i+1),by omega,p'⟩,λx H' y=>?_⟩
    obtain⟨my,rx⟩:=yl x H' y
    have F1:=F1.mo my
    have s1:=s1.mo my
    have w1:=Wp.ev w1 (my.ev (As:=As1))
    rw[ed]at w1
    simp only[eI]at w1
    cases eb:b t ρ1 with
    |none=>rw[eb]at w1;exact w1.elim
    |some ρ2=>
     rw[eb]at w1
     simp only at w1
     refine hg As1 H' Z2 ρ1 σ1 t x [] F1 rx List.nodup_nil (dR) (dR) _ ρ2 eb λσ2 As2 F2 o2 _ _=>?_
     have ev2:Ev As1 H' Z2 As2 H' Z2:=⟨λ_ _ q _=>q,λa ha=>.inl ((o2 a ha).resolve_right ((λz=>nomatch z))),λ_ q=>q,λ_ q=>.inl q,λ_ q=>q⟩
     refine hb As2 H' Z2 ρ2 σ2 F2 _ ?_
     have w2:=Wp.ev w1 ev2
     cases eo:body ρ2 with
     |nx ρ3=>
      rw[eo]at w2
      exact λσ' As' H'' Z' F' ev=>⟨rfl,hlt,ρ3,Z',As',F',(s1.ev F1 ev2).ev F2 ev,Wp.ev w2 ev⟩
     |ct ρ3=>
      rw[eo]at w2
      exact λσ' As' H'' Z' F' ev=>⟨rfl,hlt,ρ3,Z',As',F',(s1.ev F1 ev2).ev F2 ev,Wp.ev w2 ev⟩
     |bk ρ3=>rw[eo]at w2;exact w2
     |rt t=>rw[eo]at w2;exact w2
     |rm ρ3 t=>rw[eo]at w2;exact w2
     |ex x=>rw[eo]at w2;exact w2
     |no=>rw[eo]at w2;exact w2
  . have ei:i=ts.length:=by omega
    subst ei
    rw[List.drop_length]at w1
    exact .inl ⟨s1.stop (Nat.le_refl _),w1 σ1 As1 H2 Z2 F1 Ev.refl⟩
 |ex x=>rw[e]at w;exact w
 |no=>rw[e]at w;exact w
end
end TL
namespace TL
open PySem PySem.Spec PyProof.Rows L2
section
variable {Jn : gN} {K : PySem.W.Frag} {cn : Str → Option Addr} {E : XK}
def vI(t':T):List Nat->T->Option T
 |[],_=>some t'
 |k::p,.lst o ts=>match ts[k]? with
  |some t=>(vI t' p t).map λu=>.lst o (ts.set k u)
  |none=>none
 |k::p,.tup ts=>match ts[k]? with
  |some t=>(vI t' p t).map λu=>.tup (ts.set k u)
  |none=>none
 |k::p,.ins o c ns ts=>match ts[k]? with
  |some t=>(vI t' p t).map λu=>.ins o c ns (ts.set k u)
  |none=>none
 |_::_,_=>none
structure Plug (K:PySem.W.Frag) (cn:Str->Option Addr) (H:Hp) (Z:Addr->Prop) (t0:T) (v0:V) (A0:List Addr) (p:List Nat) (u:T) (v:V) (B:List Addr):Prop where
 rep:Rep K cn H Z u v B
 sub:B.Sublist A0
 plug:∀H' Z' u' B',(∀a,Z a->Z' a)->(∀b o,H b=some o->((b∈A0/\b∉B)\/Z b\/sS o=true)->H' b=some o)->Rep K cn H' Z' u' v B'->B'.Nodup->(∀x∈B',x∈A0->x∈B)->
  ∃t' A',vI u' p t0=some t'/\Rep K cn H' Z' t' v0 A'/\A'.Nodup/\∀x∈A',(x∈A0/\x∉B)\/x∈B'
theorem Plug.mo(h:Plug K cn H Z t0 v0 A0 p u v B)(s:Same H H1)(zz:∀a,Z a->Z1 a):Plug K cn H1 Z1 t0 v0 A0 p u v B:=
 ⟨h.rep.same s zz,h.sub,λH' Z' u' B' z k=>h.plug H' Z' u' B' (λa q=>z a (zz a q)) λb o q c=>k b o (s b o q) (by
  rcases c with c|c|c
  . exact .inl c
  . exact .inr (.inl (zz b c))
  . exact .inr (.inr c))⟩
theorem Plug.root(h:Rep K cn H Z t0 v0 A0):Plug K cn H Z t0 v0 A0 [] t0 v0 A0:=
 ⟨h,List.Sublist.refl _,λH' Z' u' B' z k r nd _=>⟨u',B',rfl,r,nd,λx hx=>.inr hx⟩⟩
def lD:List Nat->T->Option T
 |[],t=>some t
 |k::p,.lst _ ts=>(ts[k]?).bind (lD p)
 |k::p,.tup ts=>(ts[k]?).bind (lD p)
 |k::p,.ins _ _ _ ts=>(ts[k]?).bind (lD p)
 |_::_,_=>none
def WpP(K:PySem.W.Frag)(cn:Str->Option Addr)(E:XK)(As:List (List Addr))(H:Hp)(Z:Addr->Prop)(A0:List Addr)(t0:T)(v0:V)(Q:VK):Res (List Nat)->Prop
 |.ok p=>∀u v B H' Z',Mo H Z H' Z'->lD p t0=some u->Plug K cn H' Z' t0 v0 A0 p u v B->Q v H'
 |.ex x=>WpX K cn E As H Z x
 |.no=>False
def RP(Jn:gN)(K:PySem.W.Frag)(cn:Str->Option Addr)(E:XK)(j:Nat)(to:TE)(d:Fr->Res (List Nat)):Prop:=∀As H Z ρ σ,Frm Jn K cn H Z ρ σ As->∀t0 v0,ρ[j]?=some (some t0)->σ[j]?=some (some v0)->Rep K cn H Z t0 v0 (As.getD j [])->∀Q,WpP K cn E As H Z (As.getD j []) t0 v0 Q (d ρ)->to σ H Q
def dQ:Fr->Res (List Nat):=λ_=>.ok []
theorem do3(j:Nat):RP Jn K cn E j (bs0 j) dQ:=λAs H Z ρ σ F t0 v0 e1 e2 r Q w=>⟨v0,e2,w t0 v0 _ H Z F.mo0 rfl (Plug.root r)⟩
def da9:T->Option (List T)
 |.lst o ts=>if o=true then some ts else none
 |.tup ts=>some ts
 |_=>none
def pIx(j:Nat)(d:Fr->Res (List Nat))(i:Fr->Res T):Fr->Res (List Nat):=λρ=>(d ρ).bind λp=>(i ρ).bind λx=>match ρ[j]?,x with
 |some (some t0),.int n=>match(lD p t0).bind da9 with
  |some ts=>match sV ts.length n with
   |some k=>.ok (p++[k])
   |none=>.no
  |none=>.no
 |_,_=>.no
theorem rV{As:List (List Addr)}(h:As.flatten.Nodup)(i:Nat):(As.getD i []).Nodup:=by
 rw[List.getD_eq_getElem?_getD]
 cases q:As[i]? with
 |none=>exact List.nodup_nil
 |some C=>exact List.Nodup.sublist (List.sublist_flatten_of_mem (List.mem_of_getElem? q)) h
theorem dd1(h:sV n i=some k):k<n:=(ad4 h).2.1
def az2(j:Nat)(p:List Nat)(us:List T)(ρ:Fr):bU:=match ρ[j]? with
 |some (some t0)=>match vI (.lst true us) p t0 with
  |some t'=>.nx (ρ.set j (some t'))
  |none=>.no
 |_=>.no
def bk1(j:Nat)(p:List Nat)(u:T)(ρ:Fr):bU:=match ρ[j]? with
 |some (some t0)=>match vI u p t0 with
  |some t'=>.nx (ρ.set j (some t'))
  |none=>.no
 |_=>.no
theorem aj4{As As1:List (List Addr)}{H H1:Hp}{Z Z1:Addr->Prop}{ρ1:Fr}{σ:St}{j:Nat}{t0:T}{v0:V}{p:List Nat}{u u':T}{v:V}{B:List Addr}{D:at0}
 (F1:Frm Jn K cn H1 Z1 ρ1 σ As1)(e1:ρ1[j]?=some (some t0))(e2:σ[j]?=some (some v0))(pl:Plug K cn H1 Z1 t0 v0 (As1.getD j []) p u v B)
 {a:Addr}{o0 o1:HO}{C0 C:List Addr}(ev:v=.ref a)(eB:B=a::C0)(ha:H1 a=some o0)(hi:sS o0=false)(hC:a∉C->¬Z1 a->Rep K cn (L2.upd H1 a o1) Z1 u' (.ref a) (a::C))(ndC:C.Nodup)(hCz:∀x∈C,¬Z1 x)(hCa:∀x∈C,x∈As1.flatten->x∈C0)
 (evl:Ev As H Z As1 H1 Z1)(hCn:∀x∈C,x∈As.flatten\/H x=none)(w:Wp Jn K cn E As H Z D (bk1 j p u' ρ1)):D.nx σ (L2.upd H1 a o1):=by
 subst ev eB
 have nd:=rV F1.nd j
 have ndB:(a::C0).Nodup:=nd.sublist pl.sub
 have aA:a∈As1.getD j []:=pl.sub.mem List.mem_cons_self
 have aZ:¬Z1 a:=F1.nz a (aV aA)
 have aC:a∉C:=λh=>(List.nodup_cons.mp ndB).1 (hCa a h (aV aA))
 obtain⟨t',A',es,r',ndA,hA⟩:=pl.plug (L2.upd H1 a o1) Z1 u' (a::C) (λ_ h=>h) (λb o q c=>by
  rw[cH]
  . exact q
  . rintro rfl
    rcases c with c|c|c
    . exact c.2 List.mem_cons_self
    . exact aZ c
    . rw[ha]at q;cases q;rw[hi]at c;cases c) (hC aC aZ) (List.nodup_cons.mpr ⟨aC,ndC⟩) (λx hx hxa=>by
    rcases List.mem_cons.mp hx with rfl|hx
    . exact List.mem_cons_self
    . exact List.mem_cons_of_mem _ (hCa x hx (aV hxa)))
 unfold bk1 at w
 rw[e1]at w
 simp only[es]at w
 have hA':∀x∈A',x∈As1.getD j []\/x∈C:=λx hx=>by
  rcases hA x hx with q|q
  . exact .inl q.1
  . rcases List.mem_cons.mp q with rfl|q
    . exact .inl aA
    . exact .inr q
 have slots:∀{ρ:Fr}{σ:St}{As:List (List Addr)}{i:Nat},Slots K cn H1 Z1 ρ σ As->As.flatten.Nodup->(∀x∈As.flatten,x=a->x∈As.getD i [])->σ[i]?=some (some v0)->Slots K cn (L2.upd H1 a o1) Z1 (ρ.set i (some t')) σ (As.set i A'):=by
  intro ρ
  induction ρ with
  |nil=>intro σ As i h _ _ e;obtain⟨rfl,rfl⟩:=h;simp at e
  |cons o ρ ih=>
   intro σ As i h nd hx e
   obtain⟨w',σ',A,As',rfl,rfl,h1,h2⟩:=h
   rw[List.flatten_cons,List.nodup_append]at nd
   cases i with
   |zero=>
    simp at e
    subst e
    refine⟨_,σ',A',As',rfl,rfl,⟨v0,rfl,r'⟩,?_⟩
    have na:a∉As'.flatten:=λh=>by
     have:=hx a (by rw[List.flatten_cons,List.mem_append];exact .inr h) rfl
     exact nd.2.2 a (by simpa using this) a h rfl
    have:∀{ρ:Fr}{σ:St}{As:List (List Addr)},Slots K cn H1 Z1 ρ σ As->a∉As.flatten->Slots K cn (L2.upd H1 a o1) Z1 ρ σ As:=by
     intro ρ
     induction ρ with
     |nil=>intro σ As h _;exact h
     |cons o ρ ih=>
      intro σ As h hn
      obtain⟨w',σ',A,As',rfl,rfl,h1,h2⟩:=h
      rw[List.flatten_cons,List.mem_append,not_or]at hn
      refine⟨w',σ',A,As',rfl,rfl,?_,ih h2 hn.2⟩
      cases o with
      |none=>exact h1
      |some t=>obtain⟨v,e,r⟩:=h1;exact⟨v,e,r.upd ha hi hn.1 aZ⟩
    exact this h2 na
   |succ i=>
    refine⟨w',σ',A,As'.set i A',rfl,rfl,?_,ih h2 nd.2.1 (λx hx' ex=>?_) (by simpa using e)⟩
    . have na:a∉A:=λh=>by
       have:=hx a (by rw[List.flatten_cons,List.mem_append];exact .inl h) rfl
       have:a∈As'.getD i []:=by simpa using this
       exact nd.2.2 a h a (aV this) rfl
      cases o with
      |none=>exact h1
      |some t=>obtain⟨v,e,r⟩:=h1;exact⟨v,e,r.upd ha hi na aZ⟩
    . have:=hx x (by rw[List.flatten_cons,List.mem_append];exact .inr hx') ex
      simpa using this
 refine w σ (As1.set j A') _ Z1 ⟨slots F1.sl F1.nd (λx _ ex=>by rw[ex];exact aA) e2,mM ndA F1.nd (λb hb hf=>?_),λb hb z=>?_,λb z=>?_,F1.pn⟩ ?_
 . rcases hA' b hb with q|q
   . exact q
   . exact pl.sub.mem (List.mem_cons_of_mem _ (hCa b q hf))
 . rcases gO hb with q|q
   . rcases hA' b q with q|q
     . exact F1.nz b (aV q) z
     . exact hCz b q z
   . exact F1.nz b q z
 . by_cases e:b=a
   . rw[e,eD];exact(λz=>nomatch z)
   . rw[cH e];exact F1.zi b z
 . refine⟨λb o q hb=>?_,λb hb=>?_,evl.zz,evl.zn,λb hb=>evl.dom b ?_⟩
   . rw[cH]
     . exact evl.keep b o q hb
     . rintro rfl
       rcases evl.own b (aV aA)with z|z
       . exact hb z
       . rw[q]at z;cases z
   . rcases gO hb with q|q
     . rcases hA' b q with q|q
       . exact evl.own b (aV q)
       . exact hCn b q
     . exact evl.own b q
   . by_cases e:b=a
     . rw[e,eD]at hb;cases hb
     . rw[cH e]at hb;exact hb
theorem av9
 (F1:Frm Jn K cn H1 Z1 ρ1 σ As1)(e1:ρ1[j]?=some (some t0))(e2:σ[j]?=some (some v0))(pl:Plug K cn H1 Z1 t0 v0 (As1.getD j []) p (.lst true us) v B)
 (ev:v=.ref a)(eB:B=a::C0)(ha:H1 a=some (.lst ws))(hC:Reps K cn H1 Z1 us' ws' C)(ndC:C.Nodup)(hCz:∀x∈C,¬Z1 x)(hCa:∀x∈C,x∈As1.flatten->x∈C0)
 (evl:Ev As H Z As1 H1 Z1)(hCn:∀x∈C,x∈As.flatten\/H x=none)(w:Wp Jn K cn E As H Z D (az2 j p us' ρ1)):D.nx σ (L2.upd H1 a (.lst ws')):=by
 subst ev eB
 refine aj4 (E:=E) F1 e1 e2 pl rfl rfl ha rfl (u':=.lst true us') (λaC aZ=>?_) ndC hCz hCa evl hCn w
 simp only[Rep]
 exact⟨a,ws',C,rfl,rfl,eD,Reps.upd hC ha rfl aC aZ⟩
def lE(j:Nat)(mv:List Nat)(d:Fr->Res (List Nat))(e:Fr->Res T):Fr->bU:=λρ=>match ρ[j]? with
 |some (some t0)=>match d ρ with
  |.ok p=>match lD p t0 with
   |some (.lst true us)=>match e ρ with
    |.ok t=>if us.length<sizeLine then az2 j p (us++[t]) (kills mv ρ)else .no
    |.ex x=>.ex x
    |.no=>.no
   |_=>.no
  |.ex x=>.ex x
  |.no=>.no
 |_=>.no
theorem vU:∀(mv:List Nat),mv.contains j=false->∀As:List (List Addr),(eW mv As).getD j []=As.getD j []
 |[],_,_=>rfl
 |i::is,h,As=>by
  simp only[List.contains_cons,Bool.or_eq_false_iff,beq_eq_false_iff_ne]at h
  show(eW is (As.set i [])).getD j []=_
  rw[vU is h.2,List.getD_eq_getElem?_getD,List.getElem?_set_ne (Ne.symm h.1),<-List.getD_eq_getElem?_getD]
theorem wV:∀(mv:List Nat),mv.contains j=false->∀ρ:Fr,(kills mv ρ)[j]?=ρ[j]?
 |[],_,_=>rfl
 |i::is,h,ρ=>by
  simp only[List.contains_cons,Bool.or_eq_false_iff,beq_eq_false_iff_ne]at h
  show(kills is (ρ.set i none))[j]?=_
  rw[wV is h.2,List.getElem?_set_ne (Ne.symm h.1)]
theorem dj3{j:Nat}{mv:List Nat}{to te:TE}{d:Fr->Res (List Nat)}{e:Fr->Res T}(hd:RP Jn K cn E j to d)(he:RE Jn K cn E mv te e)(hj:mv.contains j=false:=by rfl):RS Jn K cn E (bz5 (tBM K "list" ap4 to (yQ te ai5))) (lE j mv d e):=λAs H Z ρ σ F D w=>by
 unfold lE at w
 cases e1:ρ[j]? with
 |none=>rw[e1]at w;exact w.elim
 |some o=>
  rw[e1]at w
  cases o with
  |none=>exact w.elim
  |some t0=>
   obtain⟨v0,e2,r0⟩:=F.sl.get e1
   refine hd As H Z ρ σ F t0 v0 e1 e2 r0 _ ?_
   simp only at w
   cases ed:d ρ with
   |ok p=>
    rw[ed]at w
    intro u v B H1 Z1 m1 hn pl
    simp only[hn]at w
    split at w
    . next us hq=>
      cases hq
      have q:=pl.rep
      simp only[Rep]at q
      obtain⟨a,ws,C0,rfl,rfl,ea,rs⟩:=q
      refine⟨.inl ⟨rfl,ws,SqL.of ea⟩,he As H1 Z1 ρ σ (F.mo m1) _ ?_⟩
      cases ee:e ρ with
      |ok t=>
       rw[ee]at w
       intro y H2 Z2 C p2
       simp only at w
       split at w
       . next hlen=>
         have pl2:=pl.mo p2.same p2.zz
         have ea2:=p2.same _ _ ea
         have rs2:=rs.same p2.same p2.zz
         refine⟨a,ws,y,rfl,rfl,ea2,by rw[Reps.length us rs];exact hlen,?_⟩
         have m2:=m1.trans p2.mo
         have F2:=(F.mo m2).kills mv
         have gD:(eW mv As).getD j []=As.getD j []:=vU mv hj As
         have pl3:Plug K cn H2 Z2 t0 v0 ((eW mv As).getD j []) p (.lst true us) (.ref a) (a::C0):=by rw[gD];exact pl2
         have ndB:(a::C0).Nodup:=(rV F.nd j).sublist pl.sub
         have c0A:∀x∈C0,x∈As.getD j []:=λx hx=>pl.sub.mem (List.mem_cons_of_mem _ hx)
         have cOut:∀x∈C,x∉(eW mv As).flatten:=λx hx hA=>by
          rcases p2.bn x hx with z|⟨i,hi,z⟩
          . obtain⟨o,ho,_⟩:=(F.mo m1).sl.dom x (eM hA)
            rw[ho]at z;cases z
          . exact xK F.nd hi z hA
         have c0In:∀x∈C0,x∈(eW mv As).flatten:=λx hx=>aV (i:=j) (by rw[gD];exact c0A x hx)
         refine av9 (As:=As) (H:=H) (Z:=Z) (E:=E) F2 (by rw[wV mv hj];exact e1) e2 pl3 rfl rfl ea2 (us':=us++[t]) (ws':=ws++[y]) (C:=C0++C) (Reps.append us rs2 (Reps.one p2.rep)) ?_ ?_ ?_ ?_ ?_ w
         . rw[List.nodup_append]
           exact⟨(List.nodup_cons.mp ndB).2,p2.nd,λx hx y hy e=>by subst e;exact cOut x hy (c0In x hx)⟩
         . intro x hx
           rcases List.mem_append.mp hx with hx|hx
           . exact F2.nz x (c0In x hx)
           . exact p2.bz x hx
         . intro x hx hA
           rcases List.mem_append.mp hx with hx|hx
           . exact hx
           . exact absurd hA (cOut x hx)
         . exact⟨λb o q _=>m2.same b o q,λb hb=>.inl (eM hb),m2.zz,λb h=>(m2.zn b h).imp_right .inr,λb h=>m2.same.free h⟩
         . intro x hx
           rcases List.mem_append.mp hx with hx|hx
           . exact .inl (aV (c0A x hx))
           . rcases p2.bn x hx with z|⟨i,hi,z⟩
             . exact .inr (m1.same.free z)
             . exact .inl (aV z)
       . exact w.elim
      |ex x=>rw[ee]at w;exact WpX.ev w m1.ev
      |no=>rw[ee]at w;exact w
    . exact w.elim
   |ex x=>rw[ed]at w;exact w
   |no=>rw[ed]at w;exact w
def az9(j:Nat)(mv:List Nat)(e:Fr->Res T)(d:Fr->Res (List Nat))(i:Fr->Res T):Fr->bU:=λρ=>match e ρ with
 |.ok t=>match(kills mv ρ)[j]? with
  |some (some t0)=>match d (kills mv ρ)with
   |.ok p=>match lD p t0 with
    |some (.lst true us)=>match i (kills mv ρ)with
     |.ok (.int n)=>match sV us.length n with
      |some k=>az2 j p (us.set k t) (kills mv ρ)
      |none=>.no
     |.ok _=>.no
     |.ex x=>.ex x
     |.no=>.no
    |_=>.no
   |.ex x=>.ex x
   |.no=>.no
  |_=>.no
 |.ex x=>.ex x
 |.no=>.no
theorem Reps.put(rt:Rep K cn H Z t y C):∀(us:List T){ws:List V}{A:List Addr}{k:Nat},Reps K cn H Z us ws A->k<us.length->∃B1 Bo B2,A=B1++Bo++B2/\Reps K cn H Z (us.set k t) (ws.set k y) (B1++C++B2)
 |[],_,_,_,_,e=>by simp at e
 |u::us,ws,A,0,r,e=>by
  simp only[Reps]at r
  obtain⟨v,r',P,Q',rfl,rfl,h1,h2⟩:=r
  refine⟨[],P,Q',by simp,?_⟩
  simp only[List.set_cons_zero,Reps]
  exact⟨y,r',C,Q',rfl,by simp,rt,h2⟩
 |u::us,ws,A,k+1,r,e=>by
  simp only[Reps]at r
  obtain⟨v,r',P,Q',rfl,rfl,h1,h2⟩:=r
  obtain⟨X1,X2,X3,rfl,hr⟩:=Reps.put rt us (k:=k) h2 (by simpa using e)
  refine⟨P++X1,X2,X3,by simp,?_⟩
  simp only[List.set_cons_succ,Reps]
  exact⟨v,r'.set k y,P,X1++C++X3,rfl,by simp,h1,hr⟩
theorem da5{j:Nat}{mv:List Nat}{te to ti:TE}{e:Fr->Res T}{d:Fr->Res (List Nat)}{i:Fr->Res T}(he:RE Jn K cn E mv te e)(hd:RP Jn K cn E j to d)(hi:RB Jn K cn E ti i):RS Jn K cn E (ba1 te (du4 to ti cx5)) (az9 j mv e d i):=λAs H Z ρ σ F D w=>by
 unfold az9 at w
 refine he As H Z ρ σ F _ ?_
 cases ee:e ρ with
 |ok t=>
  rw[ee]at w
  intro y H1 Z1 C p1
  simp only at w
  have F1:=(F.mo p1.mo).kills mv
  cases e1:(kills mv ρ)[j]? with
  |none=>rw[e1]at w;exact w.elim
  |some o=>
   rw[e1]at w
   cases o with
   |none=>exact w.elim
   |some t0=>
    obtain⟨v0,e2,r0⟩:=F1.sl.get e1
    simp only at w
    have ev1:Ev As H Z (eW mv As) H1 Z1:=⟨λb o q _=>p1.same b o q,λb hb=>.inl (eM hb),p1.zz,λb h=>(p1.zn b h).imp_right .inr,λb h=>p1.same.free h⟩
    refine hd (eW mv As) H1 Z1 (kills mv ρ) σ F1 t0 v0 e1 e2 r0 _ ?_
    cases ed:d (kills mv ρ)with
    |ok p=>
     rw[ed]at w
     intro u v B H2 Z2 m2 hn pl
     simp only[hn]at w
     split at w
     . next us hq=>
       cases hq
       refine hi (eW mv As) H2 Z2 (kills mv ρ) σ (F1.mo m2) _ ?_
       cases ei:i (kills mv ρ)with
       |ok x=>
        rw[ei]at w
        intro vi H3 Z3 Bi p3
        cases x with
        |int n=>
         simp only at w
         have qi:=p3.rep
         simp only[Rep]at qi
         obtain⟨rfl,_⟩:=qi
         cases ek:sV us.length n with
         |none=>rw[ek]at w;exact w.elim
         |some k=>
          rw[ek]at w
          have m3:=m2.trans p3.mo
          have pl3:=pl.mo p3.same p3.zz
          have q:=pl3.rep
          simp only[Rep]at q
          obtain⟨a,ws,C0,rfl,rfl,ea,rs⟩:=q
          have rt:Rep K cn H3 Z3 t y C:=p1.rep.same m3.same m3.zz
          have F3:=F1.mo m3
          have lw:=Reps.length us rs
          obtain⟨B1,Bo,B2,rfl,rs'⟩:=Reps.put rt us rs (dd1 ek)
          refine⟨a,ws,n,k,rfl,rfl,ea,by rw[lw];exact ek,?_⟩
          have ndB:(a::(B1++Bo++B2)).Nodup:=(rV F1.nd j).sublist pl.sub
          have cA:∀x∈B1++Bo++B2,x∈(eW mv As).getD j []:=λx hx=>pl.sub.mem (List.mem_cons_of_mem _ hx)
          have i1:∀x∈B1,x∈B1++Bo++B2:=λx hx=>List.mem_append_left _ (List.mem_append_left _ hx)
          have i2:∀x∈B2,x∈B1++Bo++B2:=λx hx=>List.mem_append_right _ hx
          have cOut:=p1.out F
          have nd1:=(List.nodup_cons.mp ndB).2
          rw[List.append_assoc,List.nodup_append]at nd1
          obtain⟨n1,n2,n3⟩:=nd1
          rw[List.nodup_append]at n2
          refine av9 (As:=As) (H:=H) (Z:=Z) (E:=E) F3 e1 e2 pl3 rfl rfl ea (us':=us.set k t) (ws':=ws.set k y) (C:=B1++C++B2) rs' ?_ ?_ ?_ (ev1.trans m3.ev) ?_ w
          . rw[List.append_assoc,List.nodup_append]
            refine⟨n1,?_,λx hx z hz e=>?_⟩
            . rw[List.nodup_append]
              exact⟨p1.nd,n2.2.1,λx hx z hz e=>by subst e;exact cOut x hx (aV (cA x (i2 x hz)))⟩
            . subst e
              rcases List.mem_append.mp hz with hz|hz
              . exact cOut x hz (aV (cA x (i1 x hx)))
              . exact n3 x hx x (List.mem_append_right _ hz) rfl
          . intro x hx
            rcases List.mem_append.mp hx with hx|hx
            . rcases List.mem_append.mp hx with hx|hx
              . exact F3.nz x (aV (cA x (i1 x hx)))
              . intro z
                rcases m3.zn x z with z|z
                . exact p1.bz x hx z
                . obtain⟨o,ho,_⟩:=p1.rep.dom t x hx
                  rw[ho]at z;cases z
            . exact F3.nz x (aV (cA x (i2 x hx)))
          . intro x hx hA
            rcases List.mem_append.mp hx with hx|hx
            . rcases List.mem_append.mp hx with hx|hx
              . exact i1 x hx
              . exact absurd hA (cOut x hx)
            . exact i2 x hx
          . intro x hx
            rcases List.mem_append.mp hx with hx|hx
            . rcases List.mem_append.mp hx with hx|hx
              . exact .inl (eM (aV (cA x (i1 x hx))))
              . exact p1.inA x hx
            . exact .inl (eM (aV (cA x (i2 x hx))))
        |_=>exact w.elim
       |ex x=>rw[ei]at w;exact WpX.ev w (ev1.trans m2.ev)
       |no=>rw[ei]at w;exact w
     . exact w.elim
    |ex x=>rw[ed]at w;exact WpX.ev w ev1
    |no=>rw[ed]at w;exact w
 |ex x=>rw[ee]at w;exact w
 |no=>rw[ee]at w;exact w
def bP:bU->Res T
 |.nx _=>.ok .non
 |.rt t=>.ok t
 |.ex x=>.ex x
 |_=>.no
def cG(n:Nat)(ts:List T):Fr:=ts.map some++List.replicate (n-ts.length) none
theorem az6:∀(m:Nat),Slots K cn H Z (List.replicate m none) (List.replicate m none) (List.replicate m [])
 |0=>⟨rfl,rfl⟩
 |m+1=>⟨none,List.replicate m none,[],List.replicate m [],rfl,rfl,rfl,az6 m⟩
theorem xL:∀(ts:List T){vs:List V},Reps K cn H Z ts vs []->Slots K cn H Z (ts.map some++List.replicate m none) (vs.map some++List.replicate m none) (List.replicate (ts.length+m) [])
 |[],vs,h=>by
  simp only[Reps]at h
  obtain⟨rfl,_⟩:=h
  simpa using az6 m
 |t::ts,vs,h=>by
  simp only[Reps]at h
  obtain⟨v,r,B,C,rfl,e,h1,h2⟩:=h
  have eb:B=[]/\C=[]:=by simpa using e.symm
  obtain⟨rfl,rfl⟩:=eb
  have:=xL (m:=m) ts h2
  refine⟨some v,_,[],List.replicate (ts.length+m) [],rfl,?_,⟨v,rfl,h1⟩,this⟩
  rw[List.length_cons,show ts.length+1+m=(ts.length+m)+1 by omega]
  rfl
theorem lH:∀m:Nat,(List.replicate m ([]:List Addr)).flatten=[]
 |0=>rfl
 |m+1=>by rw[List.replicate_succ,List.flatten_cons,lH m];rfl
theorem ay4 {P : Program} {w : World} {mg : Str → Option Value} {base : Heap} {x qual : Str} {st : Stmt} {f : Addr} {fd : FuncData} {N ps : List Str} {k : Nat} {d : Fr → bU} (F : Fun K x qual st f fd) (S : bB N ps (aM st))
    (hbody : ∀ (cdv : Value) (A : Around) (outer : List Env) (s : Shared) (H : Hp) (E : XK), Room k (A.deeper (envOfC qual (aM st) s.heap.objs.size f cdv)) →
      ∃ t, PSs (kY jM P w K mg base N qual (aM st) f cdv A outer s H E).nox (dH st) t ∧ RS [] K cn E t d) {n : Nat} {G : List T → Res T} (hn : ps.length = n) (hG : ∀ ts, G ts = bP (d (cG N.length ts))) : FnOk P w K mg base jM (k + 1) f fd ps (bG K cn n G) := by
  have eG : G = fun ts => bP (d (cG N.length ts)) := funext hG
  subst hn eG
  refine F.ok S (fun vs H Q E h => h.1) fun cdv A outer s H vs Q E hr h => ?_
  obtain ⟨hl, ts, Z, zi, r, w⟩ := h
  obtain ⟨t, hp, ht⟩ := hbody cdv A outer s H E hr
  refine ⟨t, hp, ?_⟩
  have lt := Reps.length ts r
  have sl : Slots K cn H Z (cG N.length ts) (L2.iY N vs) (List.replicate (ts.length + (N.length - ts.length)) []) := by
    unfold cG L2.iY
    rw [lt]
    exact xL ts r
  have F0 : Frm [] K cn H Z (cG N.length ts) (L2.iY N vs) (List.replicate (ts.length + (N.length - ts.length)) []) := ⟨sl, by rw [lH]; exact List.nodup_nil, by rw [lH]; exact dR, zi, dR⟩
  refine ht _ H Z _ _ F0 _ ?_
  have bn : ∀ {B : List Addr} {H' : Hp} {Z' : Addr → Prop}, Ev (List.replicate (ts.length + (N.length - ts.length)) []) H Z [B] H' Z' → ∀ b ∈ B, H b = none := fun {B H' Z'} e b hb => by
    rcases e.own b (by simpa using hb) with q | q
    · rw [lH] at q; cases q
    · exact q
  have sm : ∀ {As' : List (List Addr)} {H' : Hp} {Z' : Addr → Prop}, Ev (List.replicate (ts.length + (N.length - ts.length)) []) H Z As' H' Z' → Same H H' ∧ ∀ a, Z' a → Z a ∨ H a = none := fun {As' H' Z'} e => ⟨fun b o q => e.keep b o q (by rw [lH]; exact (fun z => nomatch z)), fun a z => by
    rcases e.zn a z with q | q | q
    · exact .inl q
    · rw [lH] at q; cases q
    · exact .inr q⟩
  cases ed : d (cG N.length ts) with
  | nx ρ =>
    simp only [ed, bP] at w
    intro σ' As' H' Z' F' ev
    exact w .non H' Z' [] ⟨(sm ev).1, ev.zz, (sm ev).2, F'.zi, by simp [Rep], List.nodup_nil, dR, dR⟩
  | rt t =>
    simp only [ed, bP] at w
    intro v H' Z' B p
    exact w v H' Z' B ⟨(sm p.ev).1, p.ev.zz, (sm p.ev).2, p.zi, p.rep, p.nd, p.bz, fun b hb => .inl (bn p.ev b hb)⟩
  | ex x =>
    simp only [ed, bP] at w
    exact WpX.ev w ⟨fun _ _ q _ => q, fun a ha => (by rw [lH] at ha; exact nomatch ha), fun _ h => h, fun _ h => .inl h, fun _ h => h⟩
  | bk ρ => simp only [ed, bP] at w; exact w.elim
  | rm ρ t => simp only [ed, bP] at w; exact w.elim
  | ct ρ => simp only [ed, bP] at w; exact w.elim
  | no => simp only [ed, bP] at w; exact w.elim
theorem bI{P:Program}{w:World}{mg:Str->Option Value}{base:Heap}{x:Str}{st:Stmt}{N ps:List Str}{k:Nat}{d:Fr->bU}(F:eF K mg x st)(S:bB N ps (aM st))
 (hb:∀(kV doc pm:Value)(an:Option Addr)(cdv ct:Value)(us:List Value),us.length=ps.length->bindArgs (PySem.W.fnOf x x (iM st) (dH st) (aM st) .none kV doc pm an cdv ct) ⟨us,[]⟩=pure (ps.zip us))
 (hbody:∀(f:Addr)(cdv:Value)(A:Around)(outer:List Env)(s:Shared)(H:Hp)(E:XK),Room k (A.deeper (envOfC x (aM st) s.heap.objs.size f cdv))->
  ∃t,PSs (kY jM P w K mg base N x (aM st) f cdv A outer s H E).nox (dH st) t/\RS [] K cn E t d){n:Nat}{G:List T->Res T}(hn:ps.length=n)(hG:∀ts,G ts=bP (d (cG N.length ts))):eC P w K mg base (k+1) x ps (bG K cn n G):=by
 obtain⟨f,fd,F,hm⟩:=F.ex
 exact⟨f,fd,ay4 F S (λcdv A outer s H E hr=>hbody f cdv A outer s H E hr) hn hG,hm,F.kp,F.binds hb⟩
theorem law_fn(F:FnOk P w K mg base jM k f fd [p] (bG K cn 1 G))
 (h:∀ns:List Int,ns.length<=63->(∀n∈ns,Builtin.Int.intBits n<=1048576)->G [.lst false (ns.map .int)]=.ok (.bl true)):FnOk P w K mg base jM k f fd [p] (av8 K):=by
 refine F.imp λvs H Q E q=>?_
 obtain⟨a,ns,rfl,hs,h63,hbits,hq⟩:=q
 have rints:∀(Z:Addr->Prop)(ns:List Int),Reps K cn H Z (ns.map T.int) (ns.map V.int) []:=by
  intro Z ns
  induction ns with
  |nil=>simp[Reps]
  |cons n ns ih=>
   simp only[List.map_cons,Reps]
   exact⟨.int n,ns.map V.int,[],[],rfl,rfl,by simp[Rep],ih⟩
 refine⟨rfl,[.lst false (ns.map .int)],λb=>b=a/\H b≠none,λb z=>z.2,Reps.one ?_,?_⟩
 . simp only[Rep]
   refine⟨a,ns.map V.int,rfl,trivial,?_,rints _ ns⟩
   rcases hs with(hs|⟨o,hs⟩)|hs
   . exact .inl ⟨hs,rfl,by rw[hs];exact(λz=>nomatch z)⟩
   . exact .inr (.inl ⟨o,hs⟩)
   . exact .inr (.inr hs)
 . rw[h ns h63 hbits]
   intro v H' Z' B p
   have q:=p.rep
   simp only[Rep]at q
   rw[q.1]
   exact hq H'
end
end TL
namespace L2
open PySem PySem.Spec PyProof.Rows
def EqD(K:PySem.W.Frag)(H:Hp):Nat->V->V->Bool->Prop
 |0,x,y,b=>pT x=true/\pT y=true/\b=eqV x y
 |n+1,x,y,b=>(pT x=true/\pT y=true/\b=eqV x y)\/
  (∃p q xs ys,x=.ref p/\y=.ref q/\SqL K H p xs/\SqL K H q ys/\((xs.length≠ys.length/\b=false)\/
   (xs.length=ys.length/\∃es:List Bool,es.length=xs.length/\(∀(j:Nat) x y e,xs[j]?=some x->ys[j]?=some y->es[j]?=some e->EqD K H n x y e)/\b=es.all id)))\/
  (∃p q xs ys,x=.ref p/\y=.ref q/\SqT K H p xs/\SqT K H q ys/\∃es:List Bool,es.length=min xs.length ys.length/\
   (∀(j:Nat) x y e,xs[j]?=some x->ys[j]?=some y->es[j]?=some e->EqD K H n x y e)/\b=(es.all id&&xs.length==ys.length))
theorem bh1:∀{x:V},pT x=true->eqV x x=true
 |.non,_=>rfl
 |.bl b,_=>by simp[eqV]
 |.int i,_=>by simp[eqV]
 |.str s,_=>by simp[eqV]
theorem pI(es:List Bool):((List.range es.length).all λj=>es.getD j true)=es.all id:=by
 induction es with
 |nil=>rfl
 |cons b es ih=>
  show(List.range (es.length+1)).all _=_
  rw[List.range_succ_eq_map,List.all_cons,List.all_map]
  show(b&&_)=(b&&es.all id)
  rw[<-ih]
  rfl
section
variable {X : Cx} {pins : List (Addr × Obj)} {σ : St} {H : Hp} {s : Shared}
theorem EqD.self(I:Inv X pins σ H s):∀(n:Nat)(x:V)(b:Bool),EqD X.K H n x x b->b=true
 |0,x,b,h=>by
  obtain⟨h1,_,rfl⟩:=h
  exact bh1 h1
 |n+1,x,b,h=>by
  rcases h with⟨h1,_,rfl⟩|⟨p,q,xs,ys,e1,e2,s1,s2,h⟩|⟨p,q,xs,ys,e1,e2,s1,s2,es,hl,he,rfl⟩
  . exact bh1 h1
  . rw[e1]at e2
    cases e2
    have:=I.list_inj s1 s2
    subst this
    rcases h with⟨h,_⟩|⟨_,es,hl,he,rfl⟩
    . exact absurd rfl h
    . rw[List.all_eq_true]
      intro e hm
      obtain⟨j,hj,rfl⟩:=List.getElem_of_mem hm
      exact EqD.self I n xs[j] es[j] (he j xs[j] xs[j] es[j] (List.getElem?_eq_getElem (by omega)) (List.getElem?_eq_getElem (by omega)) (List.getElem?_eq_getElem hj))
  . rw[e1]at e2
    cases e2
    have:=I.tuple_inj s1 s2
    subst this
    rw[beq_self_eq_true,Bool.and_true,List.all_eq_true]
    intro e hm
    obtain⟨j,hj,rfl⟩:=List.getElem_of_mem hm
    have hx:j<xs.length:=by omega
    exact EqD.self I n xs[j] es[j] (he j xs[j] xs[j] es[j] (List.getElem?_eq_getElem hx) (List.getElem?_eq_getElem hx) (List.getElem?_eq_getElem hj))
theorem fQ(r:Vals xs us)(h:j<us.length):∃x,xs[j]?=some x/\RelV x us[j]:=by
 have l:=r.length
 have e1:xs[j]?=some xs[j]:=List.getElem?_eq_getElem (by omega)
 obtain⟨u,hu,ru⟩:=r.get e1
 rw[List.getElem?_eq_getElem h]at hu
 exact⟨xs[j],e1,by rw[Option.some.inj hu];exact ru⟩
theorem nW(I:Inv X pins σ H s):∀(n:Nat){A:Around}{x y:V}{u v:Value}{b:Bool},A.units+n<cLine->RelV x u->RelV y v->EqD X.K H n x y b->SeqAt.EqAt A s u v b
 |0,A,x,y,u,v,b,hu,rx,ry,h=>by
  obtain⟨h1,h2,rfl⟩:=h
  exact ce0 rx ry h1 h2
 |n+1,A,x,y,u,v,b,hu,rx,ry,h=>by
  have h0:=h
  rcases h with⟨h1,h2,rfl⟩|⟨p,q,xs,ys,rfl,rfl,s1,s2,h⟩|⟨p,q,xs,ys,rfl,rfl,s1,s2,es,hl,he,rfl⟩
  . exact ce0 rx ry h1 h2
  . cases rx
    cases ry
    by_cases hpq:p=q
    . subst hpq
      rw[EqD.self I (n+1) _ b h0]
      exact SeqAt.EqAt.same _
    . obtain⟨its,r1,p1,_⟩:=I.list s1
      obtain⟨jts,r2,p2,_⟩:=I.list s2
      have l1:=r1.length
      have l2:=r2.length
      refine SeqAt.EqAt.of_refs hpq ?_
      rcases h with⟨hne,rfl⟩|⟨heq,es,hl,he,rfl⟩
      . exact SeqAt.RcAt.lists_lengths p1.isList p2.isList (by simp only[List.size_toArray,bne_iff_ne,ne_eq];omega) (by omega)
      . have:=SeqAt.RcAt.lists (A:=A) (s:=s) (e:=λj=>es.getD j true) p1.isList p2.isList (by simp only[List.size_toArray];omega) (by omega) (λj h1 h2=>by
         simp only[List.size_toArray]at h1 h2
         simp only[List.getElem_toArray]
         obtain⟨x,ex,rx⟩:=fQ r1 h1
         obtain⟨y,ey,ry⟩:=fQ r2 h2
         have hj:j<es.length:=by omega
         have eg:es.getD j true=es[j]:=by rw[List.getD_eq_getElem?_getD,List.getElem?_eq_getElem hj];rfl
         rw[eg]
         exact nW I n (by show A.units+1+n<cLine;omega) rx ry (he j x y es[j] ex ey (List.getElem?_eq_getElem hj)))
        rw[List.size_toArray,show its.length=es.length by omega,pI]at this
        exact this
  . cases rx
    cases ry
    by_cases hpq:p=q
    . subst hpq
      rw[EqD.self I (n+1) _ _ h0]
      exact SeqAt.EqAt.same _
    . obtain⟨its,r1,p1,_⟩:=I.tuple s1
      obtain⟨jts,r2,p2,_⟩:=I.tuple s2
      have l1:=r1.length
      have l2:=r2.length
      refine SeqAt.EqAt.of_refs hpq ?_
      have:=SeqAt.RcAt.tuples (A:=A) (s:=s) (e:=λj=>es.getD j true) (show s.heap.IsTuple p its.toArray from p1) (show s.heap.IsTuple q jts.toArray from p2) (by omega) (λj h1 h2=>by
       simp only[List.size_toArray]at h1 h2
       simp only[List.getElem_toArray]
       obtain⟨x,ex,rx⟩:=fQ r1 h1
       obtain⟨y,ey,ry⟩:=fQ r2 h2
       have hj:j<es.length:=by omega
       have eg:es.getD j true=es[j]:=by rw[List.getD_eq_getElem?_getD,List.getElem?_eq_getElem hj];rfl
       rw[eg]
       exact nW I n (by show A.units+1+n<cLine;omega) rx ry (he j x y es[j] ex ey (List.getElem?_eq_getElem hj)))
      simp only[List.size_toArray]at this
      rw[show min its.length jts.length=es.length by omega,pI,<-l1,<-l2]at this
      exact this
def bv5(K:PySem.W.Frag)(n:Nat):R2:=λx y H Q=>rEq x y H Q\/(∃p q b,x=.ref p/\y=.ref q/\EqD K H n x y b/\Q (.bl b) H)
theorem dw1(hu:X.A.units+n<cLine):OpR X (compareOp .Eq) (bv5 X.K n):=by
 intro pins s σ H x y v u Q I rx ry h
 rcases h with h|⟨p,q,b,rfl,rfl,h,hq⟩
 . exact dk6 s σ H x y v u Q I rx ry h
 . cases rx
   cases ry
   have bP:EP X pins σ Q (.bool b) s:=⟨.bl b,H,I,rfl,hq⟩
   cases n with
   |zero=>exact absurd h.1 (λz=>by cases z)
   |succ n=>
    rcases h with⟨h1,_,_⟩|⟨p,q,xs,ys,e1,e2,s1,s2,h⟩|⟨p,q,xs,ys,e1,e2,s1,s2,es,hl,he,rfl⟩
    . exact absurd h1 (λz=>by cases z)
    . cases e1
      cases e2
      obtain⟨its,r1,p1,_⟩:=I.list s1
      obtain⟨jts,r2,p2,_⟩:=I.list s2
      have l1:=r1.length
      have l2:=r2.length
      rcases h with⟨hne,rfl⟩|⟨heq,es,hl,he,rfl⟩
      . exact SeqAt.eq_list_lengthsAt p1.isList p2.isList (by simp only[List.size_toArray,bne_iff_ne,ne_eq];omega) (by omega) bP
      . refine SeqAt.eq_listAt (e:=λj=>es.getD j true) p1.isList p2.isList (by simp only[List.size_toArray];omega) (by omega) (λj h1 h2=>?_) ?_
        . simp only[List.size_toArray]at h1 h2
          simp only[List.getElem_toArray]
          obtain⟨x,ex,rx⟩:=fQ r1 h1
          obtain⟨y,ey,ry⟩:=fQ r2 h2
          have hj:j<es.length:=by omega
          have eg:es.getD j true=es[j]:=by rw[List.getD_eq_getElem?_getD,List.getElem?_eq_getElem hj];rfl
          rw[eg]
          exact nW I n (by show X.A.units+1+n<cLine;omega) rx ry (he j x y es[j] ex ey (List.getElem?_eq_getElem hj))
        . rw[List.size_toArray,show its.length=es.length by omega,pI]
          exact bP
    . cases e1
      cases e2
      obtain⟨its,r1,p1,_⟩:=I.tuple s1
      obtain⟨jts,r2,p2,_⟩:=I.tuple s2
      have l1:=r1.length
      have l2:=r2.length
      refine SeqAt.eq_tupleAt (e:=λj=>es.getD j true) (show s.heap.IsTuple p its.toArray from p1) (show s.heap.IsTuple q jts.toArray from p2) (by omega) (λj h1 h2=>?_) ?_
      . simp only[List.size_toArray]at h1 h2
        simp only[List.getElem_toArray]
        obtain⟨x,ex,rx⟩:=fQ r1 h1
        obtain⟨y,ey,ry⟩:=fQ r2 h2
        have hj:j<es.length:=by omega
        have eg:es.getD j true=es[j]:=by rw[List.getD_eq_getElem?_getD,List.getElem?_eq_getElem hj];rfl
        rw[eg]
        exact nW I n (by show X.A.units+1+n<cLine;omega) rx ry (he j x y es[j] ex ey (List.getElem?_eq_getElem hj))
      . simp only[List.size_toArray]
        rw[show min its.length jts.length=es.length by omega,pI,<-l1,<-l2]
        exact bP
def ci3(K:PySem.W.Frag)(n:Nat)(neg:Bool):R2:=λx y H Q=>(∃p ys,y=.ref p/\(SqL K H p ys\/SqT K H p ys)/\∃es:List Bool,es.length=ys.length/\(∀(j:Nat) y e,ys[j]?=some y->es[j]?=some e->EqD K H n y x e)/\Q (.bl (if neg then !es.any id else es.any id)) H)\/
 (∃i j,x=.str i/\y=.str j/\Q (.bl (if neg then !(!(Builtin.Str.occurrences j i 0 j.length 1).isEmpty)else(!(Builtin.Str.occurrences j i 0 j.length 1).isEmpty))) H)
theorem EqD.det(I:Inv X pins σ H s):∀(n:Nat)(x y:V)(b c:Bool),EqD X.K H n x y b->EqD X.K H n x y c->b=c:=by
 intro n
 induction n with
 |zero=>intro x y b c h1 h2;rw[h1.2.2,h2.2.2]
 |succ n ih=>
  intro x y b c h1 h2
  have flat_ref:∀{p:Addr},pT (.ref p)=true->False:=λh=>by cases h
  rcases h1 with⟨a1,a2,rfl⟩|⟨p,q,xs,ys,rfl,rfl,s1,s2,h1⟩|⟨p,q,xs,ys,rfl,rfl,s1,s2,es,hl,he,rfl⟩
  . rcases h2 with⟨b1,b2,rfl⟩|⟨p,q,xs,ys,rfl,rfl,_⟩|⟨p,q,xs,ys,rfl,rfl,_⟩
    . rfl
    . exact(flat_ref a1).elim
    . exact(flat_ref a1).elim
  . rcases h2 with⟨b1,b2,rfl⟩|⟨p',q',xs',ys',e1,e2,t1,t2,h2⟩|⟨p',q',xs',ys',e1,e2,t1,t2,_⟩
    . exact(flat_ref b1).elim
    . cases e1
      cases e2
      have z1:=I.list_inj s1 t1
      have z2:=I.list_inj s2 t2
      subst z1 z2
      rcases h1 with⟨n1,rfl⟩|⟨n1,es,hl,he,rfl⟩
      . rcases h2 with⟨n2,rfl⟩|⟨n2,_⟩
        . rfl
        . exact absurd n2 n1
      . rcases h2 with⟨n2,rfl⟩|⟨n2,es',hl',he',rfl⟩
        . exact absurd n1 n2
        . have:es=es':=by
           apply List.ext_getElem (by omega)
           intro j h1 h2
           exact ih xs[j] ys[j] es[j] es'[j] (he j _ _ _ (List.getElem?_eq_getElem (by omega)) (List.getElem?_eq_getElem (by omega)) (List.getElem?_eq_getElem h1)) (he' j _ _ _ (List.getElem?_eq_getElem (by omega)) (List.getElem?_eq_getElem (by omega)) (List.getElem?_eq_getElem h2))
          rw[this]
    . cases e1
      obtain⟨_,_,⟨o,n',eo,c1,_⟩,_⟩:=I.list s1
      obtain⟨_,_,⟨o',eo',c2,_⟩,_⟩:=I.tuple t1
      rw[eo]at eo'
      cases eo'
      rw[c1]at c2
      exact absurd c2 (by decide)
  . rcases h2 with⟨b1,b2,rfl⟩|⟨p',q',xs',ys',e1,e2,t1,t2,h2⟩|⟨p',q',xs',ys',e1,e2,t1,t2,es',hl',he',rfl⟩
    . exact(flat_ref b1).elim
    . cases e1
      obtain⟨_,_,⟨o,n',eo,c1,_⟩,_⟩:=I.list t1
      obtain⟨_,_,⟨o',eo',c2,_⟩,_⟩:=I.tuple s1
      rw[eo]at eo'
      cases eo'
      rw[c1]at c2
      exact absurd c2 (by decide)
    . cases e1
      cases e2
      have z1:=I.tuple_inj s1 t1
      have z2:=I.tuple_inj s2 t2
      subst z1 z2
      have:es=es':=by
       apply List.ext_getElem (by omega)
       intro j h1 h2
       have hx:j<xs.length:=by omega
       have hy:j<ys.length:=by omega
       exact ih xs[j] ys[j] es[j] es'[j] (he j _ _ _ (List.getElem?_eq_getElem hx) (List.getElem?_eq_getElem hy) (List.getElem?_eq_getElem h1)) (he' j _ _ _ (List.getElem?_eq_getElem hx) (List.getElem?_eq_getElem hy) (List.getElem?_eq_getElem h2))
      rw[this]
theorem bx5(I:Inv X pins σ H s){n:Nat}{x:V}{ys:List V}{us:List Value}{es:List Bool}(r:Vals ys us)(hl:es.length=ys.length)(he:∀(j:Nat) y e,ys[j]?=some y->es[j]?=some e->EqD X.K H n y x e):
 ∃e:Value->Bool,(∀u∈us,∃y,RelV y u/\EqD X.K H n y x (e u))/\us.any e=es.any id:=by
 refine⟨λu=>@decide (∃y,RelV y u/\EqD X.K H n y x true) (Classical.propDecidable _),?_,?_⟩
 . intro u hu
   obtain⟨j,hj,rfl⟩:=List.getElem_of_mem hu
   obtain⟨y,ey,ry⟩:=fQ r hj
   have lj:j<es.length:=by rw[hl,r.length];exact hj
   have q:=he j y es[j] ey (List.getElem?_eq_getElem lj)
   refine⟨y,ry,?_⟩
   by_cases c:∃y,RelV y us[j]/\EqD X.K H n y x true
   . obtain⟨y',ry',q'⟩:=c
     have:=ry.inj ry'
     subst this
     simp only[show(∃y,RelV y us[j]/\EqD X.K H n y x true) from⟨y,ry,q'⟩,decide_true]
     exact q'
   . simp only[c,decide_false]
     cases eb:es[j]with
     |false=>rw[eb]at q;exact q
     |true=>rw[eb]at q;exact absurd ⟨y,ry,q⟩ c
 . rw[Bool.eq_iff_iff,List.any_eq_true,List.any_eq_true]
   constructor
   . rintro⟨u,hu,c⟩
     obtain⟨j,hj,rfl⟩:=List.getElem_of_mem hu
     obtain⟨y,ey,ry⟩:=fQ r hj
     have lj:j<es.length:=by rw[hl,r.length];exact hj
     obtain⟨y',ry',q'⟩:=@of_decide_eq_true _ (Classical.propDecidable _) c
     have:=ry.inj ry'
     subst this
     have q:=he j y es[j] ey (List.getElem?_eq_getElem lj)
     exact⟨es[j],List.getElem_mem lj,EqD.det I n y x es[j] true q q'⟩
   . rintro⟨e,hm,c⟩
     obtain⟨j,hj,rfl⟩:=List.getElem_of_mem hm
     have c':es[j]=true:=c
     have lj:j<us.length:=by rw[<-r.length,<-hl];exact hj
     obtain⟨y,ey,ry⟩:=fQ r lj
     have q:=he j y es[j] ey (List.getElem?_eq_getElem hj)
     rw[c']at q
     exact⟨us[j],List.getElem_mem lj,@decide_eq_true _ (Classical.propDecidable _) ⟨y,ry,q⟩⟩
theorem df0{n:Nat}(hu:X.A.units+n+1<cLine):OpR X (compareOp .In) (ci3 X.K n false):=by
 intro pins s σ H x y v u Q I rx ry h
 rcases h with⟨p,ys,rfl,hs,es,hl,he,q⟩|⟨i,j,rfl,rfl,q⟩
 . cases ry
   rcases hs with hs|hs
   . obtain⟨its,r,pl,_⟩:=I.list hs
     obtain⟨e,h1,h2⟩:=bx5 I r hl he
     refine SeqAt.in_listAt e pl.isList (λy hy=>?_) ?_
     . obtain⟨y',ry',q'⟩:=h1 y (by simpa using hy)
       exact nW I n (by show X.A.units+1+n<cLine;omega) ry' rx q'
     . exact⟨.bl _,H,I,by rw[List.any_toArray,h2];rfl,q⟩
   . obtain⟨its,r,pl,_⟩:=I.tuple hs
     obtain⟨e,h1,h2⟩:=bx5 I r hl he
     refine SeqAt.in_tupleAt e (show s.heap.IsTuple p its.toArray from pl) (λy hy=>?_) ?_
     . obtain⟨y',ry',q'⟩:=h1 y (by simpa using hy)
       exact nW I n (by show X.A.units+1+n<cLine;omega) ry' rx q'
     . exact⟨.bl _,H,I,by rw[List.any_toArray,h2];rfl,q⟩
 . exact bu9 s σ H _ _ v u Q I rx ry ⟨i,j,rfl,rfl,q⟩
def de4:R2:=λx y H Q=>(y=.non/\Q (.bl (decide (x=.non))) H)\/(∃a b,x=.bl a/\y=.bl b/\Q (.bl (a==b)) H)
theorem bg1:OpR X (compareOp .Is) de4:=by
 intro pins s σ H x y v u Q I rx ry h
 rcases h with h|⟨a,b,rfl,rfl,q⟩
 . exact di2 s σ H x y v u Q I rx ry h
 . cases rx
   cases ry
   exact is_bool ⟨.bl _,H,I,rfl,q⟩
end
end L2
namespace L2
open PySem PySem.Spec PyProof.Rows
def vO(z:Str)(k:Nat):Str:=⟨((List.replicate k z.cps.toList).flatten).toArray⟩
theorem ax1(z:Str):∀(k:Nat)(acc:List Nat),List.foldl (λx1 x2=>x1++x2) acc.toArray (List.replicate k z.cps)=(acc++(List.replicate k z.cps.toList).flatten).toArray
 |0,acc=>by simp
 |k+1,acc=>by
  rw[List.replicate_succ,List.foldl_cons,List.replicate_succ,List.flatten_cons]
  have e:acc.toArray++z.cps=(acc++z.cps.toList).toArray:=by simp
  rw[e,ax1 z k,List.append_assoc]
section
variable {X : Cx}
def cm5(K:PySem.W.Frag):R2:=λx y H Q=>∃l b xs zs,x=.ref l/\y=.ref b/\SqS K H l xs/\SqS K H b zs/\xs.length+zs.length<=sizeLine/\∀p,H p=none->Q (.ref p) (upd H p (.lst (xs++zs)))
theorem op_catS:OpR X (binaryOp .Add) (cm5 X.K):=by
 intro pins s σ H x y v u Q I rx ry h
 obtain⟨l,b,xs,zs,rfl,rfl,hH,hB,hz,q⟩:=h
 cases rx
 cases ry
 obtain⟨its,n,r,e,_⟩:=I.listS hH
 obtain⟨its2,n2,r2,e2,_⟩:=I.listS hB
 have hl:=r.length
 have hl2:=r2.length
 refine PySem.P.add_list e e2 ?_ (by rw[List.size_toArray,List.size_toArray];omega)
 have ea:its.toArray++its2.toArray=(its++its2).toArray:=by simp
 rw[ea]
 exact⟨.ref _,_,I.lnew (t':=s.toks) (r.append r2) (by rw[List.length_append];omega),rfl,q _ I.fresh⟩
def cp5(K:PySem.W.Frag):R2:=λx y H Q=>sR (λi j=>.int (i+j)) x y H Q\/ds6 x y H Q\/cm5 K x y H Q\/cw5 K x y H Q
theorem bC(K:PySem.W.Frag)(hK:X.K=K:=by rfl):OpR X (binaryOp .Add) (cp5 K):=by
 subst hK
 exact op_add.or (op_add_str.or (op_catS.or cz8))
def cj6:R2:=λx y H Q=>∃z k,x=.str z/\y=.int k/\-(2^63)<=k/\k<2^62/\z.length*k.toNat<=sizeLine/\Q (.str (vO z k.toNat)) H
theorem cr9:OpR X (binaryOp .Mult) cj6:=by
 intro pins s σ H x y v u Q I rx ry h
 obtain⟨z,k,rfl,rfl,h1,h2,hz,q⟩:=h
 obtain⟨t,rfl⟩:=rx
 obtain⟨t',rfl⟩:=ry
 have hn:=sizeLine_eq
 refine PySem.P.mul_str ?_ ?_ ?_ ?_
 . rw[decide_eq_false (by omega),decide_eq_false (by omega)]
   rfl
 . intro hk _
   have hk1:1<=k:=by omega
   have:((z.length:Int))<=16777216:=by
    have:z.length*1<=z.length*k.toNat:=Nat.mul_le_mul_left _ (by omega)
    omega
   have hq:(2^63-1:Int)/k>=(z.length:Int):=by
    refine(Int.le_ediv_iff_mul_le (by omega)).mpr ?_
    have e:(z.length:Int)*k=((z.length*k.toNat:Nat):Int):=by
     rw[Int.natCast_mul,Int.toNat_of_nonneg (by omega)]
    rw[e]
    omega
   omega
 . intro _ _
   unfold Builtin.Str.tooLong
   exact decide_eq_false (by omega)
 . split
   . next hk=>
     have e:vO z k.toNat=Str.empty:=by
      have:k.toNat=0:=by omega
      rw[this]
      rfl
     rw[e]at q
     exact⟨by decide,.str _,H,I.tok _,⟨_,rfl⟩,q⟩
   . next hk=>
     split
     . next hc=>
       have e:vO z k.toNat=z:=by
        rw[Bool.or_eq_true,beq_iff_eq,beq_iff_eq]at hc
        rcases hc with hc|hc
        . subst hc
          simp[vO]
        . have hz0:z.cps.toList=[]:=by
           have:z.cps.toList.length=0:=by rw[Array.length_toList];exact hc
           exact List.eq_nil_of_length_eq_zero this
          have:(List.replicate k.toNat z.cps.toList).flatten=[]:=by
           rw[hz0]
           simp
          unfold vO
          rw[this]
          obtain⟨⟨l⟩⟩:=z
          simp at hz0
          rw[hz0]
       rw[e]at q
       exact⟨.str _,H,I,⟨_,rfl⟩,q⟩
     . have e:(⟨(List.replicate k.toNat z.cps).foldl (· ++ ·) #[]⟩:Str)=vO z k.toNat:=by
        have:=ax1 z k.toNat []
        rw[List.nil_append]at this
        unfold vO
        rw[<-this]
       rw[e]
       refine⟨?_,.str _,H,I.tok _,⟨_,rfl⟩,q⟩
       show((List.replicate k.toNat z.cps.toList).flatten.toArray).size<=sizeLine
       rw[List.size_toArray,cf8,Array.length_toList,Nat.mul_comm]
       exact hz
def ck6:R2:=λx y H Q=>dl0 x y H Q\/cj6 x y H Q
theorem kK:OpR X (binaryOp .Mult) ck6:=op_mulB.or cr9
end
end L2
namespace TL
open PySem PySem.Spec PyProof.Rows L2
section
variable {Jn : gN} {K : PySem.W.Frag} {cn : Str → Option Addr} {E : XK} {As : List (List Addr)} {H : Hp} {Z : Addr → Prop} {Q : VK}
theorem WpE.val(w:WpE K cn E As H Z [] Q (.ok t))(zi:∀a,Z a->H a≠none)(r:Rep K cn H Z t v []):Q v H:=
 w v H Z [] ⟨Same.refl _,λ_ h=>h,λ_ h=>.inl h,zi,r,List.nodup_nil,dR,dR⟩
theorem WpE.newL(w:WpE K cn E As H Z [] Q (.ok (.lst true ts)))(zi:∀a,Z a->H a≠none)(r:Reps K cn H Z ts vs [])(p:Addr)(hp:H p=none):Q (.ref p) (L2.upd H p (.lst vs)):=by
 have m:=Mo.new (.lst vs) hp zi
 refine w (.ref p) _ Z [p] ⟨m.same,m.zz,m.zn,m.zi,?_,by simp,λb hb=>?_,λb hb=>?_⟩
 . simp only[Rep]
   exact⟨p,vs,[],rfl,rfl,eD,r.same m.same m.zz⟩
 . rw[List.mem_singleton.mp hb];exact λz=>zi p z hp
 . rw[List.mem_singleton.mp hb];exact .inl hp
theorem WpE.newT(w:WpE K cn E As H Z [] Q (.ok (.tup ts)))(zi:∀a,Z a->H a≠none)(r:Reps K cn H Z ts vs [])(p:Addr)(hp:H p=none):Q (.ref p) (L2.upd H p (.tup vs)):=by
 have m:=Mo.new (.tup vs) hp zi
 refine w (.ref p) _ Z [] ⟨m.same,m.zz,m.zn,m.zi,?_,List.nodup_nil,dR,dR⟩
 simp only[Rep]
 exact⟨p,vs,rfl,SqT.of eD,r.same m.same m.zz⟩
theorem Rep.int{i:Int}{v:V}{A:List Addr}(h:Rep K cn H Z (.int i) v A):v=.int i:=by simp only[Rep]at h;exact h.1
theorem Rep.str{i:Str}{v:V}{A:List Addr}(h:Rep K cn H Z (.str i) v A):v=.str i:=by simp only[Rep]at h;exact h.1
theorem Rep.bl(h:Rep K cn H Z (.bl i) v A):v=.bl i:=by simp only[Rep]at h;exact h.1
theorem Rep.non(h:Rep K cn H Z .non v A):v=.non:=by simp only[Rep]at h;exact h.1
theorem Rep.tupS(h:Rep K cn H Z (.tup ts) v A):∃a vs,v=.ref a/\SqT K H a vs/\Reps K cn H Z ts vs A:=by simp only[Rep]at h;exact h
theorem jJ(i:Int):Rep K cn H Z (.int i) (.int i) []:=by simp[Rep]
theorem qJ(i:Bool):Rep K cn H Z (.bl i) (.bl i) []:=by simp[Rep]
theorem xV(i:Str):Rep K cn H Z (.str i) (.str i) []:=by simp[Rep]
noncomputable def bO:T->T->Res T
 |.int i,.int j=>.ok (.int (i+j))
 |.str a,.str b=>gate (a.length+b.length<=sizeLine) (.ok (.str (a++b)))
 |.lst _ xs,.lst _ ys=>gate ((bA xs&&bA ys)=true/\xs.length+ys.length<=sizeLine) (.ok (.lst true (xs++ys)))
 |.tup xs,.tup ys=>gate ((bA xs&&bA ys)=true/\xs.length+ys.length<=sizeLine/\xs.isEmpty=false/\ys.isEmpty=false) (.ok (.tup (xs++ys)))
 |_,_=>.no
theorem du6:mH K cn (cp5 K) bO:=λE As H Z t u x y A B Q zi rt ru w=>by
 unfold bO at w
 split at w
 . next i j=>rw[rt.int,ru.int];exact .inl ⟨i,j,rfl,rfl,w.val zi (jJ _)⟩
 . next a b=>
   obtain⟨h,w⟩:=w.gate
   rw[rt.str,ru.str];exact .inr (.inl ⟨a,b,rfl,rfl,h,w.val zi (xV _)⟩)
 . next o xs o' ys=>
   obtain⟨h,w⟩:=w.gate
   rw[Bool.and_eq_true]at h
   obtain⟨a,vs,C,rfl,hs,r1,_⟩:=rt.lstSq
   obtain⟨b,ws,D,rfl,hs',r2,_⟩:=ru.lstSq
   exact .inr (.inr (.inl ⟨a,b,vs,ws,rfl,rfl,hs,hs',by rw[Reps.length xs r1,Reps.length ys r2];exact h.2,λp hp=>w.newL zi (Reps.append xs (r1.bareE h.1.1) (r2.bareE h.1.2)) p hp⟩))
 . next xs ys=>
   obtain⟨h,w⟩:=w.gate
   rw[Bool.and_eq_true]at h
   obtain⟨a,vs,rfl,hs,r1⟩:=rt.tupS
   obtain⟨b,ws,rfl,hs',r2⟩:=ru.tupS
   have e1:=r1.isEmpty
   have e2:=r2.isEmpty
   refine .inr (.inr (.inr ⟨a,b,vs,ws,rfl,rfl,hs,hs',λz=>?_,by rw[Reps.length xs r1,Reps.length ys r2];exact h.2.1,λz=>?_,λ_ p hp=>w.newT zi (Reps.append xs (r1.bareE h.1.1) (r2.bareE h.1.2)) p hp⟩))
   . rw[z,h.2.2.1]at e1;cases e1
   . rw[z,h.2.2.2]at e2;cases e2
 . exact w.elim
def mP(f:Int->Int->Res T):T->T->Res T
 |.int i,.int j=>f i j
 |_,_=>.no
theorem ac9{g:Int->Int->T}{g':Int->Int->V}(hg:∀i j H Z,Rep K cn H Z (g i j) (g' i j) []):mH K cn (sR g') (mP λi j=>.ok (g i j)):=λE As H Z t u x y A B Q zi rt ru w=>by
 unfold mP at w
 split at w
 . next i j=>rw[rt.int,ru.int];exact⟨i,j,rfl,rfl,w.val zi (hg i j _ _)⟩
 . exact w.elim
theorem r_i{C:Int->Int->Prop}{g:Int->Int->T}{g':Int->Int->V}(hg:∀i j H Z,Rep K cn H Z (g i j) (g' i j) []):mH K cn (rI C g') (mP λi j=>gate (C i j) (.ok (g i j))):=λE As H Z t u x y A B Q zi rt ru w=>by
 unfold mP at w
 split at w
 . next i j=>
   obtain⟨h,w⟩:=WpE.gate w
   rw[rt.int,ru.int];exact⟨i,j,rfl,rfl,h,w.val zi (hg i j _ _)⟩
 . exact w.elim
def cY:=mP λi j=>.ok (.int (i-j))
theorem de6:mH K cn (sR λi j=>.int (i-j)) cY:=ac9 λ_ _ _ _=>jJ _
def ltT:=mP λi j=>.ok (.bl (decide (i<j)))
def oH:=mP λi j=>.ok (.bl (decide (i<=j)))
def gtT:=mP λi j=>.ok (.bl (decide (j<i)))
def geT:=mP λi j=>.ok (.bl (decide (j<=i)))
theorem eb0:mH K cn (sR λi j=>.bl (decide (i<j))) ltT:=ac9 λ_ _ _ _=>qJ _
theorem dv9:mH K cn (sR λi j=>.bl (decide (i<=j))) oH:=ac9 λ_ _ _ _=>qJ _
theorem ec0:mH K cn (sR λi j=>.bl (decide (j<i))) gtT:=ac9 λ_ _ _ _=>qJ _
theorem dy8:mH K cn (sR λi j=>.bl (decide (j<=i))) geT:=ac9 λ_ _ _ _=>qJ _
noncomputable def gB:=mP λi j=>gate (uA i j) (.ok (.int (i/j)))
theorem ds1:mH K cn (rI uA λi j=>.int (i/j)) gB:=r_i λ_ _ _ _=>jJ _
noncomputable def bV:=mP λi j=>gate (0<j) (.ok (.int (i%j)))
theorem dj5:mH K cn (rI (λ_ j=>0<j) λi j=>.int (i%j)) bV:=r_i (C:=λ_ j=>0<j) λ_ _ _ _=>jJ _
noncomputable def wA:=mP λi j=>gate (xF i j) (.ok (.int (i^j.toNat)))
theorem dd8:mH K cn (rI xF λi j=>.int (i^j.toNat)) wA:=r_i λ_ _ _ _=>jJ _
def mulOk(i j:Int):Prop:=(-(2^64)<i/\i<2^64)\/(-(2^64)<j/\j<2^64)\/Builtin.Int.intBits i+Builtin.Int.intBits j<=134217728
theorem mulOk.ok(h:mulOk i j):IntMulOk i j:=by
 rcases h with h|h|h
 . exact cz6 h.1 h.2
 . exact cs8 h.1 h.2
 . exact bl6 h
noncomputable def mI:T->T->Res T
 |.int i,.int j=>gate (mulOk i j) (.ok (.int (i*j)))
 |.str z,.int k=>gate (-(2^63)<=k/\k<2^62/\z.length*k.toNat<=sizeLine) (.ok (.str (vO z k.toNat)))
 |_,_=>.no
theorem dg6:mH K cn ck6 mI:=λE As H Z t u x y A B Q zi rt ru w=>by
 unfold mI at w
 split at w
 . next i j=>
   obtain⟨h,w⟩:=w.gate
   rw[rt.int,ru.int];exact .inl ⟨i,j,rfl,rfl,h.ok,w.val zi (jJ _)⟩
 . next z k=>
   obtain⟨h,w⟩:=w.gate
   rw[rt.str,ru.int];exact .inr ⟨z,k,rfl,rfl,h.1,h.2.1,h.2.2,w.val zi (xV _)⟩
 . exact w.elim
def sO:T->Res T
 |.int i=>.ok (.int (-i))
 |_=>.no
theorem dd7:R1R K cn (rU λi=>.int (-i)) sO:=λE As H Z t x A Q zi rt w=>by
 unfold sO at w
 split at w
 . next i=>rw[rt.int];exact⟨i,rfl,w.val zi (jJ _)⟩
 . exact w.elim
def yA:T->T->Res T
 |.bl a,.bl b=>.ok (.bl (a==b))
 |.non,.non=>.ok (.bl true)
 |_,.non=>.ok (.bl false)
 |_,_=>.no
theorem Rep.notNon(h:Rep K cn H Z t v A)(n:t≠ .non):v≠ .non:=by
 cases t with
 |non=>exact absurd rfl n
 |bl _=>rw[h.bl];exact λz=>nomatch z
 |int _=>rw[h.int];exact λz=>nomatch z
 |str _=>rw[h.str];exact λz=>nomatch z
 |ty _=>simp only[Rep]at h;rw[h.1];exact λz=>nomatch z
 |lst o ts=>obtain⟨a,vs,C,rfl,_⟩:=h.lstSq;exact λz=>nomatch z
 |tup ts=>obtain⟨a,vs,rfl,_⟩:=h.tupS;exact λz=>nomatch z
 |ins o c ns ts=>
  cases o with
  |true=>simp only[Rep]at h;obtain⟨a,C,dx,vs,B,rfl,_⟩:=h;exact λz=>nomatch z
  |false=>simp only[Rep]at h;obtain⟨a,C,dx,vs,rfl,_⟩:=h;exact λz=>nomatch z
theorem dq9:mH K cn de4 yA:=λE As H Z t u x y A B Q zi rt ru w=>by
 unfold yA at w
 split at w
 . next a b=>rw[rt.bl,ru.bl];exact .inr ⟨a,b,rfl,rfl,w.val zi (qJ _)⟩
 . rw[rt.non,ru.non];exact .inl ⟨rfl,w.val zi (qJ _)⟩
 . next h1 h2=>rw[ru.non];exact .inl ⟨rfl,by rw[decide_eq_false (rt.notNon (by rintro rfl;exact h2 rfl))];exact w.val zi (qJ _)⟩
 . exact w.elim
def iG:T->T->Res T
 |.non,.non=>.ok (.bl false)
 |_,.non=>.ok (.bl true)
 |_,_=>.no
theorem cr8:mH K cn (λx y H Q=>y=.non/\Q (.bl (!decide (x=.non))) H) iG:=λE As H Z t u x y A B Q zi rt ru w=>by
 unfold iG at w
 split at w
 . rw[rt.non,ru.non];exact⟨rfl,w.val zi (qJ _)⟩
 . next h2=>rw[ru.non];exact⟨rfl,by rw[decide_eq_false (rt.notNon (by rintro rfl;exact h2 rfl))];exact w.val zi (qJ _)⟩
 . exact w.elim
def mN:T->T->Option Bool
 |.non,.non=>some true
 |.non,.bl _=>some false
 |.non,.int _=>some false
 |.non,.str _=>some false
 |.bl _,.non=>some false
 |.bl a,.bl b=>some (a==b)
 |.bl a,.int b=>some ((if a then 1 else 0)==b)
 |.bl _,.str _=>some false
 |.int _,.non=>some false
 |.int a,.bl b=>some (a==(if b then 1 else 0))
 |.int a,.int b=>some (a==b)
 |.int _,.str _=>some false
 |.str _,.non=>some false
 |.str _,.bl _=>some false
 |.str _,.int _=>some false
 |.str a,.str b=>some (a==b)
 |_,_=>none
mutual
def pD:Nat->T->T->Option Bool
 |n+1,.lst _ xs,.lst _ ys=>if xs.length=ys.length then(wC n xs ys).map λes=>es.all id else some false
 |n+1,.tup xs,.tup ys=>(wC n xs ys).map λes=>es.all id&&xs.length==ys.length
 |_,t,u=>mN t u
def wC:Nat->List T->List T->Option (List Bool)
 |n,x::xs,y::ys=>(pD n x y).bind λb=>(wC n xs ys).map λes=>b::es
 |_,_,_=>some []
end
theorem br8(rt:Rep K cn H Z t x A)(ru:Rep K cn H Z u y B)(h:mN t u=some b):pT x=true/\pT y=true/\b=eqV x y:=by
 unfold mN at h
 split at h
 all_goals first
  |(simp only[Rep]at rt ru;obtain⟨rfl,_⟩:=rt;obtain⟨rfl,_⟩:=ru;cases h;exact⟨rfl,rfl,rfl⟩)
  |cases h
theorem am9(rt:Rep K cn H Z t x A)(ru:Rep K cn H Z u y B)(h:mN t u=some b):EqD K H n x y b:=by
 have q:=br8 rt ru h
 cases n with
 |zero=>exact q
 |succ n=>exact .inl q
theorem av4(ih:∀(t u:T){x y:V}{A B:List Addr}{b:Bool},Rep K cn H Z t x A->Rep K cn H Z u y B->pD n t u=some b->EqD K H n x y b):∀(ts us:List T){vs ws:List V}{A B:List Addr}{es:List Bool},Reps K cn H Z ts vs A->Reps K cn H Z us ws B->wC n ts us=some es->
 es.length=min ts.length us.length/\∀(j:Nat) x y e,vs[j]?=some x->ws[j]?=some y->es[j]?=some e->EqD K H n x y e
 |x::xs,y::ys,vs,ws,A,B,es,r1,r2,h=>by
  simp only[Reps]at r1 r2
  obtain⟨v,vs',B1,C1,rfl,rfl,a1,a2⟩:=r1
  obtain⟨w,ws',B2,C2,rfl,rfl,b1,b2⟩:=r2
  rw[wC,Option.bind_eq_some_iff]at h
  obtain⟨b,h1,h⟩:=h
  rw[Option.map_eq_some_iff]at h
  obtain⟨es',h2,rfl⟩:=h
  obtain⟨q1,q2⟩:=av4 ih xs ys a2 b2 h2
  refine⟨by simp only[List.length_cons];omega,λj x' y' e e1 e2 e3=>?_⟩
  cases j with
  |zero=>
   simp at e1 e2 e3
   subst e1 e2 e3
   exact ih x y a1 b1 h1
  |succ j=>exact q2 j x' y' e (by simpa using e1) (by simpa using e2) (by simpa using e3)
 |[],us,vs,ws,A,B,es,r1,r2,h=>by
  have e:wC n [] us=some []:=by cases us<;>rfl
  rw[e]at h
  cases h
  exact⟨by simp,λj x y e _ _ e3=>by simp at e3⟩
 |t::ts,[],vs,ws,A,B,es,r1,r2,h=>by
  have e:wC n (t::ts) []=some []:=rfl
  rw[e]at h
  cases h
  exact⟨by simp,λj x y e _ _ e3=>by simp at e3⟩
theorem ad9(n:Nat):∀(t u:T){x y:V}{A B:List Addr}{b:Bool},Rep K cn H Z t x A->Rep K cn H Z u y B->pD n t u=some b->EqD K H n x y b:=by
 induction n with
 |zero=>
  intro t u x y A B b rt ru h
  have e:pD 0 t u=mN t u:=by cases t<;>cases u<;>rfl
  rw[e]at h
  exact am9 rt ru h
 |succ n ih=>
  intro t u x y A B b rt ru h
  by_cases h1:∃o o' xs ys,t=.lst o xs/\u=.lst o' ys
  . obtain⟨o,o',xs,ys,rfl,rfl⟩:=h1
    obtain⟨a,vs,C,rfl,hs,r1,_⟩:=rt.lstSq
    obtain⟨b',ws,D,rfl,hs',r2,_⟩:=ru.lstSq
    rw[pD]at h
    have l1:=Reps.length xs r1
    have l2:=Reps.length ys r2
    split at h
    . next hl=>
      rw[Option.map_eq_some_iff]at h
      obtain⟨es,h1,rfl⟩:=h
      obtain⟨q1,q2⟩:=av4 ih xs ys r1 r2 h1
      exact .inr (.inl ⟨a,b',vs,ws,rfl,rfl,hs.sq,hs'.sq,.inr ⟨by omega,es,by rw[q1];omega,q2,rfl⟩⟩)
    . next hl=>
      cases h
      exact .inr (.inl ⟨a,b',vs,ws,rfl,rfl,hs.sq,hs'.sq,.inl ⟨by omega,rfl⟩⟩)
  . by_cases h2:∃xs ys,t=.tup xs/\u=.tup ys
    . obtain⟨xs,ys,rfl,rfl⟩:=h2
      obtain⟨a,vs,rfl,hs,r1⟩:=rt.tupS
      obtain⟨b',ws,rfl,hs',r2⟩:=ru.tupS
      rw[pD]at h
      have l1:=Reps.length xs r1
      have l2:=Reps.length ys r2
      rw[Option.map_eq_some_iff]at h
      obtain⟨es,h1,rfl⟩:=h
      obtain⟨q1,q2⟩:=av4 ih xs ys r1 r2 h1
      exact .inr (.inr ⟨a,b',vs,ws,rfl,rfl,hs,hs',es,by rw[q1];omega,q2,by rw[l1,l2]⟩)
    . have e:pD (n+1) t u=mN t u:=by
       cases t<;>cases u<;>first|rfl|exact absurd ⟨_,_,_,_,rfl,rfl⟩ h1|exact absurd ⟨_,_,rfl,rfl⟩ h2
      rw[e]at h
      exact am9 rt ru h
def dO:Nat:=6
def rL:T->Bool
 |.lst _ _=>true
 |.tup _=>true
 |_=>false
def bm5:T->T->Bool
 |.bl _,.int _=>false
 |.int _,.bl _=>false
 |t,u=>!rL t&&!rL u
def eqB(t u:T):Option Bool:=if rL t=true/\rL u=true then pD dO t u else if bm5 t u=true then mN t u else none
def fN(t u:T):Res T:=match eqB t u with
 |some b=>.ok (.bl b)
 |none=>.no
theorem Rep.seqRef(h:Rep K cn H Z t v A)(i:rL t=true):∃a,v=.ref a:=by
 cases t with
 |lst o ts=>obtain⟨a,vs,C,rfl,_⟩:=h.lstSq;exact⟨a,rfl⟩
 |tup ts=>obtain⟨a,vs,rfl,_⟩:=h.tupS;exact⟨a,rfl⟩
 |_=>cases i
theorem bs3(rt:Rep K cn H Z t x A)(ru:Rep K cn H Z u y B)(hs:bm5 t u=true)(h:mN t u=some b):cw2 x y=true/\b=decide (x=y):=by
 unfold mN at h
 split at h
 all_goals first
  |(cases hs;done)
  |(simp only[Rep]at rt ru;obtain⟨rfl,_⟩:=rt;obtain⟨rfl,_⟩:=ru;cases h;exact⟨rfl,by first|rfl|(rw[at4])|(rw[bb1])|(rw[as4])|(symm;exact decide_eq_false (λz=>nomatch z))⟩)
  |(cases h;done)
theorem dh9:mH K cn (bv5 K dO) fN:=λE As H Z t u x y A B Q zi rt ru w=>by
 unfold fN at w
 split at w
 . next b h=>
   unfold eqB at h
   split at h
   . next hs=>
     obtain⟨p,rfl⟩:=rt.seqRef hs.1
     obtain⟨q,rfl⟩:=ru.seqRef hs.2
     exact .inr ⟨p,q,b,rfl,rfl,ad9 dO t u rt ru h,w.val zi (qJ _)⟩
   . split at h
     . next hs=>
       obtain⟨q1,rfl⟩:=bs3 rt ru hs h
       exact .inl ⟨q1,w.val zi (qJ _)⟩
     . cases h
 . exact w.elim
def neT(t u:T):Res T:=if bm5 t u=true then match mN t u with
 |some b=>.ok (.bl (!b))
 |none=>.no else .no
theorem dz8:mH K cn rNe neT:=λE As H Z t u x y A B Q zi rt ru w=>by
 unfold neT at w
 split at w
 . next hs=>
   split at w
   . next b h=>
     obtain⟨q1,rfl⟩:=bs3 rt ru hs h
     exact⟨q1,w.val zi (qJ _)⟩
   . exact w.elim
 . exact w.elim
def occ(j i:Str):Bool:=!(Builtin.Str.occurrences j i 0 j.length 1).isEmpty
def vB(t:T):List T->Option (List Bool)
 |[]=>some []
 |u::us=>(pD dO u t).bind λb=>(vB t us).map λes=>b::es
theorem yN(rt:Rep K cn H Z t x A):∀(us:List T){ws:List V}{B:List Addr}{es:List Bool},Reps K cn H Z us ws B->vB t us=some es->es.length=ws.length/\∀(j:Nat) y e,ws[j]?=some y->es[j]?=some e->EqD K H dO y x e
 |[],ws,B,es,r,h=>by
  simp only[Reps]at r
  obtain⟨rfl,_⟩:=r
  cases h
  exact⟨rfl,λj y e e1=>by simp at e1⟩
 |u::us,ws,B,es,r,h=>by
  simp only[Reps]at r
  obtain⟨w,ws',B1,C1,rfl,rfl,a1,a2⟩:=r
  rw[vB,Option.bind_eq_some_iff]at h
  obtain⟨b,h1,h⟩:=h
  rw[Option.map_eq_some_iff]at h
  obtain⟨es',h2,rfl⟩:=h
  obtain⟨q1,q2⟩:=yN rt us a2 h2
  refine⟨by simp[q1],λj y e e1 e2=>?_⟩
  cases j with
  |zero=>
   simp at e1 e2
   subst e1 e2
   exact ad9 dO u t a1 rt h1
  |succ j=>exact q2 j y e (by simpa using e1) (by simpa using e2)
def zU(neg:Bool):T->T->Res T
 |t,.lst _ us=>match vB t us with
  |some es=>.ok (.bl (if neg=true then !es.any id else es.any id))
  |none=>.no
 |t,.tup us=>match vB t us with
  |some es=>.ok (.bl (if neg=true then !es.any id else es.any id))
  |none=>.no
 |.str i,.str j=>.ok (.bl (if neg=true then !occ j i else occ j i))
 |_,_=>.no
theorem do9:mH K cn (ci3 K dO neg) (zU neg):=λE As H Z t u x y A B Q zi rt ru w=>by
 unfold zU at w
 split at w
 . next t o us=>
   split at w
   . next es h=>
     obtain⟨a,vs,C,rfl,hs,r1,_⟩:=ru.lstSq
     obtain⟨q1,q2⟩:=yN rt us r1 h
     exact .inl ⟨a,vs,rfl,.inl hs.sq,es,q1,q2,w.val zi (qJ _)⟩
   . exact w.elim
 . next t us=>
   split at w
   . next es h=>
     obtain⟨a,vs,rfl,hs,r1⟩:=ru.tupS
     obtain⟨q1,q2⟩:=yN rt us r1 h
     exact .inl ⟨a,vs,rfl,.inr hs,es,q1,q2,w.val zi (qJ _)⟩
   . exact w.elim
 . next i j=>rw[rt.str,ru.str];exact .inr ⟨i,j,rfl,rfl,w.val zi (qJ _)⟩
 . exact w.elim
end
end TL
namespace L2
open PySem PySem.Spec PyProof.Rows
section
variable {X : Cx} (K : PySem.W.Frag)
theorem dd4(hr:Room k X.A)(hn:n<=60:=by decide)(hK:X.K=K:=by rfl):OpR X (compareOp .Eq) (bv5 K n):=by
 subst hK
 exact dw1 (by have:=hr.units;omega)
theorem as2(hr:Room k X.A)(hn:n<=60:=by decide)(hK:X.K=K:=by rfl):OpR X (compareOp .In) (ci3 K n false):=by
 subst hK
 exact df0 (by have:=hr.units;omega)
theorem ea0(hK:X.K=K:=by rfl):IxR X (rIx K):=by
 subst hK
 exact dn3
def dr1:V->Option Int->Option Int->Hp->VK->Prop:=λx lo hi H Q=>dn4 K x lo hi H Q\/db5 K x lo hi H Q\/dm1 x lo hi H Q
theorem qT(hK:X.K=K:=by rfl):SlR X (dr1 K):=by
 subst hK
 exact SlR.or cy9 (SlR.or dv1 dt2)
theorem eK(ha:PE X a ta)(he:∀whole,isTrue a X.env whole=(do let v<-whole;standAt a.pos;holding [v] (truthy v)))(hK:X.K=K:=by rfl):
 PT X a (λσ H Q=>ta σ H λx H'=>∃k,bw0 K x H' k/\Q k H'):=by
 subst hK
 exact ch2 ha he
theorem gG(hl:PE X l tl)(hK:X.K=K:=by rfl):PI X tg l (TL.iV K tl):=by
 subst hK
 intro pins s σ H R I h
 refine bY (hl s σ H _ I h) λv s1 ⟨x,H1,I1,r1,q1⟩=>?_
 rcases q1 with⟨a,e,q⟩|⟨z,e,q⟩
 . subst e
   cases r1
   rcases q with⟨⟨xs,hq⟩,q⟩|⟨⟨xs,hq⟩,q⟩
   . obtain⟨its,rv,p,hz⟩:=I1.list hq
     refine wpAny_pyIter_list p.isList ?_
     refine⟨s1.heap.objs.size,[s1.heap.objs.size],_,_,H1,rfl,I1.kept (t':=s1.toks) λb o e=>Heap.get?_push_of_some _ e,bt9 a _,⟨_,Heap.get?_push_size _ rfl,rfl,rfl⟩,λb hb=>?_,q⟩
     have e:b=s1.heap.objs.size:=by simpa using hb
     subst e
     exact I1.fpOk (Nat.le_refl _) (I1.hok.fresh (Nat.le_refl _))
   . obtain⟨its,rv,p,hz⟩:=I1.tuple hq
     refine wpAny_pyIter_tuple (show s1.heap.IsTuple a its.toArray from p) ?_
     refine⟨s1.heap.objs.size,[s1.heap.objs.size],_,_,H1,rfl,I1.kept (t':=s1.toks) λb o e=>Heap.get?_push_of_some _ e,bv6 a _,⟨_,Heap.get?_push_size _ rfl,rfl,rfl⟩,λb hb=>?_,q⟩
     have e:b=s1.heap.objs.size:=by simpa using hb
     subst e
     exact I1.fpOk (Nat.le_refl _) (I1.hok.fresh (Nat.le_refl _))
 . subst e
   obtain⟨t,rfl⟩:=r1
   have fp:∀b∈[s1.heap.objs.size],pM X pins H1 b:=λb hb=>by
    have e:b=s1.heap.objs.size:=by simpa using hb
    subst e
    exact I1.fpOk (Nat.le_refl _) (I1.hok.fresh (Nat.le_refl _))
   cases ha:z.cps.all (· <128)
   . exact wpAny_pyIter_wide ha ⟨s1.heap.objs.size,[s1.heap.objs.size],_,_,H1,rfl,I1.kept (t':=s1.toks) λb o e=>Heap.get?_push_of_some _ e,bv7 _ z t,⟨_,Heap.get?_push_size _ rfl,rfl,rfl⟩,fp,q⟩
   . exact wpAny_pyIter_ascii ha ⟨s1.heap.objs.size,[s1.heap.objs.size],_,_,H1,rfl,I1.kept (t':=s1.toks) λb o e=>Heap.get?_push_of_some _ e,bx4 _ z t,⟨_,Heap.get?_push_size _ rfl,rfl,rfl⟩,fp,q⟩
theorem fV(n:Nat)(hc:X.calm=true)(h:PGs X es t)
 (hn:(assignEach es X.env).length=n:=by rfl)(hst:(assignEach es X.env).findIdx? (·.1)=none:=by rfl)(hK:X.K=K:=by rfl):PG X (.Tuple es k pos) (cv0 K n t):=by
 subst hK
 exact da3 hc h hn hst
theorem sT{o e:Expr}{es:List Expr}{to:TE}{t:TA}{name:Str}{apos cpos:Pos}{T id:String}{r:V->List V->Hp->VK->Prop}(pa:PlainAttrs T)(slot:Slot T name id)(hty:typeOf (.builtin id)=pure (.type "method_descriptor"))(hm:MtR X id r)(ho:PE X o to)(ha:PA X (e::es) t)
 (hbase:attributeBase o name X.env (eval o X.env)=eval o X.env:=by rfl)
 (hfew:((backTo cpos (starEach (e::es) X.env)).all (λx=>!x.1)&&(backToKw cpos (keywordEach [] X.env)).all (λx=>x.1.isSome)
  &&decide ((e::es).length+([]:List Keyword).length+(if([]:List Keyword).isEmpty then 0 else 1)<30))=true:=by rfl)
 (hline:(apos.endLine==cpos.line)=true:=by rfl)(hs:starEach (e::es) X.env=(false,eval e X.env)::starEach es X.env:=by rfl)(hplain:(backTo cpos (starEach es X.env)).any (·.1)=false:=by rfl)(hK:X.K=K:=by rfl):
 PE X (.Call (.Attribute o name apos) (e::es) [] cpos) (tBM K T r to t):=by
 subst hK
 exact dz6 pa slot hty hm ho ha hbase hfew hline hs hplain
theorem bT(hK:X.K=K:=by rfl):CallR X (.builtin "len") (dl2 K):=by subst hK;exact cy2
theorem xC(hK:X.K=K:=by rfl):CallR X (.builtin "abs") dm3:=cv4
theorem bc0(hK:X.K=K:=by rfl):CallR X (.builtin "divmod") bt3:=bn2
theorem iQ(hc:X.calm=true:=by rfl)(hK:X.K=K:=by rfl):CallR X (.builtin "all") (dx1 K):=by subst hK;exact cd2 hc
theorem qO(hc:X.calm=true:=by rfl)(hK:X.K=K:=by rfl):CallR X (.builtin "max") (cp3 K):=by subst hK;exact bf8 hc
theorem kZ(hc:X.calm=true:=by rfl)(hK:X.K=K:=by rfl):CallR X (.builtin "min") (ci2 K):=by subst hK;exact bd8 hc
def be8:List V->Hp->VK->Prop:=λxs H Q=>∃p ys,xs=[.ref p]/\(SqL K H p ys\/SqT K H p ys)/\∀l,H l=none->Q (.ref l) (upd H l (.lst ys))
theorem fL(hK:X.K=K:=by rfl):CallR X (.type "list") (be8 K):=by subst hK;exact bq0
theorem cl4(hK:X.K=K:=by rfl):MtR X "str.join" (ba6 K):=by subst hK;exact cw6
end
end L2
namespace TL
open PySem PySem.Spec PyProof.Rows L2
section
variable {Jn : gN} {K : PySem.W.Frag} {cn : Str → Option Addr} {E : XK} {As : List (List Addr)} {H : Hp} {Z : Addr → Prop} {Q : VK}
def aY:T->T->Res T
 |.lst _ ts,.int n=>match atI ts n with
  |some t=>.ok t
  |none=>.no
 |.tup ts,.int n=>match atI ts n with
  |some t=>.ok t
  |none=>.no
 |.str z,.int n=>if z.length<=sizeLine then match atI z.cps.toList n with
  |some c=>.ok (.str ⟨#[c]⟩)
  |none=>.no else .no
 |_,_=>.no
theorem Reps.atI(r:Reps K cn H Z ts vs A)(h:L2.atI ts n=some t):∃v B,L2.atI vs n=some v/\Rep K cn H Z t v B:=by
 unfold L2.atI at h⊢
 rw[Option.bind_eq_some_iff]at h
 obtain⟨j,h1,h2⟩:=h
 obtain⟨v,B,e,rv,_⟩:=Reps.get ts r h2
 exact⟨v,B,by rw[Reps.length ts r,h1];exact e,rv⟩
theorem di8(ha:RB Jn K cn E ta a)(hb:RB Jn K cn E tb b):RB Jn K cn E (tOp (rIx K) ta tb) (aG aY a b):=λAs H Z ρ σ F Q w=>by
 unfold aG at w
 refine ha As H Z ρ σ F _ ?_
 cases e:a ρ with
 |ok t=>
  rw[e]at w
  intro v H1 Z1 B p
  refine hb As H1 Z1 ρ σ (F.mo p.mo) _ ?_
  simp only[Res.bind]at w
  cases e2:b ρ with
  |ok u=>
   rw[e2]at w
   intro v2 H2 Z2 B2 p2
   have rt:=p.rep.same p2.same p2.zz
   have m:=p.mo.trans p2.mo
   have bP:∀{t:T}{v:V}{C:List Addr},WpB K cn E As H Z Q (.ok t)->Rep K cn H2 Z2 t v C->Q v H2:=λw r=>w _ H2 Z2 _ ⟨m.same,m.zz,m.zn,m.zi,r⟩
   simp only at w
   unfold aY at w
   split at w
   . next o ts n=>
     split at w
     . next t' h=>
       obtain⟨q,vs,C,rfl,hs,r,_⟩:=rt.lstSq
       obtain⟨v',D,e3,rv⟩:=r.atI h
       exact .inl ⟨q,vs,n,v',rfl,p2.rep.int,hs.sq,e3,bP w rv⟩
     . exact w.elim
   . next ts n=>
     split at w
     . next t' h=>
       obtain⟨q,vs,rfl,hs,r⟩:=rt.tupS
       obtain⟨v',D,e3,rv⟩:=r.atI h
       exact .inr (.inl ⟨q,vs,n,v',rfl,p2.rep.int,hs,e3,bP w rv⟩)
     . exact w.elim
   . next z n=>
     split at w
     . next hz=>
       split at w
       . next c h=>exact .inr (.inr ⟨z,n,c,rt.str,p2.rep.int,hz,h,bP w (xV _)⟩)
       . exact w.elim
     . exact w.elim
   . exact w.elim
  |ex x=>rw[e2]at w;exact WpX.ev w p.mo.ev
  |no=>rw[e2]at w;exact w
 |ex x=>rw[e]at w;exact w
 |no=>rw[e]at w;exact w
def eE{α:Type}(xs:List α)(lo hi:Option Int):List α:=(xs.drop (HT.sIx xs.length 0 lo)).take (HT.sIx xs.length xs.length hi-HT.sIx xs.length 0 lo)
def oC:T->Option Int->Option Int->Res T
 |.lst _ ts,lo,hi=>if bA ts=true then .ok (.lst true (eE ts lo hi))else .no
 |.tup ts,lo,hi=>if bA ts=true/\¬(HT.sIx ts.length 0 lo=0/\HT.sIx ts.length ts.length hi=ts.length)then .ok (.tup (eE ts lo hi))else .no
 |.str z,lo,hi=>if z.length<=sizeLine then .ok (.str (Txt.slice z lo hi))else .no
 |_,_,_=>.no
theorem Reps.cut(r:Reps K cn H Z ts vs [])(lo hi:Option Int):Reps K cn H Z (eE ts lo hi) (xX vs lo hi) []:=by
 unfold eE xX
 rw[Reps.length ts r]
 exact Reps.take _ _ (Reps.drop _ _ r)
theorem dg9:RSR K cn (dr1 K) oC:=λE As H Z t x A lo hi Q zi rt w=>by
 cases t with
 |lst o ts=>
  simp only[oC]at w
  split at w
  . next h=>
    obtain⟨q,vs,C,rfl,hs,r,_⟩:=rt.lstSq
    exact .inl ⟨q,vs,rfl,hs.sq,λp hp=>w.newL zi ((r.bareE h).cut lo hi) p hp⟩
  . exact w.elim
 |tup ts=>
  simp only[oC]at w
  split at w
  . next h=>
    obtain⟨q,vs,rfl,hs,r⟩:=rt.tupS
    exact .inr (.inl ⟨q,vs,rfl,hs,by rw[Reps.length ts r];exact h.2,λp hp=>w.newT zi ((r.bareE h.1).cut lo hi) p hp⟩)
  . exact w.elim
 |str z=>
  simp only[oC]at w
  split at w
  . next h=>rw[rt.str];exact .inr (.inr ⟨z,rfl,h,w.val zi (xV _)⟩)
  . exact w.elim
 |_=>exact w.elim
def ck4(k:Option Int):T->Res T
 |.lst _ ts=>if bA ts=true/\k=some (-1)then .ok (.lst true ts.reverse)else .no
 |_=>.no
def de9(a:Fr->Res T)(s:Fr->Res (Option Int)):Fr->Res T:=λρ=>(a ρ).bind λt=>(s ρ).bind λk=>ck4 k t
theorem Reps.one1(r:Reps K cn H Z [t] vs A):∃v,vs=[v]/\Rep K cn H Z t v A:=by
 simp only[Reps]at r
 obtain⟨v,w,B,C,rfl,rfl,r,rfl,rfl⟩:=r
 exact⟨v,rfl,by simpa using r⟩
theorem Reps.two2(r:Reps K cn H Z [t,u] vs A):∃v w B C,vs=[v,w]/\A=B++C/\Rep K cn H Z t v B/\Rep K cn H Z u w C:=by
 simp only[Reps]at r
 obtain⟨v,w,B,C,rfl,rfl,r,v2,w2,B2,C2,rfl,rfl,r2,rfl,rfl⟩:=r
 exact⟨v,v2,B,B2,rfl,by simp,r,r2⟩
def eJ:List T->Res T
 |[.str z]=>if z.length<=sizeLine then .ok (.int z.length)else .no
 |[.lst _ ts]=>.ok (.int ts.length)
 |[.tup ts]=>.ok (.int ts.length)
 |_=>.no
theorem dg7:wP K cn (dl2 K) eJ:=λE As H Z ts xs A Q zi r w=>by
 unfold eJ at w
 split at w
 . next z=>
   split at w
   . next h=>obtain⟨v,rfl,rv⟩:=r.one1;rw[rv.str];exact⟨_,_,rfl,⟨h,rfl⟩,w.val zi (jJ _)⟩
   . exact w.elim
 . next o ts=>
   obtain⟨v,rfl,rv⟩:=r.one1
   obtain⟨q,vs,C,rfl,hs,r',_⟩:=rv.lstSq
   exact⟨_,_,rfl,.inl ⟨vs,hs.sq,rfl⟩,by rw[Reps.length ts r'];exact w.val zi (jJ _)⟩
 . next ts=>
   obtain⟨v,rfl,rv⟩:=r.one1
   obtain⟨q,vs,rfl,hs,r'⟩:=rv.tupS
   exact⟨_,_,rfl,.inr ⟨vs,hs,rfl⟩,by rw[Reps.length ts r'];exact w.val zi (jJ _)⟩
 . exact w.elim
def af0:List T->Res T
 |[.int i]=>.ok (.int (if i<0 then -i else i))
 |_=>.no
theorem dy5:wP K cn dm3 af0:=λE As H Z ts xs A Q zi r w=>by
 unfold af0 at w
 split at w
 . next i=>rw[r.ints1];exact⟨i,rfl,w.val zi (jJ _)⟩
 . exact w.elim
noncomputable def yT:List T->Res T
 |[.int i,.int j]=>gate (uA i j) (.ok (.tup [.int (i/j),.int (i%j)]))
 |_=>.no
theorem ds9(i j:Int):Reps K cn H Z [.int i,.int j] [.int i,.int j] []:=by
 simp only[Reps]
 exact⟨_,_,[],[],rfl,rfl,jJ _,_,_,[],[],rfl,rfl,jJ _,rfl,rfl⟩
theorem cu3:wP K cn bt3 yT:=λE As H Z ts xs A Q zi r w=>by
 unfold yT at w
 split at w
 . next i j=>
   obtain⟨h,w⟩:=w.gate
   rw[r.ints2];exact⟨i,j,rfl,h,λp hp=>w.newT zi (ds9 _ _) p hp⟩
 . exact w.elim
def ar8:T->Option String
 |.int _=>some "int"
 |.bl _=>some "bool"
 |.str _=>some "str"
 |.lst _ _=>some "list"
 |.tup _=>some "tuple"
 |_=>none
def ca2(tx ty:String):Option Bool:=
 if(ty="int"\/ty="bool"\/ty="str"\/ty="list"\/ty="tuple")then some (tx=ty\/(tx="bool"/\ty="int"))else none
theorem ch7(h0:ar8 t=some tx)(h:ca2 tx ty=some b):fZ tx ty b:=by
 have hx:tx="int"\/tx="bool"\/tx="str"\/tx="list"\/tx="tuple":=by
  cases t<;>simp[ar8]at h0<;>subst h0<;>simp
 unfold ca2 at h
 split at h
 . next hy=>
   cases h
   rcases hx with rfl|rfl|rfl|rfl|rfl<;>rcases hy with rfl|rfl|rfl|rfl|rfl<;>constructor
 . cases h
theorem ce2(r:Rep K cn H Z t v A)(h:ar8 t=some tx):TyN K H v tx:=by
 cases t with
 |int i=>rw[r.int];cases h;rfl
 |bl i=>rw[r.bl];cases h;rfl
 |str i=>rw[r.str];cases h;rfl
 |lst o ts=>obtain⟨q,vs,C,rfl,hs,_⟩:=r.lstSq;cases h;exact .inl ⟨rfl,vs,hs.sq⟩
 |tup ts=>obtain⟨q,vs,rfl,hs,_⟩:=r.tupS;cases h;exact .inr ⟨rfl,vs,hs⟩
 |_=>cases h
def sM:List T->Res T
 |[t,.ty n]=>match ar8 t with
  |some tx=>match ca2 tx n with
   |some b=>.ok (.bl b)
   |none=>.no
  |none=>.no
 |_=>.no
theorem dc6:wP K cn (dj9 K) sM:=λE As H Z ts xs A Q zi r w=>by
 unfold sM at w
 split at w
 . next t n=>
   split at w
   . next tx h1=>
     split at w
     . next b h2=>
       obtain⟨v,u,B,C,rfl,_,r1,r2⟩:=r.two2
       simp only[Rep]at r2
       rw[r2.1]
       exact⟨v,n,tx,b,rfl,ce2 r1 h1,ch7 h1 h2,w.val zi (qJ _)⟩
     . exact w.elim
   . exact w.elim
 . exact w.elim
def yM:List T->Option (List Bool)
 |[]=>some []
 |.bl b::ts=>(yM ts).map (b:: ·)
 |_::_=>none
theorem bd0:∀(ts:List T){vs:List V}{A:List Addr}{bs:List Bool},Reps K cn H Z ts vs A->yM ts=some bs->vs=bs.map V.bl
 |[],vs,A,bs,r,h=>by
  simp only[Reps]at r
  cases h
  exact r.1
 |t::ts,vs,A,bs,r,h=>by
  simp only[Reps]at r
  obtain⟨v,vs',B,C,rfl,rfl,r1,r2⟩:=r
  cases t with
  |bl b=>
   simp only[yM]at h
   rw[Option.map_eq_some_iff]at h
   obtain⟨bs',h1,rfl⟩:=h
   rw[bd0 ts r2 h1,r1.bl]
   rfl
  |_=>cases h
def mX(any:Bool):List T->Res T
 |[.lst _ ts]=>match yM ts with
  |some bs=>.ok (.bl (if any=true then bs.any id else bs.all id))
  |none=>.no
 |_=>.no
theorem dc8:wP K cn (dx1 K) (mX false):=λE As H Z ts xs A Q zi r w=>by
 unfold mX at w
 split at w
 . next o ts=>
   split at w
   . next bs h=>
     obtain⟨v,rfl,rv⟩:=r.one1
     obtain⟨q,vs,C,rfl,hs,r',_⟩:=rv.lstSq
     have:=bd0 ts r' h
     subst this
     exact⟨q,bs,rfl,hs.sq,w.val zi (qJ _)⟩
   . exact w.elim
 . exact w.elim
def yC:List T->Option (List Int)
 |[]=>some []
 |.int b::ts=>(yC ts).map (b:: ·)
 |_::_=>none
theorem ab5:∀(ts:List T){vs:List V}{A:List Addr}{bs:List Int},Reps K cn H Z ts vs A->yC ts=some bs->vs=bs.map V.int
 |[],vs,A,bs,r,h=>by
  simp only[Reps]at r
  cases h
  exact r.1
 |t::ts,vs,A,bs,r,h=>by
  simp only[Reps]at r
  obtain⟨v,vs',B,C,rfl,rfl,r1,r2⟩:=r
  cases t with
  |int b=>
   simp only[yC]at h
   rw[Option.map_eq_some_iff]at h
   obtain⟨bs',h1,rfl⟩:=h
   rw[ab5 ts r2 h1,r1.int]
   rfl
  |_=>cases h
theorem vP:∀ns:List Int,yC (ns.map T.int)=some ns
 |[]=>rfl
 |n::ns=>by simp[yC,vP ns]
theorem ah7:∀ns:List Bool,yM (ns.map T.bl)=some ns
 |[]=>rfl
 |n::ns=>by simp[yM,ah7 ns]
def cr1:List Int->Int
 |[]=>0
 |n::ns=>ns.foldl (λa b=>if b>a then b else a) n
def ce1:List Int->Int
 |[]=>0
 |n::ns=>ns.foldl (λa b=>if b<a then b else a) n
theorem am6:∀(n:Int)(ns:List Int),(ns.foldl (λa b=>if b>a then b else a) n∈n::ns)/\∀a∈n::ns,a<=ns.foldl (λa b=>if b>a then b else a) n
 |n,[]=>by simp
 |n,m::ns=>by
  simp only[List.foldl_cons]
  have ih:=am6 (if m>n then m else n) ns
  refine⟨?_,λa ha=>?_⟩
  . rcases List.mem_cons.mp ih.1 with h|h
    . rw[h];split<;>simp
    . exact List.mem_cons_of_mem _ (List.mem_cons_of_mem _ h)
  . have h1:=ih.2 (if m>n then m else n) List.mem_cons_self
    rcases List.mem_cons.mp ha with rfl|ha
    . split at h1<;>rename_i hc
      . simp only[hc,if_true];omega
      . simp only[hc,if_false];exact h1
    . rcases List.mem_cons.mp ha with rfl|ha
      . split at h1<;>rename_i hc
        . simp only[hc,if_true];exact h1
        . simp only[hc,if_false];omega
      . exact ih.2 a (List.mem_cons_of_mem _ ha)
theorem ai6:∀(n:Int)(ns:List Int),(ns.foldl (λa b=>if b<a then b else a) n∈n::ns)/\∀a∈n::ns,ns.foldl (λa b=>if b<a then b else a) n<=a
 |n,[]=>by simp
 |n,m::ns=>by
  simp only[List.foldl_cons]
  have ih:=ai6 (if m<n then m else n) ns
  refine⟨?_,λa ha=>?_⟩
  . rcases List.mem_cons.mp ih.1 with h|h
    . rw[h];split<;>simp
    . exact List.mem_cons_of_mem _ (List.mem_cons_of_mem _ h)
  . have h1:=ih.2 (if m<n then m else n) List.mem_cons_self
    rcases List.mem_cons.mp ha with rfl|ha
    . split at h1<;>rename_i hc
      . simp only[hc,if_true];omega
      . simp only[hc,if_false];exact h1
    . rcases List.mem_cons.mp ha with rfl|ha
      . split at h1<;>rename_i hc
        . simp only[hc,if_true];exact h1
        . simp only[hc,if_false];omega
      . exact ih.2 a (List.mem_cons_of_mem _ ha)
def uD:List T->Res T
 |[.int i,.int j]=>.ok (.int (if j>i then j else i))
 |[.lst _ ts]=>match yC ts with
  |some (n::ns)=>.ok (.int (cr1 (n::ns)))
  |_=>.no
 |_=>.no
def qV:List T->Res T
 |[.int i,.int j]=>.ok (.int (if j<i then j else i))
 |[.lst _ ts]=>match yC ts with
  |some (n::ns)=>.ok (.int (ce1 (n::ns)))
  |_=>.no
 |_=>.no
theorem dj6:wP K cn (cp3 K) uD:=λE As H Z ts xs A Q zi r w=>by
 unfold uD at w
 split at w
 . next i j=>rw[r.ints2];exact .inl ⟨i,j,rfl,w.val zi (jJ _)⟩
 . next o ts=>
   split at w
   . next n ns h=>
     obtain⟨v,rfl,rv⟩:=r.one1
     obtain⟨q,vs,C,rfl,hs,r',_⟩:=rv.lstSq
     have:=ab5 ts r' h
     subst this
     refine .inr ⟨q,n::ns,rfl,hs.sq,List.cons_ne_nil _ _,λM h1 h2=>?_⟩
     obtain⟨g1,g2⟩:=am6 n ns
     have:M=cr1 (n::ns):=Int.le_antisymm (g2 M h1) (h2 _ g1)
     rw[this]
     exact w.val zi (jJ _)
   . exact w.elim
 . exact w.elim
theorem dr8:wP K cn (ci2 K) qV:=λE As H Z ts xs A Q zi r w=>by
 unfold qV at w
 split at w
 . next i j=>rw[r.ints2];exact .inl ⟨i,j,rfl,w.val zi (jJ _)⟩
 . next o ts=>
   split at w
   . next n ns h=>
     obtain⟨v,rfl,rv⟩:=r.one1
     obtain⟨q,vs,C,rfl,hs,r',_⟩:=rv.lstSq
     have:=ab5 ts r' h
     subst this
     refine .inr ⟨q,n::ns,rfl,hs.sq,List.cons_ne_nil _ _,λM h1 h2=>?_⟩
     obtain⟨g1,g2⟩:=ai6 n ns
     have:M=ce1 (n::ns):=Int.le_antisymm (h2 _ g1) (g2 M h1)
     rw[this]
     exact w.val zi (jJ _)
   . exact w.elim
 . exact w.elim
def dr2(n:Int):List Int->List Int
 |[]=>[n]
 |m::ms=>if n<=m then n::m::ms else m::dr2 n ms
def bi6:List Int->List Int
 |[]=>[]
 |n::ns=>dr2 n (bi6 ns)
def bq4:List T->Res T
 |[.lst _ ts]=>match yC ts with
  |some ns=>if ns.length<64 then .ok (.lst true ((bi6 ns).map .int))else .no
  |none=>.no
 |_=>.no
def gS:List T->Res T
 |[.lst _ ts]=>if bA ts=true then .ok (.lst true ts)else .no
 |[.tup ts]=>if bA ts=true then .ok (.lst true ts)else .no
 |_=>.no
theorem dv2:wP K cn (be8 K) gS:=λE As H Z ts xs A Q zi r w=>by
 unfold gS at w
 split at w
 . next o ts=>
   split at w
   . next h=>
     obtain⟨v,rfl,rv⟩:=r.one1
     obtain⟨q,vs,C,rfl,hs,r',_⟩:=rv.lstSq
     exact⟨q,vs,rfl,.inl hs.sq,λl hl=>w.newL zi (r'.bareE h) l hl⟩
   . exact w.elim
 . next ts=>
   split at w
   . next h=>
     obtain⟨v,rfl,rv⟩:=r.one1
     obtain⟨q,vs,rfl,hs,r'⟩:=rv.tupS
     exact⟨q,vs,rfl,.inr hs,λl hl=>w.newL zi (r'.bareE h) l hl⟩
   . exact w.elim
 . exact w.elim
def co9:T->List T->Res T
 |.str z,[.str y]=>.ok (.bl (Txt.startswith z y))
 |_,_=>.no
def wD:List T->Option (List Str)
 |[]=>some []
 |.str b::ts=>(wD ts).map (b:: ·)
 |_::_=>none
theorem af5:∀(ts:List T){vs:List V}{A:List Addr}{bs:List Str},Reps K cn H Z ts vs A->wD ts=some bs->vs=bs.map V.str
 |[],vs,A,bs,r,h=>by
  simp only[Reps]at r
  cases h
  exact r.1
 |t::ts,vs,A,bs,r,h=>by
  simp only[Reps]at r
  obtain⟨v,vs',B,C,rfl,rfl,r1,r2⟩:=r
  cases t with
  |str b=>
   simp only[wD]at h
   rw[Option.map_eq_some_iff]at h
   obtain⟨bs',h1,rfl⟩:=h
   rw[af5 ts r2 h1,r1.str]
   rfl
  |_=>cases h
theorem yG:∀ns:List Str,wD (ns.map T.str)=some ns
 |[]=>rfl
 |n::ns=>by simp[wD,yG ns]
def vV:T->List T->Res T
 |.str z,[.lst _ ts]=>match wD ts with
  |some ys=>if(ys.map (·.length)).sum+ys.length*z.length<=16777216 then .ok (.str (Txt.join z ys))else .no
  |none=>.no
 |_,_=>.no
theorem dq3:RMR K cn "str" (ba6 K) vV:=λE As H Z t ts x xs A B Q zi rt r w=>by
 unfold vV at w
 split at w
 . next z o ts=>
   split at w
   . next ys h=>
     split at w
     . next hz=>
       obtain⟨v,rfl,rv⟩:=r.one1
       obtain⟨q,vs,C,rfl,hs,r',_⟩:=rv.lstSq
       have:=af5 ts r' h
       subst this
       rw[rt.str]
       exact⟨z,q,ys,rfl,rfl,hs.sq,hz,w.val zi (xV _)⟩
     . exact w.elim
   . exact w.elim
 . exact w.elim
end
end TL
namespace TL
open PySem PySem.Spec PyProof.Rows L2
theorem mD(a:α)(f:α->Res β):(Res.ok a).bind f=f a:=rfl
theorem bn0(P:Nat->Fr->Prop):∀(ts:List T)(k:Nat){ρ:Fr},P k ρ->(∀i t ρ,ts[i]?=some t->P (k+i) ρ->∃ρ1 ρ2,b t ρ=some ρ1/\(body ρ1=.nx ρ2\/body ρ1=.ct ρ2)/\P (k+i+1) ρ2)->∃ρ',eI b body ts ρ=.nx ρ'/\P (k+ts.length) ρ'
 |[],k,ρ,h0,_=>⟨ρ,rfl,h0⟩
 |t::ts,k,ρ,h0,hs=>by
  obtain⟨ρ1,ρ2,h1,h2,h3⟩:=hs 0 t ρ rfl h0
  obtain⟨ρ',h4,h5⟩:=bn0 (b:=b) (body:=body) P ts (k+1) h3 (λi u ρ e p=>by
   have:=hs (i+1) u ρ (by simpa using e) (by rw[show k+(i+1)=k+1+i by omega];exact p)
   rw[show k+(i+1)+1=k+1+i+1 by omega]at this
   exact this)
  refine⟨ρ',?_,by rw[List.length_cons,show k+(ts.length+1)=k+1+ts.length by omega];exact h5⟩
  rcases h2 with h2|h2<;>simp only[eI,h1,h2,h4]
def Go(P:Fr->Prop):bU->Prop
 |.nx ρ=>P ρ
 |.ct ρ=>P ρ
 |_=>False
def GoB(P:Fr->Prop)(body:Fr->bU):Option Fr->Prop
 |some ρ=>Go P (body ρ)
 |none=>False
theorem dl8:Go P (.nx ρ)=P ρ:=rfl
theorem db8:Go P (.ct ρ)=P ρ:=rfl
theorem ce4:GoB P body (some ρ)=Go P (body ρ):=rfl
theorem jO(P:Nat->Fr->Prop)(h:eI b body ts ρ=o)(h0:P 0 ρ)(hs:∀i t ρ,ts[i]?=some t->P i ρ->GoB (P (i+1)) body (b t ρ)):∃ρ',o=.nx ρ'/\P ts.length ρ':=by
 obtain⟨ρ',h1,h2⟩:=bn0 (b:=b) (body:=body) P ts 0 h0 (λi t ρ e p=>by
  have:=hs i t ρ e (by rw[Nat.zero_add]at p;exact p)
  rw[Nat.zero_add]
  cases e1:b t ρ with
  |none=>rw[e1]at this;exact this.elim
  |some ρ1=>
   rw[e1]at this
   have g:Go (P (i+1)) (body ρ1):=this
   cases e2:body ρ1 with
   |nx ρ2=>rw[e2]at g;exact⟨ρ1,ρ2,rfl,.inl e2,g⟩
   |ct ρ2=>rw[e2]at g;exact⟨ρ1,ρ2,rfl,.inr e2,g⟩
   |_=>rw[e2]at g;exact g.elim)
 rw[Nat.zero_add]at h2
 exact⟨ρ',by rw[<-h,h1],h2⟩
def bw4(P B:Fr->Prop)(R:T->Prop):bU->Prop
 |.nx ρ=>P ρ
 |.ct ρ=>P ρ
 |.bk ρ=>B ρ
 |.rt t=>R t
 |_=>False
def br0(P B:Fr->Prop)(R:T->Prop)(body:Fr->bU):Option Fr->Prop
 |some ρ=>bw4 P B R (body ρ)
 |none=>False
theorem an2(P:Nat->Fr->Prop)(B:Fr->Prop)(R:T->Prop):∀(ts:List T)(k:Nat){ρ:Fr},P k ρ->(∀i t ρ,ts[i]?=some t->P (k+i) ρ->br0 (P (k+i+1)) B R body (b t ρ))->
 (∃ρ',eI b body ts ρ=.nx ρ'/\(P (k+ts.length) ρ'\/B ρ'))\/∃t,eI b body ts ρ=.rt t/\R t
 |[],k,ρ,h0,_=>.inl ⟨ρ,rfl,.inl h0⟩
 |t::ts,k,ρ,h0,hs=>by
  have h1:=hs 0 t ρ rfl h0
  have next:∀{ρ2:Fr},P (k+1) ρ2->(∃ρ',eI b body ts ρ2=.nx ρ'/\(P (k+(ts.length+1)) ρ'\/B ρ'))\/∃t,eI b body ts ρ2=.rt t/\R t:=by
   intro ρ2 p
   have:=an2 (b:=b) (body:=body) P B R ts (k+1) p (λi u ρ e p=>by
    have:=hs (i+1) u ρ (by simpa using e) (by rw[show k+(i+1)=k+1+i by omega];exact p)
    rw[show k+(i+1)+1=k+1+i+1 by omega]at this
    exact this)
   rw[show k+1+ts.length=k+(ts.length+1) by omega]at this
   exact this
  rw[List.length_cons]
  simp only[eI]
  cases e1:b t ρ with
  |none=>rw[e1]at h1;exact h1.elim
  |some ρ1=>
   rw[e1]at h1
   have g:bw4 (P (k+0+1)) B R (body ρ1):=h1
   simp only
   cases e2:body ρ1 with
   |nx ρ2=>rw[e2]at g;exact next g
   |ct ρ2=>rw[e2]at g;exact next g
   |bk ρ2=>rw[e2]at g;exact .inl ⟨ρ2,rfl,.inr g⟩
   |rt t=>rw[e2]at g;exact .inr ⟨t,rfl,g⟩
   |_=>rw[e2]at g;exact g.elim
theorem cb0(P:Nat->Fr->Prop)(B:Fr->Prop)(R:T->Prop)(h:eI b body ts ρ=o)(h0:P 0 ρ)(hs:∀i t ρ,ts[i]?=some t->P i ρ->br0 (P (i+1)) B R body (b t ρ)):
 (∃ρ',o=.nx ρ'/\(P ts.length ρ'\/B ρ'))\/∃t,o=.rt t/\R t:=by
 have:=an2 (b:=b) (body:=body) P B R ts 0 h0 (λi t ρ e p=>by
  rw[Nat.zero_add]at p⊢
  exact hs i t ρ e p)
 rw[Nat.zero_add,h]at this
 exact this
def GoW(P:Fr->Prop)(body:Fr->bU)(ρ:Fr):Res Bool->Prop
 |.ok true=>Go P (body ρ)
 |.ok false=>True
 |_=>False
theorem dw0(i j:Int):bO (.int i) (.int j)=.ok (.int (i+j)):=rfl
theorem da4(a b:Str):bO (.str a) (.str b)=gate (a.length+b.length<=sizeLine) (.ok (.str (a++b))):=rfl
theorem do2(o o':Bool)(xs ys:List T):bO (.lst o xs) (.lst o' ys)=gate ((bA xs&&bA ys)=true/\xs.length+ys.length<=sizeLine) (.ok (.lst true (xs++ys))):=rfl
theorem dh2(xs ys:List T):bO (.tup xs) (.tup ys)=gate ((bA xs&&bA ys)=true/\xs.length+ys.length<=sizeLine/\xs.isEmpty=false/\ys.isEmpty=false) (.ok (.tup (xs++ys))):=rfl
theorem do0(i j:Int):cY (.int i) (.int j)=.ok (.int (i-j)):=rfl
theorem dp3(i j:Int):mI (.int i) (.int j)=gate (mulOk i j) (.ok (.int (i*j))):=rfl
theorem dp0(z:Str)(k:Int):mI (.str z) (.int k)=gate (-(2^63)<=k/\k<2^62/\z.length*k.toNat<=sizeLine) (.ok (.str (vO z k.toNat))):=rfl
theorem cc8(i j:Int):gB (.int i) (.int j)=gate (uA i j) (.ok (.int (i/j))):=rfl
theorem dj1(i j:Int):bV (.int i) (.int j)=gate (0<j) (.ok (.int (i%j))):=rfl
theorem ab3(i j:Int):wA (.int i) (.int j)=gate (xF i j) (.ok (.int (i^j.toNat))):=rfl
theorem dr6(i:Int):sO (.int i)=.ok (.int (-i)):=rfl
theorem dp6(i j:Int):ltT (.int i) (.int j)=.ok (.bl (decide (i<j))):=rfl
theorem dl6(i j:Int):oH (.int i) (.int j)=.ok (.bl (decide (i<=j))):=rfl
theorem dl5(i j:Int):gtT (.int i) (.int j)=.ok (.bl (decide (j<i))):=rfl
theorem dv6(i j:Int):geT (.int i) (.int j)=.ok (.bl (decide (j<=i))):=rfl
theorem dn7(a b:Bool):yA (.bl a) (.bl b)=.ok (.bl (a==b)):=rfl
theorem dm7:yA .non .non=.ok (.bl true):=rfl
theorem de8(i:Int):yA (.int i) .non=.ok (.bl false):=rfl
theorem dt5(i:Str):yA (.str i) .non=.ok (.bl false):=rfl
theorem dh7(o:Bool)(i:List T):yA (.lst o i) .non=.ok (.bl false):=rfl
theorem dz7(i:List T):yA (.tup i) .non=.ok (.bl false):=rfl
theorem cv1:iG .non .non=.ok (.bl false):=rfl
theorem cb2(i:Int):iG (.int i) .non=.ok (.bl true):=rfl
theorem cx2(i:Str):iG (.str i) .non=.ok (.bl true):=rfl
theorem cx3(o:Bool)(i:List T):iG (.lst o i) .non=.ok (.bl true):=rfl
theorem ca1(i:List T):iG (.tup i) .non=.ok (.bl true):=rfl
theorem dy7(i j:Int):fN (.int i) (.int j)=.ok (.bl (i==j)):=rfl
theorem dq6(i j:Str):fN (.str i) (.str j)=.ok (.bl (i==j)):=rfl
theorem dw6(i j:Bool):fN (.bl i) (.bl j)=.ok (.bl (i==j)):=rfl
theorem dp7(i j:Int):neT (.int i) (.int j)=.ok (.bl (!(i==j))):=rfl
theorem do6(i j:Str):neT (.str i) (.str j)=.ok (.bl (!(i==j))):=rfl
theorem dp8(i j:Bool):neT (.bl i) (.bl j)=.ok (.bl (!(i==j))):=rfl
theorem du5(n:Bool)(i j:Str):zU n (.str i) (.str j)=.ok (.bl (if n=true then !occ j i else occ j i)):=rfl
theorem db6(o:Bool)(ts:List T)(n:Int):aY (.lst o ts) (.int n)=match atI ts n with|some t=>.ok t|none=>.no:=rfl
theorem ct5(ts:List T)(n:Int):aY (.tup ts) (.int n)=match atI ts n with|some t=>.ok t|none=>.no:=rfl
theorem dt7(z:Str)(n:Int):aY (.str z) (.int n)=if z.length<=sizeLine then match atI z.cps.toList n with|some c=>.ok (.str ⟨#[c]⟩)|none=>.no else .no:=rfl
theorem dp9(o:Bool)(ts:List T)(lo hi:Option Int):oC (.lst o ts) lo hi=if bA ts=true then .ok (.lst true (eE ts lo hi))else .no:=rfl
theorem dk9(ts:List T)(lo hi:Option Int):oC (.tup ts) lo hi=if bA ts=true/\¬(HT.sIx ts.length 0 lo=0/\HT.sIx ts.length ts.length hi=ts.length)then .ok (.tup (eE ts lo hi))else .no:=rfl
theorem dy9(z:Str)(lo hi:Option Int):oC (.str z) lo hi=if z.length<=sizeLine then .ok (.str (Txt.slice z lo hi))else .no:=rfl
theorem dr7(z:Str):eJ [.str z]=if z.length<=sizeLine then .ok (.int z.length)else .no:=rfl
theorem dr5(o:Bool)(ts:List T):eJ [.lst o ts]=.ok (.int ts.length):=rfl
theorem do7(ts:List T):eJ [.tup ts]=.ok (.int ts.length):=rfl
theorem dy6(i:Int):af0 [.int i]=.ok (.int (if i<0 then -i else i)):=rfl
theorem bj9(i j:Int):yT [.int i,.int j]=gate (uA i j) (.ok (.tup [.int (i/j),.int (i%j)])):=rfl
theorem cn5(i:Int):sM [.int i,.ty "int"]=.ok (.bl true):=by with_unfolding_all rfl
theorem bj7(i:Int):sM [.int i,.ty "bool"]=.ok (.bl false):=by with_unfolding_all rfl
theorem cy5(i:Bool):sM [.bl i,.ty "bool"]=.ok (.bl true):=by with_unfolding_all rfl
theorem bv9(i:Bool):sM [.bl i,.ty "int"]=.ok (.bl true):=by with_unfolding_all rfl
theorem ca6(i:List T):sM [.tup i,.ty "tuple"]=.ok (.bl true):=by with_unfolding_all rfl
theorem co5(o:Bool)(i:List T):sM [.lst o i,.ty "list"]=.ok (.bl true):=by with_unfolding_all rfl
theorem dq5(i:Str):sM [.str i,.ty "str"]=.ok (.bl true):=by with_unfolding_all rfl
theorem dv3(i:Str):sM [.str i,.ty "int"]=.ok (.bl false):=by with_unfolding_all rfl
theorem bn6(a o:Bool)(bs:List Bool):mX a [.lst o (bs.map .bl)]=.ok (.bl (if a=true then bs.any id else bs.all id)):=by
 simp only[mX,ah7]
theorem dn1(i j:Int):uD [.int i,.int j]=.ok (.int (if j>i then j else i)):=rfl
theorem dy2(i j:Int):qV [.int i,.int j]=.ok (.int (if j<i then j else i)):=rfl
theorem do5(o:Bool)(n:Int)(ns:List Int):uD [.lst o ((n::ns).map .int)]=.ok (.int (cr1 (n::ns))):=by
 simp only[uD,vP]
theorem de7(o:Bool)(n:Int)(ns:List Int):qV [.lst o ((n::ns).map .int)]=.ok (.int (ce1 (n::ns))):=by
 simp only[qV,vP]
theorem cb1(o:Bool)(ns:List Int):bq4 [.lst o (ns.map .int)]=if ns.length<64 then .ok (.lst true ((bi6 ns).map .int))else .no:=by
 simp only[bq4,vP]
theorem dc5(o:Bool)(ts:List T):gS [.lst o ts]=if bA ts=true then .ok (.lst true ts)else .no:=rfl
theorem do4(ts:List T):gS [.tup ts]=if bA ts=true then .ok (.lst true ts)else .no:=rfl
theorem bd9(z y:Str):co9 (.str z) [.str y]=.ok (.bl (Txt.startswith z y)):=rfl
theorem bm4(z:Str)(o:Bool)(ys:List Str):vV (.str z) [.lst o (ys.map .str)]=if(ys.map (·.length)).sum+ys.length*z.length<=16777216 then .ok (.str (Txt.join z ys))else .no:=by
 simp only[vV,yG]
theorem dh6(o:Bool)(ts:List T):jP (.lst o ts)=if bA ts=true then .ok ts else .no:=rfl
theorem da6(ts:List T):jP (.tup ts)=if bA ts=true then .ok ts else .no:=rfl
theorem dt8(z:Str):jP (.str z)=.ok (z.cps.toList.map λc=>T.str ⟨#[c]⟩):=rfl
theorem dg5(ts:List T):uO (.lst false ts)=if bA ts=true then .ok ts else .no:=by simp only[uO,Bool.not_false,Bool.true_and]
theorem dj7(ts:List T):uO (.tup ts)=if bA ts=true then .ok ts else .no:=rfl
theorem dm8(z:Str):uO (.str z)=.ok (z.cps.toList.map λc=>T.str ⟨#[c]⟩):=rfl
theorem dk7(j:Int):pJ [.int j]=gate (-(2^62)<=j/\j<2^62) (.ok (iX 0 j.toNat)):=rfl
theorem di6(i j:Int):bn5 [.int i,.int j]=gate (-(2^62)<=i/\i<2^62/\-(2^62)<=j/\j<2^62) (.ok (iX i (j-i).toNat)):=rfl
theorem dl7(b:Bool):tW (.bl b)=.ok b:=rfl
theorem dn6(b:Int):tW (.int b)=.ok (b !=0):=rfl
theorem ds7:tW .non=.ok false:=rfl
theorem dn8(o:Bool)(b:List T):tW (.lst o b)=.ok (!b.isEmpty):=rfl
theorem dz5(b:Bool):toB (.bl b)=.ok b:=rfl
theorem df8(i:Int):toI (.int i)=.ok (some i):=rfl
theorem da8(o:Bool)(ts:List T):ck4 (some (-1)) (.lst o ts)=if bA ts=true then .ok (.lst true ts.reverse)else .no:=by
 simp only[ck4,and_true]
theorem eQ:∀{l:List α},(∀a∈l,d (ρ.set k (some (g a)))=.ok (f a))->cE (aJ k) cM d ρ (l.map g)=.ok (l.map f)
 |[],_=>rfl
 |a::l,h=>by
  simp only[List.map_cons,cE,aJ,cM,mD,if_true,h a List.mem_cons_self,eQ (λu hu=>h u (List.mem_cons_of_mem _ hu))]
theorem ap2:∀{l:List α},(∀a∈l,c (ρ.set k (some (g a)))=.ok (p a)/\(p a=true->d (ρ.set k (some (g a)))=.ok (f a)))->cE (aJ k) c d ρ (l.map g)=.ok ((l.filter p).map f)
 |[],_=>rfl
 |a::l,h=>by
  obtain⟨h1,h2⟩:=h a List.mem_cons_self
  have ih:=ap2 (k:=k) (c:=c) (d:=d) (ρ:=ρ) (g:=g) (f:=f) (p:=p) (l:=l) (λu hu=>h u (List.mem_cons_of_mem _ hu))
  cases hp:p a with
  |true=>simp only[List.map_cons,cE,aJ,h1,hp,h2 hp,mD,if_true,List.filter_cons,ih]
  |false=>simp only[List.map_cons,cE,aJ,h1,hp,mD,Bool.false_eq_true,if_false,List.filter_cons,ih]
theorem jS{lo:Int}{n i:Nat}{t:T}(h:(iX lo n)[i]?=some t):i<n/\t=.int (lo+i):=by
 unfold iX at h
 rw[List.getElem?_map]at h
 cases q:(List.range n)[i]? with
 |none=>rw[q]at h;cases h
 |some j=>
  rw[q]at h
  obtain⟨h1,h2⟩:=List.getElem?_eq_some_iff.mp q
  simp at h1 h2
  subst h2
  cases h
  exact⟨h1,rfl⟩
theorem gM(lo:Int)(n:Nat):(iX lo n).length=n:=by simp[iX]
theorem jV{α:Type}{g:α->T}(h:∀a,dS (g a)=true):∀l:List α,bA (l.map g)=true
 |[]=>rfl
 |a::l=>by simp only[List.map_cons,bA,h a,jV h l,Bool.and_self]
theorem sP{α:Type}{g:α->T}(h:∀a,frz (g a)=g a):∀l:List α,frzs (l.map g)=l.map g
 |[]=>rfl
 |a::l=>by simp only[List.map_cons,frzs,h a,sP h l]
theorem kB{α:Type}{g:α->T}(h:∀a,dX (g a)=true):∀l:List α,dL (l.map g)=true
 |[]=>rfl
 |a::l=>by simp only[List.map_cons,dL,h a,kB h l,Bool.and_self]
theorem kL(l:List Int):bA (l.map T.int)=true:=jV (λ_=>rfl) l
theorem tE(l:List Int):frzs (l.map T.int)=l.map T.int:=sP (λ_=>rfl) l
theorem uB(l:List Int):dL (l.map T.int)=true:=kB (λ_=>rfl) l
theorem kN(l:List Str):bA (l.map T.str)=true:=jV (λ_=>rfl) l
theorem xM(l:List Str):frzs (l.map T.str)=l.map T.str:=sP (λ_=>rfl) l
theorem uC(l:List Str):dL (l.map T.str)=true:=kB (λ_=>rfl) l
theorem cu6(z:Str):z.length=z.cps.toList.length:=Array.length_toList.symm
end TL
namespace TL
open PySem PySem.Spec PyProof.Rows L2
section
variable {Jn : gN} {K : PySem.W.Frag} {cn : Str → Option Addr} {E : XK}
def eS(cs:List Str)(f:Str):T->Res T
 |.ins _ c ns ts=>if cs.contains c=true then match(ns.zip ts).lookup f with
  |some t=>.ok t
  |none=>.no else .no
 |_=>.no
def iR(K:PySem.W.Frag)(cn:Str->Option Addr)(cs:List Str)(f:Str):Prop:=∀c∈cs,∀C,cn c=some C->Cls K C/\NoAttr K C f
theorem Reps.lookup:∀(ns:List Str)(ts:List T){vs:List V}{A:List Addr},Reps K cn H Z ts vs A->(ns.zip ts).lookup f=some t->∃v B,(ns.zip vs).lookup f=some v/\Rep K cn H Z t v B
 |[],ts,_,_,_,e=>by simp at e
 |n::ns,[],_,_,_,e=>by simp at e
 |n::ns,u::ts,vs,A,r,e=>by
  simp only[Reps]at r
  obtain⟨v,r',B,C,rfl,rfl,h1,h2⟩:=r
  rw[List.zip_cons_cons,List.lookup_cons]at e⊢
  cases q:f==n with
  |true=>
   rw[q]at e
   cases e
   exact⟨v,B,rfl,h1⟩
  |false=>
   rw[q]at e
   exact Reps.lookup ns ts h2 e
theorem Rep.insS(r:Rep K cn H Z (.ins o c ns ts) v B):∃a C dx vs D,v=.ref a/\cn c=some C/\H a=some (.ins C dx (ns.zip vs))/\ns.length=vs.length/\Reps K cn H Z ts vs D:=by
 cases o with
 |true=>
  simp only[Rep]at r
  obtain⟨a,C,dx,vs,D,rfl,_,hc,e,l,r⟩:=r
  exact⟨a,C,dx,vs,D,rfl,hc,e,l,r⟩
 |false=>
  simp only[Rep]at r
  obtain⟨a,C,dx,vs,rfl,_,hc,e,_,l,r⟩:=r
  exact⟨a,C,dx,vs,[],rfl,hc,e,l,r⟩
theorem do1(hf:iR K cn cs f)(ha:RB Jn K cn E ta a):RB Jn K cn E (cp2 K ta f) (eZ (eS cs f) a):=λAs H Z ρ σ F Q w=>by
 unfold eZ at w
 refine ha As H Z ρ σ F _ ?_
 cases e:a ρ with
 |ok t=>
  rw[e]at w
  intro v H1 Z1 B p
  simp only[Res.bind]at w
  unfold eS at w
  split at w
  . next o c ns ts=>
    split at w
    . next hc=>
      split at w
      . next t' h=>
        obtain⟨q,C,dx,vs,D,rfl,hC,eq,_,r⟩:=p.rep.insS
        obtain⟨v',B',e3,rv⟩:=Reps.lookup ns ts r h
        obtain⟨k1,k2⟩:=hf c (by simpa using hc) C hC
        exact⟨q,C,dx,_,v',rfl,eq,k1,k2,e3,w v' H1 Z1 B' ⟨p.same,p.zz,p.zn,p.zi,rv⟩⟩
      . exact w.elim
    . exact w.elim
  . exact w.elim
 |ex x=>rw[e]at w;exact w
 |no=>rw[e]at w;exact w
def fK(f:Str):List Str->Option Nat
 |[]=>none
 |n::ns=>if n=f then some 0 else(fK f ns).map (· +1)
theorem bp4:∀(ns:List Str)(vs:List V){k:Nat},ns.length=vs.length->fK f ns=some k->jL f y (ns.zip vs)=ns.zip (vs.set k y)
 |[],_,_,_,h=>by simp[fK]at h
 |n::ns,[],_,l,_=>by simp at l
 |n::ns,w::vs,k,l,h=>by
  unfold fK at h
  rw[List.zip_cons_cons,jL]
  by_cases q:n=f
  . rw[if_pos q]at h;cases h
    rw[if_pos q];rfl
  . rw[if_neg q,Option.map_eq_some_iff]at h
    obtain⟨k',h1,rfl⟩:=h
    rw[if_neg q,bp4 ns vs (by simpa using l) h1];rfl
theorem bd1:∀(ns:List Str)(vs:List V),ns.length=vs.length->fK f ns=none->jL f y (ns.zip vs)=(ns++[f]).zip (vs++[y])
 |[],[],_,_=>rfl
 |[],w::vs,l,_=>by simp at l
 |n::ns,[],l,_=>by simp at l
 |n::ns,w::vs,l,h=>by
  unfold fK at h
  rw[List.zip_cons_cons,jL]
  by_cases q:n=f
  . rw[if_pos q]at h;cases h
  . rw[if_neg q,Option.map_eq_none_iff]at h
    rw[if_neg q,bd1 ns vs (by simpa using l) h];rfl
def ef0(j:Nat)(cs:List Str)(f:Str)(d:Fr->Res (List Nat)):Fr->Res (List Nat):=λρ=>(d ρ).bind λp=>match ρ[j]? with
 |some (some t0)=>match lD p t0 with
  |some (.ins o c ns ts)=>if(o&&cs.contains c)=true then match fK f ns with
   |some k=>if k<ts.length then .ok (p++[k])else .no
   |none=>.no else .no
  |_=>.no
 |_=>.no
def qU(j:Nat)(mv:List Nat)(cs:List Str)(f:Str)(e:Fr->Res T)(d:Fr->Res (List Nat)):Fr->bU:=λρ=>match e ρ with
 |.ok t=>match(kills mv ρ)[j]? with
  |some (some t0)=>match d (kills mv ρ)with
   |.ok p=>match lD p t0 with
    |some (.ins o c ns us)=>if(o&&cs.contains c&&decide (ns.length<1000))=true then match fK f ns with
     |some k=>if k<us.length then bk1 j p (.ins true c ns (us.set k t)) (kills mv ρ)else .no
     |none=>bk1 j p (.ins true c (ns++[f]) (us++[t])) (kills mv ρ)
     else .no
    |_=>.no
   |.ex x=>.ex x
   |.no=>.no
  |_=>.no
 |.ex x=>.ex x
 |.no=>.no
theorem dk3(hf:iR K cn cs f)(he:RE Jn K cn E mv te e)(hd:RP Jn K cn E j to d):RS Jn K cn E (cx1 K to te f) (qU j mv cs f e d):=λAs H Z ρ σ F D w=>by
 unfold qU at w
 refine he As H Z ρ σ F _ ?_
 cases ee:e ρ with
 |ok t=>
  rw[ee]at w
  intro y H1 Z1 C p1
  simp only at w
  have F1:=(F.mo p1.mo).kills mv
  cases e1:(kills mv ρ)[j]? with
  |none=>rw[e1]at w;exact w.elim
  |some o=>
   rw[e1]at w
   cases o with
   |none=>exact w.elim
   |some t0=>
    obtain⟨v0,e2,r0⟩:=F1.sl.get e1
    simp only at w
    have ev1:Ev As H Z (eW mv As) H1 Z1:=⟨λb o q _=>p1.same b o q,λb hb=>.inl (eM hb),p1.zz,λb h=>(p1.zn b h).imp_right .inr,λb h=>p1.same.free h⟩
    refine hd (eW mv As) H1 Z1 (kills mv ρ) σ F1 t0 v0 e1 e2 r0 _ ?_
    cases ed:d (kills mv ρ)with
    |ok p=>
     rw[ed]at w
     intro u v B H2 Z2 m2 hn pl
     simp only[hn]at w
     split at w
     . next o c ns us hq=>
       cases hq
       split at w
       . next hc=>
         rw[Bool.and_eq_true,Bool.and_eq_true]at hc
         obtain⟨⟨rfl,hc⟩,hl⟩:=hc
         have hl:=of_decide_eq_true hl
         have q:=pl.rep
         simp only[Rep]at q
         obtain⟨a,C',dx,ws,C0,rfl,rfl,hC,ea,l,rs⟩:=q
         have rt:Rep K cn H2 Z2 t y C:=p1.rep.same m2.same m2.zz
         have F2:=F1.mo m2
         have lw:=Reps.length us rs
         obtain⟨k1,k2⟩:=hf c (by simpa using hc) C' hC
         refine⟨a,C',dx,_,rfl,ea,k1,k2,by rw[List.length_zip];omega,?_⟩
         have ndB:(a::C0).Nodup:=(rV F1.nd j).sublist pl.sub
         have cA:∀x∈C0,x∈(eW mv As).getD j []:=λx hx=>pl.sub.mem (List.mem_cons_of_mem _ hx)
         have cOut:=p1.out F
         have cz:∀x∈C,¬Z2 x:=λx hx z=>by
          rcases m2.zn x z with z|z
          . exact p1.bz x hx z
          . obtain⟨o,ho,_⟩:=p1.rep.dom t x hx
            rw[ho]at z;cases z
         cases ek:fK f ns with
         |none=>
          rw[ek]at w
          rw[bd1 ns ws l ek]
          refine aj4 (As:=As) (H:=H) (Z:=Z) (E:=E) F2 e1 e2 pl rfl rfl ea rfl (u':=.ins true c (ns++[f]) (us++[t])) (C:=C0++C) (λaC aZ=>?_) ?_ ?_ ?_ (ev1.trans m2.ev) ?_ w
          . simp only[Rep]
            exact⟨a,C',dx,ws++[y],C0++C,rfl,rfl,hC,eD,by simp[l],(Reps.append us rs (Reps.one rt)).upd ea rfl aC aZ⟩
          . rw[List.nodup_append]
            exact⟨(List.nodup_cons.mp ndB).2,p1.nd,λx hx z hz e=>by subst e;exact cOut x hz (aV (cA x hx))⟩
          . intro x hx
            rcases List.mem_append.mp hx with hx|hx
            . exact F2.nz x (aV (cA x hx))
            . exact cz x hx
          . intro x hx hA
            rcases List.mem_append.mp hx with hx|hx
            . exact hx
            . exact absurd hA (cOut x hx)
          . intro x hx
            rcases List.mem_append.mp hx with hx|hx
            . exact .inl (eM (aV (cA x hx)))
            . exact p1.inA x hx
         |some k=>
          rw[ek]at w
          simp only at w
          split at w
          . next hk=>
            rw[bp4 ns ws l ek]
            obtain⟨B1,Bo,B2,rfl,rs'⟩:=Reps.put rt us rs hk
            have i1:∀x∈B1,x∈B1++Bo++B2:=λx hx=>List.mem_append_left _ (List.mem_append_left _ hx)
            have i2:∀x∈B2,x∈B1++Bo++B2:=λx hx=>List.mem_append_right _ hx
            have nd1:=(List.nodup_cons.mp ndB).2
            rw[List.append_assoc,List.nodup_append]at nd1
            obtain⟨n1,n2,n3⟩:=nd1
            rw[List.nodup_append]at n2
            refine aj4 (As:=As) (H:=H) (Z:=Z) (E:=E) F2 e1 e2 pl rfl rfl ea rfl (u':=.ins true c ns (us.set k t)) (C:=B1++C++B2) (λaC aZ=>?_) ?_ ?_ ?_ (ev1.trans m2.ev) ?_ w
            . simp only[Rep]
              exact⟨a,C',dx,ws.set k y,B1++C++B2,rfl,rfl,hC,eD,by simp[l],rs'.upd ea rfl aC aZ⟩
            . rw[List.append_assoc,List.nodup_append]
              refine⟨n1,?_,λx hx z hz e=>?_⟩
              . rw[List.nodup_append]
                exact⟨p1.nd,n2.2.1,λx hx z hz e=>by subst e;exact cOut x hx (aV (cA x (i2 x hz)))⟩
              . subst e
                rcases List.mem_append.mp hz with hz|hz
                . exact cOut x hz (aV (cA x (i1 x hx)))
                . exact n3 x hx x (List.mem_append_right _ hz) rfl
            . intro x hx
              rcases List.mem_append.mp hx with hx|hx
              . rcases List.mem_append.mp hx with hx|hx
                . exact F2.nz x (aV (cA x (i1 x hx)))
                . exact cz x hx
              . exact F2.nz x (aV (cA x (i2 x hx)))
            . intro x hx hA
              rcases List.mem_append.mp hx with hx|hx
              . rcases List.mem_append.mp hx with hx|hx
                . exact i1 x hx
                . exact absurd hA (cOut x hx)
              . exact i2 x hx
            . intro x hx
              rcases List.mem_append.mp hx with hx|hx
              . rcases List.mem_append.mp hx with hx|hx
                . exact .inl (eM (aV (cA x (i1 x hx))))
                . exact p1.inA x hx
              . exact .inl (eM (aV (cA x (i2 x hx))))
          . exact w.elim
       . exact w.elim
     . exact w.elim
    |ex x=>rw[ed]at w;exact WpX.ev w ev1
    |no=>rw[ed]at w;exact w
 |ex x=>rw[ee]at w;exact w
 |no=>rw[ee]at w;exact w
def wK(K:PySem.W.Frag)(cn:Str->Option Addr)(c:Str)(n:Nat)(G:List T->Res T):Sp:=λvs H Q E=>vs.length=n+1/\∃x C dx us ts Z,vs=.ref x::us/\cn c=some C/\H x=some (.ins C dx [])/\¬Z x/\(∀a,Z a->H a≠none)/\Reps K cn H Z ts us []/\
 match G ts with
 |.ok t=>∀H' Z' B,Ev [[x]] H Z [B] H' Z'->Rep K cn H' Z' t (.ref x) B->B.Nodup->(∀b∈B,¬Z' b)->(∀a,Z' a->H' a≠none)->Q .non H'
 |.ex e=>WpX K cn E [[x]] H Z e
 |.no=>False
theorem cl8(hc:cn c=some C)(ha:uL Jn K cn E ta a):RE Jn K cn E [] (bf5 C (wK K cn c n G) [] E' ta) (bJ n G a):=λAs H Z ρ σ F Q w=>by
 unfold bJ at w
 refine ha As H Z ρ σ F _ ?_
 cases e:a ρ with
 |ok ts=>
  rw[e]at w
  intro vs H1 Z1 B m r1 x dx hx hdx hne
  simp only[Res.bind]at w
  split at w
  . next hn=>
    have hs:Same H1 (L2.upd (L2.upd H1 dx (.own x)) x (.ins C dx [])):=λb u q=>by
     rw[cH (gK q hx),cH (gK q hdx)];exact q
    refine⟨by simp[Reps.length ts r1,hn],x,C,dx,vs,frzs ts,(λa=>Z1 a\/a∈B),by simp,hc,by rw[eD],λh=>?_,λa h=>?_,(Reps.frz ts r1 (λa h=>.inl h) (λa h=>.inr h)).same hs (λ_ h=>h),?_⟩
    . rcases h with h|h
      . exact m.zi x h hx
      . obtain⟨o,q,_⟩:=Reps.dom ts r1 x h
        rw[hx]at q
        cases q
    . intro q
      have q':=hs.free q
      rcases h with h|h
      . exact m.zi a h q'
      . obtain⟨o,q2,_⟩:=Reps.dom ts r1 a h
        rw[q2]at q'
        cases q'
    cases e2:G (frzs ts)with
    |ok t=>
     rw[e2]at w
     intro H2 Z2 C2 ev r2 nd bz zi2
     refine⟨rfl,?_⟩
     simp only at w
     have sm:Same H1 H2:=λb u q=>ev.keep b u (hs b u q) (by simpa using gK q hx)
     have bn:∀b∈C2,H1 b=none:=λb hb=>by
      rcases ev.own b (by simpa using hb)with q|q
      . have:b=x:=by simpa using q
        rw[this];exact hx
      . exact hs.free q
     split at w
     . next hcl=>
       rw[Bool.or_eq_true]at hcl
       by_cases hcl':dX t=true
       . refine w _ H2 Z1 C2 ⟨m.same.trans sm,m.zz,λa h=>m.zn a h,λa h q=>m.zi a h (sm.free q),Rep.any t hcl' r2,nd,λb hb z=>m.zi b z (bn b hb),λb hb=>.inl (m.same.free (bn b hb))⟩
       . have hno:=hcl.resolve_left hcl'
         have hB:=Reps.bare ts hno r1
         subst hB
         refine w _ H2 Z2 C2 ⟨m.same.trans sm,λa h=>ev.zz a (.inl (m.zz a h)),λa h=>?_,zi2,r2,nd,bz,λb hb=>.inl (m.same.free (bn b hb))⟩
         rcases ev.zn a h with(h|h)|h|h
         . exact m.zn a h
         . cases h
         . have:a=x:=by simpa using h
           rw[this];exact .inr (m.same.free hx)
         . exact .inr (m.same.free (hs.free h))
     . exact w.elim
    |ex x=>rw[e2]at w;exact w.elim
    |no=>rw[e2]at w;exact w.elim
  . exact w.elim
 |ex x=>rw[e]at w;exact w
 |no=>rw[e]at w;exact w
def iK:bU->Res T
 |.nx ρ=>match ρ[0]? with
  |some (some t)=>.ok t
  |_=>.no
 |.ex x=>.ex x
 |_=>.no
theorem cm9 {c : Str} {P : Program} {w : World} {mg : Str → Option Value} {base : Heap} {x qual : Str} {st : Stmt} {f : Addr} {fd : FuncData} {N ps : List Str} {k : Nat} {d : Fr → bU} (F : Fun K x qual st f fd) (S : bB N ps (aM st))
    (hbody : ∀ (y : Addr) (cdv : Value) (A : Around) (outer : List Env) (s : Shared) (H : Hp) (E : XK), Room k (A.deeper (envOfC qual (aM st) s.heap.objs.size f cdv)) →
      ∃ t, PSs (kY jM P w K mg base N qual (aM st) f cdv A outer s H E).nox (dH st) t ∧ RS [(0, .ref y)] K cn E t d) {n : Nat} {G : List T → Res T} (hn : ps.length = n + 1) (hG : ∀ ts, G ts = iK (d (cG N.length (.ins true c [] [] :: ts)))) : FnOk P w K mg base jM (k + 1) f fd ps (wK K cn c n G) := by
  have eG : G = fun ts => iK (d (cG N.length (.ins true c [] [] :: ts))) := funext hG
  subst eG
  refine F.ok S (fun vs H Q E h => by rw [hn]; exact h.1) fun cdv A outer s H vs Q E hr h => ?_
  obtain ⟨hl, y, C, dx, us, ts, Z, rfl, hC, hy, hZ, zi, r, w⟩ := h
  obtain ⟨t, hp, ht⟩ := hbody y cdv A outer s H E hr
  refine ⟨t, hp, ?_⟩
  have lt := Reps.length ts r
  have ry : Rep K cn H Z (.ins true c [] []) (.ref y) [y] := by
    simp only [Rep, Reps]
    exact ⟨y, C, dx, [], [], rfl, rfl, hC, hy, rfl, rfl, rfl⟩
  let m := N.length - (ts.length + 1)
  have sl : Slots K cn H Z (cG N.length (.ins true c [] [] :: ts)) (L2.iY N (.ref y :: us)) ([y] :: List.replicate (ts.length + m) []) := by
    unfold cG L2.iY
    refine ⟨some (.ref y), us.map some ++ List.replicate m none, [y], _, ?_, rfl, ⟨_, rfl, ry⟩, ?_⟩
    · simp only [List.map_cons, List.length_cons, lt, List.cons_append]; rfl
    · exact xL ts r
  have fl : ([y] :: List.replicate (ts.length + m) []).flatten = [y] := by rw [List.flatten_cons, lH]; rfl
  have F0 : Frm [(0, .ref y)] K cn H Z (cG N.length (.ins true c [] [] :: ts)) (L2.iY N (.ref y :: us)) ([y] :: List.replicate (ts.length + m) []) :=
    ⟨sl, by rw [fl]; simp, by rw [fl]; intro a ha; have : a = y := by simpa using ha
                              rw [this]; exact hZ, zi, fun p hp => by
      rw [List.mem_singleton] at hp
      subst hp
      rfl⟩
  refine ht _ H Z _ _ F0 _ ?_
  cases ed : d (cG N.length (.ins true c [] [] :: ts)) with
  | nx ρ =>
    simp only [ed, iK] at w
    intro σ' As' H' Z' F' ev
    cases e0 : ρ[0]? with
    | none => rw [e0] at w; exact w.elim
    | some o =>
      rw [e0] at w
      cases o with
      | none => exact w.elim
      | some t0 =>
        simp only at w
        obtain ⟨v, e1, r1⟩ := F'.sl.get e0
        have e2 := F'.pn (0, .ref y) (List.mem_singleton.mpr rfl)
        simp only at e2
        rw [e1] at e2
        cases e2
        refine w H' Z' (As'.getD 0 []) ⟨fun a o h q => ev.keep a o h (by rw [fl]; simpa using q), fun a ha => ?_, ev.zz, fun a h => ?_, ev.dom⟩ r1 (rV F'.nd 0) (fun b hb => F'.nz b (aV hb)) F'.zi
        · have q := ev.own a (aV (i := 0) (by simpa using ha))
          rw [fl] at q
          simpa using q
        · have q := ev.zn a h
          rw [fl] at q
          simpa using q
  | ex e =>
    simp only [ed, iK] at w
    exact WpX.ev w ⟨fun _ _ q _ => q, fun a ha => (by rw [fl] at ha; exact .inl (by simpa using ha)), fun _ h => h, fun _ h => .inl h, fun _ h => h⟩
  | rt t => simp only [ed, iK] at w
  | bk ρ => simp only [ed, iK] at w
  | rm ρ t => simp only [ed, iK] at w
  | ct ρ => simp only [ed, iK] at w
  | no => simp only [ed, iK] at w
end
end TL
namespace L2
open PySem PySem.Spec PyProof.Rows
structure gI (P:Program) (w:World) (K:PySem.W.Frag) (mg:Str->Option Value) (base:Heap) (k:Nat) (C:Addr) (m:Str) (sp:Sp):Prop where
 ex:∃f fd ps,Cls K C/\cu1 K C m f/\FnOk P w K mg base jM k f fd ps sp/\Binds K fd ps []
structure xN (P:Program) (w:World) (K:PySem.W.Frag) (mg:Str->Option Value) (base:Heap) (k:Nat) (x:Str) (C:Addr) (sp:Sp):Prop where
 ex:∃f fd ps,Mk K C f/\FnOk P w K mg base jM k f fd ps sp/\mg x=some (.ref C)/\Binds K fd ps []
def ak9(tab:List (Addr×Sp))(m:Str)(ta:TE)(t:TA):TE:=λσ H Q=>ta σ H λx H1=>∃a C dx fs sp,x=.ref a/\H1 a=some (.ins C dx fs)/\(C,sp)∈tab/\fs.lookup m=none/\t σ H1 λvs H2=>sp (x::vs) H2 Q E0
section
variable {X : Cx}
theorem ct2(he:PE X o ta)(hT:∀q∈tab,gI X.prog X.w X.K X.mg X.base k q.1 m q.2)(hr:Room k X.A)(ha:PA X (e::es) t)
 (hst:starEach (e::es) X.env=(false,eval e X.env)::starEach es X.env:=by rfl)(hpl:(backTo pos (starEach es X.env)).any (·.1)=false:=by rfl)
 (ht:eval (.Call (.Attribute o m apos) (e::es) [] pos) X.env=(do
  let ov<-eval o X.env
  standAt apos.atName
  let(f,first)<-holding [ov] (getMethod ov m pl)
  callWith pos f first (backTo pos (starEach (e::es) X.env)) (backToKw pos (keywordEach [] X.env))):=by rfl):
 PE X (.Call (.Attribute o m apos) (e::es) [] pos) (ak9 tab m ta t):=by
 intro pins s σ H Q I h
 refine PySem.W.methodCall_KW (pl:=pl) (bY (he s σ H _ I h) λu s1 ⟨x,H1,I1,rx,a,C,dx,fs,sp,ex,ea,hq,l,q⟩=>?_) ht
 subst ex
 obtain rfl:u=Value.ref a:=rx
 obtain⟨f,fd,ps,c,hm,F,hb⟩:=(hT _ hq).ex
 refine av1 I1 ea c hm l ?_
 refine PySem.W.callWith_K (first:=[.ref a]) (h₀:=X.base) I.ok.mod.kin hm.kp (bY (ha pins s1 σ H1 _ I1 q) λus s2 ⟨vs,H2,I2,r,q2⟩=>⟨I2.kIn,?_⟩) hst hpl
 exact ay2 (us:=.ref a::us) (vs:=.ref a::vs) F hr hb .nil ab2 I2 (.cons rfl r) (by rw[List.append_nil];exact q2)
theorem tN(he:PE X o ta)(hT:∀q∈tab,gI X.prog X.w X.K X.mg X.base k q.1 m q.2)(hr:Room k X.A)
 (ht:eval (.Call (.Attribute o m apos) [] [] pos) X.env=(do
  let ov<-eval o X.env
  standAt apos.atName
  let(f,first)<-holding [ov] (getMethod ov m pl)
  callWith pos f first (backTo pos (starEach [] X.env)) (backToKw pos (keywordEach [] X.env))):=by rfl):
 PE X (.Call (.Attribute o m apos) [] [] pos) (ak9 tab m ta ai5):=by
 intro pins s σ H Q I h
 refine PySem.W.methodCall_KW (pl:=pl) (bY (he s σ H _ I h) λu s1 ⟨x,H1,I1,rx,a,C,dx,fs,sp,ex,ea,hq,l,q⟩=>?_) ht
 subst ex
 obtain rfl:u=Value.ref a:=rx
 obtain⟨f,fd,ps,c,hm,F,hb⟩:=(hT _ hq).ex
 refine av1 I1 ea c hm l ?_
 exact PySem.W.callWith_K0 (first:=[.ref a]) I1.kIn hm.kp (ay2 (us:=[.ref a]) (vs:=[.ref a]) F hr hb .nil ab2 I1 (.cons rfl .nil) q)
theorem oN(d:xN X.prog X.w X.K X.mg X.base k x C sp)(hr:Room (k+1) X.A)(ha:PA X (e::es) t)(hg:Gl X x:=by rfl)
 (hdb:(x==("__debug__":Str))=false:=by decide)(he:starEach (e::es) X.env=(false,eval e X.env)::starEach es X.env:=by rfl)(hpl:(backTo pos (starEach es X.env)).any (·.1)=false:=by rfl):
 PE X (.Call (.Name x p) (e::es) [] pos) (bf5 C sp [] E0 t):=by
 obtain⟨f,fd,ps,M,F,hm,hb⟩:=d.ex
 exact cn9 M F hr hg hm hb .nil ab2 ha hdb he hpl
end
end L2
namespace TL
open PySem PySem.Spec PyProof.Rows L2
section
variable {Jn : gN} {K : PySem.W.Frag} {cn : Str → Option Addr} {E : XK}
def rE(n:Nat)(G:List T->Res T)(ts:List T):Res T:=if ts.length=n then match G (frzs ts)with
 |.ok t=>if(dX t||bA ts)=true then .ok t else .no
 |_=>.no else .no
theorem aw9(m:Mo H Z H1 Z1)(r1:Reps K cn H1 Z1 ts vs B)(w:WpE K cn E As H Z [] Q (rE n G ts)):bG K cn n G vs H1 Q E':=by
 unfold rE at w
 split at w
 . next hn=>
   refine⟨by rw[Reps.length ts r1,hn],frzs ts,(λa=>Z1 a\/a∈B),λa h=>?_,Reps.frz ts r1 (λa h=>.inl h) (λa h=>.inr h),?_⟩
   . rcases h with h|h
     . exact m.zi a h
     . obtain⟨o,q,_⟩:=Reps.dom ts r1 a h
       rw[q]
       exact(λz=>nomatch z)
   cases e2:G (frzs ts)with
   |ok t=>
    rw[e2]at w
    intro v H2 Z2 C p
    simp only at w
    split at w
    . next hc=>
      rw[Bool.or_eq_true]at hc
      have bn:∀b∈C,H1 b=none:=λb hb=>(p.bn b hb).resolve_right (λ⟨i,hi,_⟩=>by cases hi)
      by_cases hcl:dX t=true
      . refine w v H2 Z1 C ⟨m.same.trans p.same,m.zz,λa h=>m.zn a h,λa h=>?_,Rep.any t hcl p.rep,p.nd,λb hb z=>?_,λb hb=>.inl (m.same.free (bn b hb))⟩
        . intro q
          exact m.zi a h (p.same.free q)
        . exact m.zi b z (bn b hb)
      . have hno:=hc.resolve_left hcl
        have hB:=Reps.bare ts hno r1
        subst hB
        refine w v H2 Z2 C ⟨m.same.trans p.same,λa h=>p.zz a (.inl (m.zz a h)),λa h=>?_,p.zi,p.rep,p.nd,p.bz,λb hb=>.inl (m.same.free (bn b hb))⟩
        rcases p.zn a h with(h|h)|h
        . exact m.zn a h
        . cases h
        . exact .inr (m.same.free h)
    . exact w.elim
   |ex x=>rw[e2]at w;exact w.elim
   |no=>rw[e2]at w;exact w.elim
 . exact w.elim
theorem aa0:∀(ns:List Str)(vs:List V),fK f ns=none->(ns.zip vs).lookup f=none
 |[],_,_=>by simp
 |n::ns,[],_=>by simp
 |n::ns,w::vs,h=>by
  unfold fK at h
  rw[List.zip_cons_cons,List.lookup_cons]
  by_cases q:n=f
  . rw[if_pos q]at h;cases h
  . rw[if_neg q,Option.map_eq_none_iff]at h
    rw[show(f==n)=false from by rw[beq_eq_false_iff_ne];exact λz=>q z.symm]
    exact aa0 ns vs h
def gU(n:Nat)(m:Str)(tabs:List (Str×(List T->Res T)))(o:Fr->Res T)(r:Fr->Res (List T)):Fr->Res T:=λρ=>(o ρ).bind λt=>match t with
 |.ins _ c ns _=>match fK m ns with
  |none=>match tabs.lookup c with
   |some G=>(r ρ).bind λts=>rE n G (t::ts)
   |none=>.no
  |some _=>.no
 |_=>.no
def yH(K:PySem.W.Frag)(cn:Str->Option Addr)(n:Nat)(tabs:List (Str×(List T->Res T)))(tab:List (Addr×Sp)):Prop:=∀c G C,tabs.lookup c=some G->cn c=some C->(C,bG K cn n G)∈tab
theorem cd4(hT:yH K cn n tabs tab)(ho:RB Jn K cn E to o)(ha:uL Jn K cn E ta a):RE Jn K cn E [] (ak9 tab m to ta) (gU n m tabs o a):=λAs H Z ρ σ F Q w=>by
 unfold gU at w
 refine ho As H Z ρ σ F _ ?_
 cases e:o ρ with
 |ok t=>
  rw[e]at w
  intro v H1 Z1 B p
  simp only[Res.bind]at w
  split at w
  . next ow c ns us=>
    split at w
    . next hm=>
      split at w
      . next G hG=>
        obtain⟨q,C,dx,vs,D,rfl,hC,eq,_,r⟩:=p.rep.insS
        refine⟨q,C,dx,_,bG K cn n G,rfl,eq,hT c G C hG hC,aa0 ns vs hm,ha As H1 Z1 ρ σ (F.mo p.mo) _ ?_⟩
        cases e2:a ρ with
        |ok ts=>
         rw[e2]at w
         intro ws H2 Z2 D2 m2 r2
         refine aw9 (As:=As) (E:=E) (p.mo.trans m2) (ts:=.ins ow c ns us::ts) (B:=B++D2) ?_ w
         simp only[Reps]
         exact⟨_,ws,B,D2,rfl,rfl,p.rep.same m2.same m2.zz,r2⟩
        |ex x=>rw[e2]at w;exact WpX.ev w p.mo.ev
        |no=>rw[e2]at w;exact w
      . exact w.elim
    . exact w.elim
  . exact w.elim
 |ex x=>rw[e]at w;exact w
 |no=>rw[e]at w;exact w
end
end TL
namespace L2
open PySem PySem.Spec PyProof.Rows
section
variable {X : Cx} (K : PySem.W.Frag)
end
end L2
namespace TL
open PySem PySem.Spec PyProof.Rows L2
section
variable {Jn : gN} {K : PySem.W.Frag} {cn : Str → Option Addr} {E : XK} {As : List (List Addr)} {H : Hp} {Z : Addr → Prop} {Q : VK}
def dw3:List T->Res T
 |[.lst _ ts]=>if bA ts=true then .ok (.tup ts)else .no
 |[.tup ts]=>if bA ts=true then .ok (.tup ts)else .no
 |_=>.no
end
end TL
namespace L2
open PySem PySem.Spec PyProof.Rows
section
variable {X : Cx}
def cu5:TS:=λ_ _ _=>False
theorem kI{st:Stmt}:PS X st cu5:=λ_ _ _ _ _ _ h=>h.elim
def bo3:V->List V->Hp->VK->Prop:=λx vs H Q=>∃l xs i y,x=.ref l/\vs=[.int i,y]/\H l=some (.lst xs)/\0<=i/\i.toNat<=xs.length/\xs.length<sizeLine/\Q .non (upd H l (.lst (xs.take i.toNat++y::xs.drop i.toNat)))
def bq1(K:PySem.W.Frag)(n:Nat):V->List V->Hp->VK->Prop:=λx vs H Q=>∃p ys y,x=.ref p/\vs=[y]/\SqL K H p ys/\∃(es:List Bool)(j:Nat),es.length=ys.length/\(∀(j:Nat) z e,ys[j]?=some z->es[j]?=some e->EqD K H n z y e)/\es[j]?=some true/\(∀m,m<j->es[m]?=some false)/\Q (.int j) H
def ch4(K:PySem.W.Frag)(n:Nat):R2:=λx y H Q=>rNe x y H Q\/(∃p q b,x=.ref p/\y=.ref q/\EqD K H n x y b/\Q (.bl (!b)) H)
theorem ds3(hu:X.A.units+n<cLine):OpR X (compareOp .NotEq) (ch4 X.K n):=by
 intro pins s σ H x y v u Q I rx ry h
 rcases h with h|⟨p,q,b,rfl,rfl,h,hq⟩
 . exact dj8 s σ H x y v u Q I rx ry h
 . cases rx
   cases ry
   have bP:EP X pins σ Q (.bool (!b)) s:=⟨.bl (!b),H,I,rfl,hq⟩
   cases n with
   |zero=>exact absurd h.1 (λz=>by cases z)
   |succ n=>
    rcases h with⟨h1,_,_⟩|⟨p,q,xs,ys,e1,e2,s1,s2,h⟩|⟨p,q,xs,ys,e1,e2,s1,s2,es,hl,he,rfl⟩
    . exact absurd h1 (λz=>by cases z)
    . cases e1
      cases e2
      obtain⟨its,r1,p1,_⟩:=I.list s1
      obtain⟨jts,r2,p2,_⟩:=I.list s2
      have l1:=r1.length
      have l2:=r2.length
      rcases h with⟨hne,rfl⟩|⟨heq,es,hl,he,rfl⟩
      . exact SeqAt.RcNeAt.lists_lengths p1.isList p2.isList (by simp only[List.size_toArray,bne_iff_ne,ne_eq];omega) (by omega) _ _ _ _ bP
      . refine SeqAt.RcNeAt.lists (e:=λj=>es.getD j true) p1.isList p2.isList (by simp only[List.size_toArray];omega) (by omega) (λj h1 h2=>?_) _ _ _ _ ?_
        . simp only[List.size_toArray]at h1 h2
          simp only[List.getElem_toArray]
          obtain⟨x,ex,rx⟩:=fQ r1 h1
          obtain⟨y,ey,ry⟩:=fQ r2 h2
          have hj:j<es.length:=by omega
          have eg:es.getD j true=es[j]:=by rw[List.getD_eq_getElem?_getD,List.getElem?_eq_getElem hj];rfl
          rw[eg]
          exact nW I n (by show X.A.units+1+n<cLine;omega) rx ry (he j x y es[j] ex ey (List.getElem?_eq_getElem hj))
        . rw[List.size_toArray,show its.length=es.length by omega,pI]
          exact bP
    . cases e1
      cases e2
      obtain⟨its,r1,p1,_⟩:=I.tuple s1
      obtain⟨jts,r2,p2,_⟩:=I.tuple s2
      have l1:=r1.length
      have l2:=r2.length
      refine SeqAt.RcNeAt.tuples (e:=λj=>es.getD j true) (show s.heap.IsTuple _ its.toArray from p1) (show s.heap.IsTuple _ jts.toArray from p2) (by omega) (λj h1 h2=>?_) _ _ _ _ ?_
      . simp only[List.size_toArray]at h1 h2
        simp only[List.getElem_toArray]
        obtain⟨x,ex,rx⟩:=fQ r1 h1
        obtain⟨y,ey,ry⟩:=fQ r2 h2
        have hj:j<es.length:=by omega
        have eg:es.getD j true=es[j]:=by rw[List.getD_eq_getElem?_getD,List.getElem?_eq_getElem hj];rfl
        rw[eg]
        exact nW I n (by show X.A.units+1+n<cLine;omega) rx ry (he j x y es[j] ex ey (List.getElem?_eq_getElem hj))
      . simp only[List.size_toArray]
        rw[show min its.length jts.length=es.length by omega,pI,<-l1,<-l2]
        exact bP
theorem xQ(K:PySem.W.Frag)(hr:Room k X.A)(hn:n<=60:=by decide)(hK:X.K=K:=by rfl):OpR X (compareOp .NotEq) (ch4 K n):=by
 subst hK
 exact ds3 (Nat.lt_of_le_of_lt (Nat.add_le_add_left (Nat.le_trans hn (by decide)) _) hr.units)
theorem bb8:MtM X "list.insert" bo3:=by
 intro pins s σ H x vs v us Q I rx rv h
 obtain⟨l,xs,i,y,rfl,rfl,hH,h0,h1,hz,q⟩:=h
 cases rx
 obtain⟨u,u',rfl,ru,ru'⟩:=rv.two
 obtain⟨t,rfl⟩:=ru
 obtain⟨z,its,n,r,hl,e⟩:=I.lstM hH
 have hfit:¬(!Builtin.List.listFitsIndex i)=true:=by
  rw[fitsIndex_both (by omega) (by have:xs.length<2^62:=Nat.lt_trans hz (by decide);omega)]
  decide
 refine call_meets F.slot_list_insert ⟨_,e,rfl⟩ F.entry_list_insert (F.args_list_insert_3 _ _ _) (AutoSeq1.list_insert_list_int_val_1 l its.toArray n i t u' hfit (by rw[List.size_toArray];omega)) ⟨e,?_⟩
 refine⟨.non,_,I.lset (its':=its.take i.toNat++u'::its.drop i.toNat) hH e ?_ ((r.take i.toNat).append (.cons ru' (r.drop i.toNat))) ?_,rfl,q⟩
 . have hn:¬i<0:=by omega
   simp only[hn,if_false,List.size_toArray,Nat.min_eq_left (show i.toNat<=its.length by omega)]
   apply Array.toList_inj.mp
   simp[List.take_append,List.drop_eq_nil_of_le]
   exact List.take_of_length_le (by simp)
 . simp
   omega
theorem cy0(hu:X.A.units+n+1<cLine):MtR X "list.index" (bq1 X.K n):=by
 intro pins s σ H x vs v us Q I rx rv h
 obtain⟨p,ys,y,rfl,rfl,hq,es,j,hl,he,hj,hno,q⟩:=h
 cases rx
 obtain⟨u,rfl,ru⟩:=rv.one
 obtain⟨its,r,pl,hz⟩:=I.list hq
 have l1:=r.length
 obtain⟨f,hf,_⟩:=bx5 I r hl he
 have at_:∀(m:Nat)(hm:m<its.length) b,es[m]?=some b->f its[m]=b:=λm hm b eb=>by
  obtain⟨z,ez,rz⟩:=fQ r hm
  obtain⟨z',rz',d⟩:=hf its[m] (List.getElem_mem hm)
  cases rz.inj rz'
  exact EqD.det I n _ _ _ _ d (he m z b ez eb)
 have hjl:j<its.length:=by
  have:=(List.getElem?_eq_some_iff.mp hj).1
  omega
 obtain⟨⟨oc,od,odt,osl⟩,n0,ho,hc,hd,hdt⟩:=pl
 simp only at hc hd hdt
 subst hc hd hdt
 refine call_meets F.slot_list_index ⟨_,ho,rfl⟩ F.entry_list_index (F.args_list_index_2 _ _) (SeqAt.list_indexAt p its.toArray n0 none osl u f j (by simpa using hjl) ?_ ?_ ?_) ⟨ho,λy hy=>?_,?_⟩
 . have:j<2^62:=Nat.lt_of_lt_of_le hjl (by rw[<-l1];exact Nat.le_trans hz (by decide))
   omega
 . simpa using at_ j hjl true hj
 . intro m hm hmj
   simpa using at_ m (by simpa using hm) false (hno m hmj)
 . obtain⟨z,rz,d⟩:=hf y (by simpa using hy)
   exact nW I n (by show X.A.units+1+n<cLine;omega) rz ru d
 . exact⟨.int j,H,I.tok _,⟨_,rfl⟩,q⟩
end
end L2
namespace TL
open PySem PySem.Spec PyProof.Rows L2
section
variable {Jn : gN} {K : PySem.W.Frag} {cn : Str → Option Addr} {E : XK}
def mT:Fr->bU:=λ_=>.no
theorem cf7:RS Jn K cn E cu5 mT:=λ_ _ _ _ _ _ _ w=>w.elim
def bm6(K:PySem.W.Frag)(cn:Str->Option Addr)(r:V->List V->Hp->VK->Prop)(f:List T->List T->Option (List T)):Prop:=
 ∀(H:Hp)(Z:Addr->Prop)(a:Addr)(us ts us':List T)(ws vs:List V)(C0 C:List Addr),H a=some (.lst ws)->Reps K cn H Z us ws C0->Reps K cn H Z ts vs C->(C0++C).Nodup->f us ts=some us'->
  ∃ws' D,Reps K cn H Z us' ws' D/\D.Nodup/\(∀x∈D,x∈C0\/x∈C)/\∀Q:VK,(∀y,Q y (L2.upd H a (.lst ws')))->r (.ref a) vs H Q
def ai0(j:Nat)(mv:List Nat)(f:List T->List T->Option (List T))(d:Fr->Res (List Nat))(e:Fr->Res (List T)):Fr->bU:=λρ=>match ρ[j]? with
 |some (some t0)=>match d ρ with
  |.ok p=>match lD p t0 with
   |some (.lst true us)=>match e ρ with
    |.ok ts=>match f us ts with
     |some us'=>az2 j p us' (kills mv ρ)
     |none=>.no
    |.ex x=>.ex x
    |.no=>.no
   |_=>.no
  |.ex x=>.ex x
  |.no=>.no
 |_=>.no
theorem dk4(hr:bm6 K cn r f)(hd:RP Jn K cn E j to d)(he:RA Jn K cn E mv ta e)(hj:mv.contains j=false:=by rfl):RS Jn K cn E (bz5 (tBM K "list" r to ta)) (ai0 j mv f d e):=λAs H Z ρ σ F D w=>by
 unfold ai0 at w
 cases e1:ρ[j]? with
 |none=>rw[e1]at w;exact w.elim
 |some o=>
  rw[e1]at w
  cases o with
  |none=>exact w.elim
  |some t0=>
   obtain⟨v0,e2,r0⟩:=F.sl.get e1
   refine hd As H Z ρ σ F t0 v0 e1 e2 r0 _ ?_
   simp only at w
   cases ed:d ρ with
   |ok p=>
    rw[ed]at w
    intro u v B H1 Z1 m1 hn pl
    simp only[hn]at w
    split at w
    . next us hq=>
      cases hq
      have q:=pl.rep
      simp only[Rep]at q
      obtain⟨a,ws,C0,rfl,rfl,ea,rs⟩:=q
      refine⟨.inl ⟨rfl,ws,SqL.of ea⟩,he As H1 Z1 ρ σ (F.mo m1) _ ?_⟩
      cases ee:e ρ with
      |ok ts=>
       rw[ee]at w
       intro vs H2 Z2 C p2
       simp only at w
       cases ef:f us ts with
       |none=>rw[ef]at w;exact w.elim
       |some us'=>
        rw[ef]at w
        simp only at w
        have pl2:=pl.mo p2.mo.same p2.mo.zz
        have ea2:=p2.mo.same _ _ ea
        have rs2:=rs.same p2.mo.same p2.mo.zz
        have m2:=m1.trans p2.mo
        have F2:=(F.mo m2).kills mv
        have gD:(eW mv As).getD j []=As.getD j []:=vU mv hj As
        have pl3:Plug K cn H2 Z2 t0 v0 ((eW mv As).getD j []) p (.lst true us) (.ref a) (a::C0):=by rw[gD];exact pl2
        have ndB:(a::C0).Nodup:=(rV F.nd j).sublist pl.sub
        have c0A:∀x∈C0,x∈As.getD j []:=λx hx=>pl.sub.mem (List.mem_cons_of_mem _ hx)
        have cOut:∀x∈C,x∉(eW mv As).flatten:=λx hx hA=>by
         rcases p2.bn x hx with z|⟨i,hi,z⟩
         . obtain⟨o,ho,_⟩:=(F.mo m1).sl.dom x (eM hA)
           rw[ho]at z;cases z
         . exact xK F.nd hi z hA
        have c0In:∀x∈C0,x∈(eW mv As).flatten:=λx hx=>aV (i:=j) (by rw[gD];exact c0A x hx)
        have ndC:(C0++C).Nodup:=by
         rw[List.nodup_append]
         exact⟨(List.nodup_cons.mp ndB).2,p2.nd,λx hx y hy e=>by subst e;exact cOut x hy (c0In x hx)⟩
        obtain⟨ws',D',r',nd',in',hQ⟩:=hr H2 Z2 a us ts us' ws vs C0 C ea2 rs2 p2.rep ndC ef
        refine hQ _ λ_=>?_
        refine av9 (As:=As) (H:=H) (Z:=Z) (E:=E) F2 (by rw[wV mv hj];exact e1) e2 pl3 rfl rfl ea2 (us':=us') (ws':=ws') (C:=D') r' nd' ?_ ?_ ?_ ?_ w
        . intro x hx
          rcases in' x hx with hx|hx
          . exact F2.nz x (c0In x hx)
          . exact p2.bz x hx
        . intro x hx hA
          rcases in' x hx with hx|hx
          . exact hx
          . exact absurd hA (cOut x hx)
        . exact⟨λb o q _=>m2.same b o q,λb hb=>.inl (eM hb),m2.zz,λb h=>(m2.zn b h).imp_right .inr,λb h=>m2.same.free h⟩
        . intro x hx
          rcases in' x hx with hx|hx
          . exact .inl (aV (c0A x hx))
          . rcases p2.bn x hx with z|⟨i,hi,z⟩
            . exact .inr (m1.same.free z)
            . exact .inl (aV z)
      |ex x=>rw[ee]at w;exact WpX.ev w m1.ev
      |no=>rw[ee]at w;exact w.elim
    . exact w.elim
   |ex x=>rw[ed]at w;exact w
   |no=>rw[ed]at w;exact w
def bo0(us:List T):List T->Option (List T)
 |[.lst true zs]=>if us.length+zs.length<=sizeLine then some (us++zs)else none
 |_=>none
def bz4(us:List T):List T->Option (List T)
 |[.int i,t]=>if 0<=i/\i.toNat<=us.length/\us.length<sizeLine then some (us.take i.toNat++t::us.drop i.toNat)else none
 |_=>none
def dz9(_:List T):List T->Option (List T)
 |[]=>some []
 |_=>none
theorem ds8:bm6 K cn bq3 bo0:=λH Z a us ts us' ws vs C0 C ha r0 r1 nd h=>by
 unfold bo0 at h
 split at h
 . next zs=>
   split at h
   . next hl=>
     cases h
     simp only[Reps]at r1
     obtain⟨v,r',B1,C1,rfl,rfl,ra,rfl,rfl⟩:=r1
     simp only[Rep]at ra
     obtain⟨b,zs',B,rfl,rfl,eb,rz⟩:=ra
     simp only[List.append_nil]at nd⊢
     refine⟨ws++zs',C0++B,Reps.append us r0 rz,nd.sublist ((List.sublist_cons_self b B).append_left C0),λx hx=>(List.mem_append.mp hx).imp_right (List.mem_cons_of_mem _),λQ hQ=>⟨a,b,ws,zs',rfl,rfl,ha,eb,?_,hQ _⟩⟩
     rw[Reps.length us r0,Reps.length zs rz]
     exact hl
   . cases h
 . cases h
theorem Reps.split:∀(n:Nat)(us:List T){ws:List V}{C:List Addr},Reps K cn H Z us ws C->∃C1 C2,C=C1++C2/\Reps K cn H Z (us.take n) (ws.take n) C1/\Reps K cn H Z (us.drop n) (ws.drop n) C2
 |0,us,ws,C,r=>⟨[],C,rfl,by simp[Reps],by simpa using r⟩
 |n+1,[],ws,C,r=>by
  simp only[Reps]at r
  obtain⟨rfl,rfl⟩:=r
  exact⟨[],[],rfl,by simp[Reps],by simp[Reps]⟩
 |n+1,t::us,ws,C,r=>by
  simp only[Reps]at r
  obtain⟨v,r',B1,B2,rfl,rfl,h1,h2⟩:=r
  obtain⟨C1,C2,rfl,a1,a2⟩:=Reps.split n us h2
  refine⟨B1++C1,C2,by simp,?_,by simpa using a2⟩
  simp only[List.take_succ_cons,Reps]
  exact⟨v,r'.take n,B1,C1,rfl,rfl,h1,a1⟩
theorem dn5:bm6 K cn bo3 bz4:=λH Z a us ts us' ws vs C0 C ha r0 r1 nd h=>by
 unfold bz4 at h
 split at h
 . next i t=>
   split at h
   . next hl=>
     cases h
     obtain⟨h0,h1,h2⟩:=hl
     simp only[Reps]at r1
     obtain⟨v,r',B1,D1,rfl,rfl,ra,v2,r2,B2,D2,rfl,rfl,rb,rfl,rfl⟩:=r1
     simp only[Rep]at ra
     obtain⟨rfl,rfl⟩:=ra
     obtain⟨C1,C2,rfl,a1,a2⟩:=Reps.split i.toNat us r0
     simp only[List.append_nil,List.nil_append]at nd⊢
     have pm:(C1++(B2++C2)).Perm ((C1++C2)++B2):=by
      rw[List.append_assoc]
      exact List.Perm.append_left C1 List.perm_append_comm
     refine⟨ws.take i.toNat++v2::ws.drop i.toNat,C1++(B2++C2),Reps.append _ a1 ?_,pm.nodup_iff.mpr nd,λx hx=>List.mem_append.mp (pm.mem_iff.mp hx),λQ hQ=>⟨a,ws,i,v2,rfl,rfl,ha,h0,?_,?_,hQ _⟩⟩
     . simp only[Reps]
       exact⟨v2,ws.drop i.toNat,B2,C2,rfl,rfl,rb,a2⟩
     . rw[Reps.length us r0];exact h1
     . rw[Reps.length us r0];exact h2
   . cases h
 . cases h
def frz1:T->T
 |.lst o xs=>.lst o (frzs xs)
 |t=>t
def aa3(d:Fr->Res T):Fr->Res T:=λρ=>(d ρ).bind λt=>.ok (frz1 t)
theorem RE.frz1(h:RE Jn K cn E [] te d):RE Jn K cn E [] te (aa3 d):=λAs H Z ρ σ F Q w=>h As H Z ρ σ F Q (by
 unfold aa3 at w
 cases e:d ρ with
 |ok t=>
  rw[e]at w
  intro v H' Z' B p
  simp only[Res.bind]at w
  cases t with
  |lst o xs=>
   cases o with
   |true=>
    have q:=p.rep
    simp only[Rep]at q
    obtain⟨a,vs,C,rfl,rfl,ea,rs⟩:=q
    have hC:∀x∈C,H x=none:=λx hx=>(p.bn x (List.mem_cons_of_mem _ hx)).resolve_right (λ⟨i,hi,_⟩=>by cases hi)
    refine w (.ref a) H' (λx=>Z' x\/x∈C) [a] ⟨p.same,λx z=>.inl (p.zz x z),λx z=>?_,λx z=>?_,?_,by simp,λb hb=>?_,λb hb=>?_⟩
    . rcases z with z|z
      . exact p.zn x z
      . exact .inr (hC x z)
    . rcases z with z|z
      . exact p.zi x z
      . obtain⟨o,q,_⟩:=Reps.dom xs rs x z
        rw[q]
        exact(λz=>nomatch z)
    . simp only[TL.frz1,Rep]
      exact⟨a,vs,[],rfl,rfl,ea,Reps.frz xs rs (λ_ z=>.inl z) (λ_ z=>.inr z)⟩
    . have hb:b=a:=by simpa using hb
      subst hb
      rintro(z|z)
      . exact p.bz b List.mem_cons_self z
      . exact(List.nodup_cons.mp p.nd).1 z
    . have hb:b=a:=by simpa using hb
      subst hb
      exact p.bn b List.mem_cons_self
   |false=>
    have q:=p.rep
    simp only[Rep]at q
    obtain⟨a,vs,rfl,rfl,ea,rs⟩:=q
    refine w (.ref a) H' Z' [] ⟨p.same,p.zz,p.zn,p.zi,?_,List.nodup_nil,dR,dR⟩
    simp only[TL.frz1,Rep]
    exact⟨a,vs,rfl,trivial,ea,Reps.frz xs rs (λ_ z=>z) dR⟩
  |_=>exact w v H' Z' B p
 |ex x=>rw[e]at w;exact w
 |no=>rw[e]at w;exact w)
def wM(t u:T):Res T:=if rL t=true/\rL u=true then match pD dO t u with
 |some b=>.ok (.bl (!b))
 |none=>.no
 else neT t u
theorem dw5:mH K cn (ch4 K dO) wM:=λE As H Z t u x y A B Q zi rt ru w=>by
 unfold wM at w
 split at w
 . next hs=>
   obtain⟨a,rfl⟩:=rt.seqRef hs.1
   obtain⟨b,rfl⟩:=ru.seqRef hs.2
   cases e:pD dO t u with
   |none=>rw[e]at w;exact w.elim
   |some k=>
    rw[e]at w
    exact .inr ⟨a,b,k,rfl,rfl,ad9 dO t u rt ru e,WpE.bl w zi⟩
 . exact .inl (dz8 E As H Z t u x y A B Q zi rt ru w)
def vH:List Bool->Option Nat
 |[]=>none
 |true::_=>some 0
 |false::bs=>(vH bs).map (· +1)
theorem bw3:∀(bs:List Bool){j:Nat},vH bs=some j->bs[j]?=some true/\∀m,m<j->bs[m]?=some false
 |[],_,h=>by cases h
 |true::bs,j,h=>by cases h;exact⟨rfl,λm hm=>by omega⟩
 |false::bs,j,h=>by
  simp only[vH]at h
  cases e:vH bs with
  |none=>rw[e]at h;cases h
  |some k=>
   rw[e]at h
   cases h
   obtain⟨h1,h2⟩:=bw3 bs e
   refine⟨by simpa using h1,λm hm=>?_⟩
   cases m with
   |zero=>rfl
   |succ m=>
    have hm:m+1<k+1:=hm
    simpa using h2 m (by omega)
def uN:T->List T->Res T
 |.lst _ us,[t]=>match vB t us with
  |some es=>match vH es with
   |some j=>.ok (.int j)
   |none=>.no
  |none=>.no
 |_,_=>.no
theorem ca8:RMR K cn "list" (bq1 K dO) uN:=λE As H Z t ts x xs A B Q zi rt r w=>by
 unfold uN at w
 split at w
 . next o us t=>
   obtain⟨a,vs,C,rfl,s,rs,_⟩:=rt.lstSq
   simp only[Reps]at r
   obtain⟨v,r',B1,C1,rfl,rfl,ra,rfl,rfl⟩:=r
   cases e:vB t us with
   |none=>rw[e]at w;exact w.elim
   |some es=>
    rw[e]at w
    simp only at w
    cases e2:vH es with
    |none=>rw[e2]at w;exact w.elim
    |some j=>
     rw[e2]at w
     obtain⟨h1,h2⟩:=bw3 es e2
     obtain⟨g1,g2⟩:=yN ra us rs e
     exact⟨a,vs,v,rfl,rfl,s.sq,es,j,g1,g2,h1,h2,w.val zi (jJ _)⟩
 . exact w.elim
end
end TL
namespace L2
open PySem PySem.Spec PyProof.Rows
inductive DRows (w:World):List DictEntry->List (Str×Value)->Prop
 |nil:DRows w [] []
 |cons {x:Str} {t:Tok} {v:Value} {es:List DictEntry} {kvs:List (Str×Value)}:DRows w es kvs->DRows w (⟨hashStr w x,.str x t,v⟩::es) ((x,v)::kvs)
structure DicK (w:World) (K:PySem.W.Frag) (a:Addr) (kvs:List (Str×Value)):Prop where
 ex:∃o es ep,K.lookup a=some o/\o.ExactDict/\o.data=.dict es ep/\DRows w es.toList kvs
 nd:(kvs.map (·.1)).Nodup
 sm:(a==sysModules)=false
theorem DRows.keys:∀{es:List DictEntry}{kvs:List (Str×Value)},DRows w es kvs->(∀e∈es,∃k,(strKind P w).is k e.key=true/\e.hash=(strKind P w).hash k)/\Pairs (strKind P w) es kvs
 |_,_,.nil=>⟨λe h=>(nomatch h),.nil⟩
 |_,_,@DRows.cons _ x t v es kvs r=>by
  obtain⟨h1,h2⟩:=DRows.keys (P:=P) r
  refine⟨λe he=>?_,.cons (strKind_is P w x t) rfl h2⟩
  rcases List.mem_cons.mp he with rfl|he
  . exact⟨x,strKind_is P w x t,rfl⟩
  . exact h1 e he
theorem DicK.dictOf{P:Program}{w:World}{K:PySem.W.Frag}{a:Addr}{kvs:List (Str×Value)}{h:Heap}(D:DicK w K a kvs)(X:K.In h):h.DictOf (strKind P w) a kvs:=by
 obtain⟨o,es,ep,l,x,d,r⟩:=D.ex
 obtain⟨h1,h2⟩:=DRows.keys (P:=P) r
 exact⟨o,es,ep,X a o l,x,d,λe he=>h1 e (by simpa using he),h2,D.nd⟩
theorem tY : ∀ (kvs : List (Str × Value)), valueAt kvs x = kvs.lookup x
  | [] => rfl
  | (y, v) :: kvs => by
    unfold valueAt
    rw [List.find?_cons, List.lookup_cons]
    by_cases e : y = x
    · subst e; simp
    · have e1 : (x == y) = false := by simpa using Ne.symm e
      have e2 : decide ((y, v).1 = x) = false := decide_eq_false e
      rw [e1, e2]
      exact tY kvs
structure vA (w:World) (K:PySem.W.Frag) (mg:Str->Option Value) (d:Str) (kvs:List (Str×Value)):Prop where
 ex:∃a,mg d=some (.ref a)/\DicK w K a kvs
def cl5(kvs:List (Str×Value))(ty:TE):TE:=λσ H Q=>ty σ H λy H1=>∃x u v,y=.str x/\kvs.lookup x=some u/\RelV v u/\Q v H1
def di1(neg:Bool)(kvs:List (Str×Value))(ty:TE):TE:=λσ H Q=>ty σ H λy H1=>∃x,y=.str x/\Q (.bl (if neg=true then !(kvs.lookup x).isSome else(kvs.lookup x).isSome)) H1
theorem cz5(r:RelV (.str x) u):(strKind P w).is x u=true:=by
 obtain⟨t,rfl⟩:=r
 exact strKind_is P w x t
def bk6(i:Expr):Prop:=∀ov iv,subscripted i false ov iv=operate [ov,iv] (getItem ov iv)
theorem cu9{prog:Program}{w:World}{A:Around}{E:Value->Shared->Prop}{s:Shared}{env:Env}{value slice:Expr}{pos:Pos}{T id:String}{Q:Value->Shared->Prop}
 (hl:typeLookup (.type T) "__getitem__"=pure (some (.builtin id)))(hs:bk6 slice)
 (h:wpAny (model prog w) A (eval value env) (λo s₁=>wpAny (model prog w) A (eval slice env) (λi s₂=>s₂.TypeIs o T/\wpAny (model prog w) A (getItem o i) Q E s₂) E s₁) E s):
 wpAny (model prog w) A (eval (.Subscript value slice pos) env) Q E s:=by
 refine Subscript_ (wpAny_mono h (λo s₁ h₁=>wpAny_mono h₁ (λi s₂ h₂=>?_) λ_ _ x=>x) λ_ _ x=>x)
 obtain⟨hT,h₂⟩:=h₂
 unfold subscriptTail
 refine wpAny_bind ?_
 rw[getitemInPython_of_ne hT.not_modules]
 refine wpAny_bind (wpAny_specialOf hT hl ?_)
 have bP:wpAny (model prog w) A (subscripted slice false o i) (λr s₃=>wpAny (model prog w) A (letTemporaryGo value o r>>=λ_=>pure r) Q E s₃) E s₂:=by
  rw[hs o i]
  exact wpAny_operating (wpAny_mono h₂ (λr s₃ h₃=>wpAny_bind (wpAny_letTemporaryGo (wpAny_pure h₃))) λ_ _ x=>x)
 first
  |exact wpAny_pure (wpAny_bind bP)
  |exact wpAny_bind (wpAny_pure (wpAny_bind bP))
  |exact wpAny_bind bP
section
variable {X : Cx}
theorem bv3(hD:vA X.w X.K X.mg d kvs)(hi:PE X i ty)(hg:Gl X d)(hdb:(d==("__debug__":Str))=false)(hs:bk6 i)(I:Inv X pins σ H s)
 (h:ty σ H W)(hW:∀y H1,W y H1->∃x u,y=.str x/\kvs.lookup x=some u/\∀s1,Inv X pins σ H1 s1->R u s1):wpAny (model X.prog X.w) X.A (eval (.Subscript (.Name d p) i pos) X.env) R X.xe s:=by
 obtain⟨a,hm,D⟩:=hD.ex
 refine cu9 PySem.F.slot_dict_getitem.lookup hs (uP I hg hm ?_ hdb)
 refine bY (hi s σ H _ I h) λiv s2 ⟨y,H2,I2,ry,q⟩=>?_
 obtain⟨x,u,ey,el,q2⟩:=hW y H2 q
 subst ey
 have dd:=D.dictOf (P:=X.prog) I2.kIn
 exact⟨dd.typeIs,wpAny_getItem_of (cz5 ry) dd.mapOf (by rw[tY];exact el) (q2 _ (I2.tok _))⟩
theorem rW(hD:vA X.w X.K X.mg d kvs)(hi:PE X i ty)(hg:Gl X d:=by rfl)(hdb:(d==("__debug__":Str))=false:=by decide)(hs:bk6 i:=by intro _ _;rfl):PE X (.Subscript (.Name d p) i pos) (cl5 kvs ty):=by
 intro pins s σ H Q I h
 refine bv3 hD hi hg hdb hs I h λy H1 ⟨x,u,v,ey,el,rv,q⟩=>⟨x,u,ey,el,λs1 I1=>⟨v,H1,I1,rv,q⟩⟩
theorem bx9{d:Str}{kvs:List (Str×Value)}{i:Expr}{ty:TE}{p:Pos}(hD:vA X.w X.K X.mg d kvs)(hi:PE X i ty)(hg:Gl X d:=by rfl)(hdb:(d==("__debug__":Str))=false:=by decide):PC X .NotIn i (.Name d p) (di1 true kvs ty):=by
 intro pins s σ H Q I h
 obtain⟨a,hm,D⟩:=hD.ex
 refine bY (hi s σ H _ I h) λiv s2 ⟨y,H2,I2,ry,x,ey,q⟩=>uP I2 hg hm ?_ hdb
 subst ey
 have dd:=D.dictOf (P:=X.prog) I2.kIn
 exact wpAny_notIn_of (cz5 ry) D.sm dd.mapOf ⟨.bl (!(valueAt kvs x).isSome),H2,I2.tok _,rfl,by rw[tY];exact q⟩
def bs8(tab:List (Str×Sp))(ty:TE)(ta:TA):TE:=λσ H Q=>ty σ H λy H1=>∃z sp,y=.str z/\(z,sp)∈tab/\ta σ H1 λvs H2=>sp vs H2 Q E0
structure cw4 (P:Program) (w:World) (K:PySem.W.Frag) (mg:Str->Option Value) (base:Heap) (k:Nat) (d:Str) (tab:List (Str×Sp)):Prop where
 ex:∃kvs,vA w K mg d kvs/\∀q∈tab,∃f fd ps,kvs.lookup q.1=some (.ref f)/\FnOk P w K mg base jM k f fd ps q.2/\Binds K fd ps []/\PySem.W.keepIn K (.ref f)=true
theorem cm3(hD:cw4 X.prog X.w X.K X.mg X.base k d tab)(hr:Room k X.A)(hi:PE X i ty)(ha:PA X (e::es) t)(hg:Gl X d:=by rfl)(hdb:(d==("__debug__":Str))=false:=by decide)(hs:bk6 i:=by intro _ _;rfl)
 (hst:starEach (e::es) X.env=(false,eval e X.env)::starEach es X.env:=by rfl)(hpl:(backTo pos (starEach es X.env)).any (·.1)=false:=by rfl):PE X (.Call (.Subscript (.Name d p) i p2) (e::es) [] pos) (bs8 tab ty t):=by
 obtain⟨kvs,D,hT⟩:=hD.ex
 intro pins s σ H Q I h
 refine Call_ (bv3 D hi hg hdb hs I h λy H1 ⟨z,sp,ey,hq,q⟩=>?_)
 obtain⟨f,fd,ps,el,F,hb,hk⟩:=hT _ hq
 refine⟨z,.ref f,ey,el,λs1 I1=>?_⟩
 refine PySem.W.callWith_K (first:=[]) (h₀:=X.base) I.ok.mod.kin hk (bY (ha pins s1 σ H1 _ I1 q) λus s2 ⟨vs,H2,I2,r,q2⟩=>⟨I2.kIn,?_⟩) hst hpl
 exact ay2 (us:=us) (vs:=vs) F hr hb .nil ab2 I2 r (by rw[List.append_nil];exact q2)
def ci6:List V->Hp->VK->Prop:=λxs H Q=>(∃i,xs=[.int i]/\i.natAbs.log2<1920/\Q (.str (toString i)) H)\/∃x,xs=[.str x]/\Q (.str x) H
theorem bq8:CallR X (.type "str") ci6:=by
 intro pins s σ H xs us Q I r h
 rcases h with h|⟨x,rfl,q⟩
 . exact be0 s σ H xs us Q I r h
 . obtain⟨u,rfl,t,rfl⟩:=aw2 r
   exact PySem.P.str_of_str ⟨.str _,H,I,⟨_,rfl⟩,q⟩
def cq5(K:PySem.W.Frag):List V->Hp->VK->Prop:=λxs H Q=>(∃x T tx b,xs=[x,.ty T]/\TyN K H x tx/\fZ tx T b/\Q (.bl b) H)\/∃T,xs=[.non,.ty T]/\(T="int"\/T="bool"\/T="str"\/T="list"\/T="tuple")/\Q (.bl false) H
theorem xS(K:PySem.W.Frag)(hK:X.K=K:=by rfl):CallR X (.builtin "isinstance") (cq5 K):=by
 subst hK
 intro pins s σ H xs us Q I r h
 rcases h with h|⟨T,rfl,hT,q⟩
 . exact cr3 s σ H xs us Q I r h
 . obtain⟨u,v,rfl,rx,rT⟩:=r.two
   obtain rfl:v=Value.type T:=rT
   obtain rfl:u=Value.none:=rx
   have fin2:EP X pins σ Q (.bool false) {s with toks:=s.toks+1}:=⟨.bl false,H,I.tok _,rfl,q⟩
   rcases hT with rfl|rfl|rfl|rfl|rfl
   . exact IsiPair.NoneType_int fin2
   . exact IsiPair.NoneType_bool fin2
   . exact IsiPair.NoneType_str fin2
   . exact IsiPair.NoneType_list fin2
   . exact IsiPair.NoneType_tuple fin2
theorem fF(K:PySem.W.Frag)(he:PE X e ta)(hb:attributeBase e f X.env (eval e X.env)=eval e X.env:=by rfl)(hK:X.K=K:=by rfl):PE X (.Attribute e f pos) (cp2 K ta f):=by
 subst hK
 exact dc1 he hb
theorem lQ(K:PySem.W.Frag)(ha:PE X o ta)(hv:PE X value tv)(hs:swapsWith value (some (.Attribute o f pos')) pos.line X.env=pure false:=by rfl)(hK:X.K=K:=by rfl):PS X (.Assign [.Attribute o f pos'] value pos) (cx1 K ta tv f):=by
 subst hK
 exact dl3 ha hv hs
theorem bm3(K:PySem.W.Frag)(hm:X.mg "zip"=none)(ha:PA X [a,b] ta)(hg:Gl X "zip":=by rfl)(hs:starEach [a,b] X.env=[(false,eval a X.env),(false,eval b X.env)]:=by rfl)(hs2:starEach [b] X.env=[(false,eval b X.env)]:=by rfl)(hK:X.K=K:=by rfl):
 PI X (.Tuple es n tpos) (.Call (.Name "zip" p) [a,b] [] pos) (cz1 K ta):=by
 subst hK
 exact dg4 hg hm ha hs hs2
theorem cw0(K:PySem.W.Frag)(hm:X.mg "enumerate"=none)(ha:PA X [a] ta)(hg:Gl X "enumerate":=by rfl)(hs:starEach [a] X.env=[(false,eval a X.env)]:=by rfl)(hK:X.K=K:=by rfl):
 PI X (.Tuple es n tpos) (.Call (.Name "enumerate" p) [a] [] pos) (be5 K ta):=by
 subst hK
 exact ci9 hg hm ha hs
theorem bw7(K:PySem.W.Frag)(hr:Room k X.A)(hn:n<=60:=by decide)(hK:X.K=K:=by rfl):MtR X "list.index" (bq1 K n):=by
 subst hK
 exact cy0 (Nat.lt_of_le_of_lt (by omega) hr.units)
end
structure gF (K:PySem.W.Frag) (C:Addr) (m qual:Str) (st:Stmt):Prop where
 ex:∃f fd,cu1 K C m f/\Fun K m qual st f fd
structure sJ (K:PySem.W.Frag) (mg:Str->Option Value) (x:Str) (C:Addr) (qual:Str) (st:Stmt):Prop where
 ex:∃f fd,Mk K C f/\Fun K "__init__" qual st f fd
 mg:mg x=some (.ref C)
theorem ck8{K:PySem.W.Frag}{C f:Addr}{m qual:Str}{st:Stmt}{oc:Value}{od an:Option Addr}{osl:Array (Option Value)}{kV doc pm cdv ct:Value}(a:PySem.W.findIn K (.ref C) m=some (some (.ref f)))(b:PySem.W.isFn K (.ref f)=true)
 (l:K.lookup f=some ⟨oc,od,.func (PySem.W.fnOf m qual (iM st) (dH st) (aM st) .none kV doc pm an cdv ct),osl⟩)(c:PySem.W.codeIn K cdv qual=true)(k:PySem.W.keepIn K (.ref f)=true):gF K C m qual st:=
 ⟨f,_,⟨a,b,k⟩,af3 l c k⟩
theorem cw7{K:PySem.W.Frag}{h:Heap}{mg:Str->Option Value}(X:K.In h)(G:h.Ns mainGlobals mg){x:Str}{C f:Addr}{qual:Str}{st:Stmt}{oc:Value}{od an:Option Addr}{osl:Array (Option Value)}{kV doc pm cdv ct:Value}(g:PySem.W.nsIn K mainGlobals x=some (some (.ref C)))
 (mk:PySem.W.makesIn K C=true)(a:PySem.W.findIn K (.ref C) "__init__"=some (some (.ref f)))(b:PySem.W.isFn K (.ref f)=true)(kc:PySem.W.keepIn K (.ref C)=true)
 (l:K.lookup f=some ⟨oc,od,.func (PySem.W.fnOf "__init__" qual (iM st) (dH st) (aM st) .none kV doc pm an cdv ct),osl⟩)(c:PySem.W.codeIn K cdv qual=true)(k:PySem.W.keepIn K (.ref f)=true):sJ K mg x C qual st:=
 ⟨⟨f,_,⟨mk,a,b,kc⟩,af3 l c k⟩,PySem.W.mg_of X G g⟩
theorem dr4{K:PySem.W.Frag}{C:Addr}(a:PySem.W.plainGet K C Str.empty=true)(b:PySem.W.hasDictIn K C=true)(c:PySem.W.plainOver K C=true)(d:PySem.W.findIn K (.ref C) "__setattr__"=some (some (.builtin "object.__setattr__"))):Cls K C:=⟨a,b,c,d⟩
theorem ae4{w:World}{K:PySem.W.Frag}{h:Heap}{mg:Str->Option Value}(X:K.In h)(G:h.Ns mainGlobals mg){d:Str}{a:Addr}{es:Array DictEntry}{ep:Nat}{kvs:List (Str×Value)}(g:PySem.W.nsIn K mainGlobals d=some (some (.ref a)))
 (l:K.lookup a=some ⟨.type "dict",none,.dict es ep,#[]⟩)(r:DRows w es.toList kvs)(nd:(kvs.map (·.1)).Nodup)(sm:(a==sysModules)=false):vA w K mg d kvs:=
 ⟨a,PySem.W.mg_of X G g,⟨_,es,ep,l,⟨rfl,rfl,rfl⟩,rfl,r⟩,nd,sm⟩
end L2
namespace TL
open PySem PySem.Spec PyProof.Rows L2
section
variable {Jn : gN} {K : PySem.W.Frag} {cn : Str → Option Addr} {E : XK}
def GD(K:PySem.W.Frag)(cn:Str->Option Addr)(kts:List (Str×T))(kvs:List (Str×Value)):Prop:=Paired (λ(p:Str×T)(q:Str×Value)=>p.1=q.1/\∃v,RelV v q.2/\∀H Z,Rep K cn H Z p.2 v []) kts kvs
theorem GD.lookup(g:GD K cn kts kvs)(z:Str):match kts.lookup z with
 |some t=>∃u v,kvs.lookup z=some u/\RelV v u/\∀H Z,Rep K cn H Z t v []
 |none=>kvs.lookup z=none:=by
 unfold GD at g
 induction g with
 |nil=>rfl
 |@cons a b l1 l2 h _ ih=>
  obtain⟨x,t⟩:=a
  obtain⟨y,u⟩:=b
  obtain⟨rfl,v,rv,r⟩:=h
  rw[List.lookup_cons,List.lookup_cons]
  by_cases e:(z==x)=true
  . rw[e];exact⟨u,v,rfl,rv,r⟩
  . rw[Bool.not_eq_true]at e
    rw[e]
    exact ih
def vE(kts:List (Str×T)):T->Res T
 |.str z=>match kts.lookup z with
  |some t=>.ok t
  |none=>.no
 |_=>.no
def cv3(neg:Bool)(kts:List (Str×T)):T->Res T
 |.str z=>.ok (.bl (if neg=true then !(kts.lookup z).isSome else(kts.lookup z).isSome))
 |_=>.no
theorem cd7(g:GD K cn kts kvs)(ha:RB Jn K cn E ty a):RE Jn K cn E [] (cl5 kvs ty) (eZ (vE kts) a):=λAs H Z ρ σ F Q w=>by
 unfold eZ at w
 refine ha As H Z ρ σ F _ ?_
 cases e:a ρ with
 |ok t=>
  rw[e]at w
  intro v H1 Z1 B p
  simp only[Res.bind]at w
  cases t with
  |str z=>
   have hz:=p.rep.str
   subst hz
   have gl:=g.lookup z
   simp only[vE]at w
   cases el:kts.lookup z with
   |none=>rw[el]at w;exact w.elim
   |some t=>
    rw[el]at w gl
    obtain⟨u,v,hl,rv,r⟩:=gl
    exact⟨z,u,v,rfl,hl,rv,WpE.val (WpE.mo F w p.mo) p.zi (r _ _)⟩
  |_=>exact w.elim
 |ex x=>rw[e]at w;exact w
 |no=>rw[e]at w;exact w
theorem cz7(g:GD K cn kts kvs)(ha:RB Jn K cn E ty a):RE Jn K cn E [] (di1 neg kvs ty) (eZ (cv3 neg kts) a):=λAs H Z ρ σ F Q w=>by
 unfold eZ at w
 refine ha As H Z ρ σ F _ ?_
 cases e:a ρ with
 |ok t=>
  rw[e]at w
  intro v H1 Z1 B p
  simp only[Res.bind]at w
  cases t with
  |str z=>
   have hz:=p.rep.str
   subst hz
   have gl:=g.lookup z
   have es:(kvs.lookup z).isSome=(kts.lookup z).isSome:=by
    cases el:kts.lookup z with
    |none=>rw[el]at gl;rw[show kvs.lookup z=none from gl];rfl
    |some t=>rw[el]at gl;obtain⟨u,v,hl,_⟩:=gl;rw[hl];rfl
   refine⟨z,rfl,?_⟩
   rw[es]
   exact WpE.bl (WpE.mo F w p.mo) p.zi
  |_=>exact w.elim
 |ex x=>rw[e]at w;exact w
 |no=>rw[e]at w;exact w
def ai2(n:Nat)(tabs:List (Str×(List T->Res T)))(i:Fr->Res T)(r:Fr->Res (List T)):Fr->Res T:=λρ=>(i ρ).bind λt=>match t with
 |.str z=>match tabs.lookup z with
  |some G=>(r ρ).bind λts=>rE n G ts
  |none=>.no
 |_=>.no
def cb6(K:PySem.W.Frag)(cn:Str->Option Addr)(n:Nat)(tabs:List (Str×(List T->Res T))):List (Str×Sp):=tabs.map λp=>(p.1,bG K cn n p.2)
theorem ae1 : ∀ {l : List (Str × α)}, l.lookup z = some a → (z, a) ∈ l
  | [], h => by cases h
  | (y, b) :: l, h => by
    rw [List.lookup_cons] at h
    by_cases e : (z == y) = true
    · rw [e] at h
      cases h
      have : z = y := by simpa using e
      subst this
      exact List.mem_cons_self
    · rw [Bool.not_eq_true] at e
      rw [e] at h
      exact List.mem_cons_of_mem _ (ae1 h)
theorem cl3(hi:RB Jn K cn E ty i)(ha:uL Jn K cn E ta a):RE Jn K cn E [] (bs8 (cb6 K cn n tabs) ty ta) (ai2 n tabs i a):=λAs H Z ρ σ F Q w=>by
 unfold ai2 at w
 refine hi As H Z ρ σ F _ ?_
 cases e:i ρ with
 |ok t=>
  rw[e]at w
  intro v H1 Z1 B p
  simp only[Res.bind]at w
  cases t with
  |str z=>
   have hz:=p.rep.str
   subst hz
   simp only at w
   cases el:tabs.lookup z with
   |none=>rw[el]at w;exact w.elim
   |some G=>
    rw[el]at w
    refine⟨z,bG K cn n G,rfl,List.mem_map.mpr ⟨(z,G),ae1 el,rfl⟩,?_⟩
    refine ha As H1 Z1 ρ σ (F.mo p.mo) _ ?_
    simp only at w
    cases e2:a ρ with
    |ok ts=>
     rw[e2]at w
     intro vs H2 Z2 B2 m2 r2
     exact aw9 (p.mo.trans m2) r2 w
    |ex x=>rw[e2]at w;exact WpX.ev w p.mo.ev
    |no=>rw[e2]at w;exact w.elim
  |_=>exact w.elim
 |ex x=>rw[e]at w;exact w
 |no=>rw[e]at w;exact w
noncomputable def tJ:List T->Res T
 |[.int i]=>gate (i.natAbs.log2<1920) (.ok (.str (toString i)))
 |[.str x]=>.ok (.str x)
 |_=>.no
theorem dd3:wP K cn ci6 tJ:=λE As H Z ts xs A Q zi r w=>by
 unfold tJ at w
 split at w
 . next i=>
   obtain⟨v,rfl,rv⟩:=r.one1
   have:=rv.int
   subst this
   obtain⟨h,w⟩:=w.gate
   exact .inl ⟨i,rfl,h,w.val zi (xV _)⟩
 . next x=>
   obtain⟨v,rfl,rv⟩:=r.one1
   have:=rv.str
   subst this
   exact .inr ⟨x,rfl,w.val zi (xV _)⟩
 . exact w.elim
def lX:List T->Res T
 |[.non,.ty n]=>if(n="int"\/n="bool"\/n="str"\/n="list"\/n="tuple")then .ok (.bl false)else .no
 |ts=>sM ts
theorem dp1:wP K cn (cq5 K) lX:=λE As H Z ts xs A Q zi r w=>by
 unfold lX at w
 split at w
 . next n=>
   obtain⟨v,u,B,C,rfl,rfl,rv,ru⟩:=r.two2
   have:=rv.non
   subst this
   simp only[Rep]at ru
   obtain⟨rfl,rfl⟩:=ru
   split at w
   . next hn=>exact .inr ⟨n,rfl,hn,WpE.bl w zi⟩
   . exact w.elim
 . exact .inl (dc6 E As H Z _ xs A Q zi r w)
inductive TupR:List T->List Value->Prop
 |nil:TupR [] []
 |str {x:Str} {t:Tok} {ts:List T} {us:List Value}:TupR ts us->TupR (.str x::ts) (.str x t::us)
 |int {x:Int} {t:Tok} {ts:List T} {us:List Value}:TupR ts us->TupR (.int x::ts) (.int x t::us)
theorem TupR.vals(h:TupR ts us):∃vs,Vals vs us/\∀H Z,Reps K cn H Z ts vs []:=by
 induction h with
 |nil=>exact⟨[],.nil,λ_ _=>Reps.nil⟩
 |@str x t ts us _ ih=>
  obtain⟨vs,h1,h2⟩:=ih
  refine⟨.str x::vs,.cons ⟨t,rfl⟩ h1,λH Z=>?_⟩
  simp only[Reps]
  exact⟨_,_,[],[],rfl,rfl,xV x,h2 H Z⟩
 |@int x t ts us _ ih=>
  obtain⟨vs,h1,h2⟩:=ih
  refine⟨.int x::vs,.cons ⟨t,rfl⟩ h1,λH Z=>?_⟩
  simp only[Reps]
  exact⟨_,_,[],[],rfl,rfl,jJ x,h2 H Z⟩
theorem jK(l:K.lookup a=some ⟨.type "tuple",oc,.seq us.toArray n,sl⟩)(r:TupR ts us)(hz:us.length<=sizeLine):
 (x,T.tup ts).1=(x,Value.ref a).1/\∃v,RelV v (x,Value.ref a).2/\∀H Z,Rep K cn H Z (x,T.tup ts).2 v []:=by
 obtain⟨vs,h1,h2⟩:=r.vals (K:=K) (cn:=cn)
 refine⟨rfl,.ref a,rfl,λH Z=>?_⟩
 simp only[Rep]
 exact⟨a,vs,rfl,.inr ⟨_,us.toArray,n,l,rfl,rfl,by simpa using hz,by simpa using h1⟩,h2 H Z⟩
theorem cI{P:Program}{w:World}{mg:Str->Option Value}{base:Heap}{C:Addr}{m qual:Str}{st:Stmt}{N ps:List Str}{k:Nat}{d:Fr->bU}(F:gF K C m qual st)(c:Cls K C)(S:bB N ps (aM st))
 (hb:∀(kV doc pm:Value)(an:Option Addr)(cdv ct:Value)(us:List Value),us.length=ps.length->bindArgs (PySem.W.fnOf m qual (iM st) (dH st) (aM st) .none kV doc pm an cdv ct) ⟨us,[]⟩=pure (ps.zip us))
 (hbody:∀(f:Addr)(cdv:Value)(A:Around)(outer:List Env)(s:Shared)(H:Hp)(E:XK),Room k (A.deeper (envOfC qual (aM st) s.heap.objs.size f cdv))->
  ∃t,PSs (kY jM P w K mg base N qual (aM st) f cdv A outer s H E).nox (dH st) t/\RS [] K cn E t d){n:Nat}{G:List T->Res T}(hn:ps.length=n)(hG:∀ts,G ts=bP (d (cG N.length ts))){k':Nat}(hk:k+1<=k'):gI P w K mg base k' C m (bG K cn n G):=by
 obtain⟨f,fd,M,F⟩:=F.ex
 exact⟨f,fd,ps,c,M,(ay4 F S (λcdv A outer s H E hr=>hbody f cdv A outer s H E hr) hn hG).mono hk,F.binds hb⟩
theorem iU{P:Program}{w:World}{mg:Str->Option Value}{base:Heap}{x c:Str}{C:Addr}{qual:Str}{st:Stmt}{N ps:List Str}{k:Nat}{d:Fr->bU}(F:sJ K mg x C qual st)(S:bB N ps (aM st))
 (hb:∀(kV doc pm:Value)(an:Option Addr)(cdv ct:Value)(us:List Value),us.length=ps.length->bindArgs (PySem.W.fnOf "__init__" qual (iM st) (dH st) (aM st) .none kV doc pm an cdv ct) ⟨us,[]⟩=pure (ps.zip us))
 (hbody:∀(f y:Addr)(cdv:Value)(A:Around)(outer:List Env)(s:Shared)(H:Hp)(E:XK),Room k (A.deeper (envOfC qual (aM st) s.heap.objs.size f cdv))->
  ∃t,PSs (kY jM P w K mg base N qual (aM st) f cdv A outer s H E).nox (dH st) t/\RS [(0,.ref y)] K cn E t d){n:Nat}{G:List T->Res T}(hn:ps.length=n+1)(hG:∀ts,G ts=iK (d (cG N.length (.ins true c [] []::ts)))):xN P w K mg base (k+1) x C (wK K cn c n G):=by
 obtain⟨f,fd,M,F'⟩:=F.ex
 exact⟨f,fd,ps,M,cm9 F' S (λy cdv A outer s H E hr=>hbody f y cdv A outer s H E hr) hn hG,F.mg,F'.binds hb⟩
end
end TL
namespace L2
open PySem PySem.Spec PyProof.Rows
theorem ca4:bootBuiltins "set"=some (.type "set"):=by decide+kernel
def av2(ss:List Str):Nat:=(jZ (λi=>ss.getD i Str.empty) ss.length).length
def br4(K:PySem.W.Frag):List V->Hp->VK->Prop:=λxs H Q=>∃p ss,xs=[.ref p]/\SqL K H p (ss.map V.str)/\ss.length<=1000/\Q (.int (av2 ss)) H
section
variable {X : Cx}
theorem bu7(K:PySem.W.Frag)(hm:X.mg "len"=none)(hm2:X.mg "set"=none)(ha:PA X [e] t)(hc:X.calm=true:=by rfl)(hg:Gl X "len":=by rfl)(hg2:Gl X "set":=by rfl)(he:starEach [e] X.env=[(false,eval e X.env)]:=by rfl)(hK:X.K=K:=by rfl):
 PE X (.Call (.Name "len" p) [.Call (.Name "set" p2) [e] [] pos2] [] pos) (tCB (br4 K) t):=by
 subst hK
 intro pins s σ H Q I h
 refine wpAny_Call_Name_kw (oV I hg hm boot_len ?_)
 refine PyProof.Rows.callWith_builtin1 (PyProof.Rows.args_cons ?_) rfl rfl
 refine wpAny_Call_Name_kw (oV I hg2 hm2 ca4 ?_)
 refine PyProof.Rows.callWith_type1 (bY (ha pins s σ H _ I h) λus s1 ⟨vs,H1,I1,r1,q1⟩=>?_) he rfl
 obtain⟨l,ss,rfl,hq,hl,q⟩:=q1
 cases r1 with
 |cons r rr=>
  cases rr
  cases r
  obtain⟨its,rv,pl,_⟩:=I1.list hq
  have e1:its.length=ss.length:=by have:=rv.length;simpa using this.symm
  refine an7 (val:=λi=>ss.getD i Str.empty) (I.ok.hd hc) pl.isList (λi v hv=>?_) (by rw[List.size_toArray,e1];unfold scanBound;omega) λh' tk hS kk=>PyProof.Rows.args_nil ?_
  . have hi:i<its.length:=by
     have:=(Array.getElem?_eq_some_iff.mp hv).1
     simpa using this
    obtain⟨x,ex,rx⟩:=fQ rv hi
    have ev:v=its[i]:=by
     have:=(Array.getElem?_eq_some_iff.mp hv).2
     simpa using this.symm
    rw[List.getElem?_map]at ex
    cases eg:ss[i]? with
    |none=>rw[eg]at ex;cases ex
    |some z=>
     rw[eg]at ex
     cases ex
     obtain⟨t,et⟩:=rx
     refine⟨t,?_⟩
     rw[ev,et,List.getD_eq_getElem?_getD,eg]
     rfl
  . have I2:Inv X pins σ H1 {s1 with heap:=h',toks:=tk}:=I1.kept λb u eb=>kk b u (Heap.lt_size eb) eb
    obtain⟨o,es,ep,tb,ho,hx,hd,_,_,hs,hf,hn⟩:=hS
    refine call_len_set ho hx hd hf (by have:es.size<4096:=hs;omega) ?_
    refine⟨.int (av2 ss),H1,I2.tok _,⟨tk+1,?_⟩,q⟩
    rw[hn,List.size_toArray,e1]
    rfl
end
end L2
namespace TL
open PySem PySem.Spec PyProof.Rows L2
section
variable {Jn : gN} {K : PySem.W.Frag} {cn : Str → Option Addr} {E : XK}
def uX:List T->Res T
 |[.lst _ ts]=>match wD ts with
  |some ss=>if ss.length<=1000 then .ok (.int (av2 ss))else .no
  |none=>.no
 |_=>.no
theorem cy3:wP K cn (br4 K) uX:=λE As H Z ts xs A Q zi r w=>by
 unfold uX at w
 split at w
 . next o ts=>
   obtain⟨v,rfl,rv⟩:=r.one1
   obtain⟨a,vs,C,rfl,s,rs,_⟩:=rv.lstSq
   split at w
   . next ss hs=>
     split at w
     . next hl=>
       have:=af5 ts rs hs
       subst this
       exact⟨a,ss,rfl,s.sq,hl,w.val zi (jJ _)⟩
     . exact w.elim
   . exact w.elim
 . exact w.elim
theorem ay1:∀(l acc:List Str),(acc++l).Nodup->l.foldl qA acc=acc++l
 |[],acc,_=>by simp
 |x::l,acc,h=>by
  have hx:x∉acc:=λhx=>by
   rw[List.nodup_append]at h
   exact h.2.2 x hx x List.mem_cons_self rfl
  have hs:qA acc x=acc++[x]:=by
   unfold qA
   rw[if_neg]
   intro q
   rw[List.any_eq_true]at q
   obtain⟨y,hy,e⟩:=q
   have:y=x:=by simpa using e
   subst this
   exact hx hy
  rw[List.foldl_cons,hs,ay1 l (acc++[x]) (by simpa using h)]
  simp
theorem bu4(l:List Str):(List.range l.length).map (λi=>l.getD i Str.empty)=l:=by
 apply List.ext_getElem?
 intro i
 by_cases h:i<l.length
 . rw[List.getElem?_map,List.getElem?_range h,List.getElem?_eq_getElem h]
   simp[List.getD_eq_getElem?_getD,List.getElem?_eq_getElem h]
 . rw[List.getElem?_eq_none (by simpa using h),List.getElem?_eq_none (by omega)]
theorem bl2(h:ss.Nodup):av2 ss=ss.length:=by
 unfold av2 jZ
 rw[bu4,ay1 ss [] (by simpa using h)]
 simp
theorem ck3{ss:List Str}(o:Bool)(h:ss.Nodup)(hl:ss.length<=1000):uX [.lst o (ss.map .str)]=.ok (.int ss.length):=by
 simp only[uX,yG,if_pos hl,bl2 h]
end
end TL
namespace TL
open PySem PySem.Spec PyProof.Rows L2
section
variable {P : Program} {w : World} {K : PySem.W.Frag} {cn : Str → Option Addr} {mg : Str → Option Value} {base : Heap} {k n : Nat}
theorem iB:iR K cn [] f:=λ_ h=>nomatch h
theorem bD(h:cn c=some C)(k:Cls K C)(n:NoAttr K C f)(r:iR K cn cs f):iR K cn (c::cs) f:=λd hd D hD=>by
 rcases List.mem_cons.mp hd with rfl|hd
 . rw[h]at hD
   cases hD
   exact⟨k,n⟩
 . exact r d hd D hD
theorem vW:yH K cn n [] []:=λc G C h=>by cases h
theorem cK(h:cn c=some C)(r:yH K cn n tabs tab):yH K cn n ((c,G)::tabs) ((C,bG K cn n G)::tab):=λd G' D hl hD=>by
 rw[List.lookup_cons]at hl
 by_cases e:(d==c)=true
 . rw[e]at hl
   cases hl
   have:d=c:=by simpa using e
   subst this
   rw[h]at hD
   cases hD
   exact List.mem_cons_self
 . rw[Bool.not_eq_true]at e
   rw[e]at hl
   exact List.mem_cons_of_mem _ (r d G' D hl hD)
theorem vY:∀q∈([]:List (Addr×Sp)),gI P w K mg base k q.1 m q.2:=dR
theorem cJ(h:gI P w K mg base k C m sp)(r:∀q∈tab,gI P w K mg base k q.1 m q.2):∀q∈(C,sp)::tab,gI P w K mg base k q.1 m q.2:=λq hq=>by
 rcases List.mem_cons.mp hq with rfl|hq
 . exact h
 . exact r q hq
def MD(P:Program)(w:World)(K:PySem.W.Frag)(mg:Str->Option Value)(base:Heap)(k:Nat)(kvs:List (Str×Value))(tab:List (Str×Sp)):Prop:=∀q∈tab,∃f fd ps,kvs.lookup q.1=some (.ref f)/\FnOk P w K mg base jM k f fd ps q.2/\Binds K fd ps []/\PySem.W.keepIn K (.ref f)=true
theorem cq4:MD P w K mg base k kvs []:=dR
theorem jT(e:kvs.lookup z=mg x)(d:eC P w K mg base j x ps sp)(h:j<=k)(r:MD P w K mg base k kvs tab):MD P w K mg base k kvs ((z,sp)::tab):=λq hq=>by
 rcases List.mem_cons.mp hq with rfl|hq
 . obtain⟨f,fd,F,hm,hk,hb⟩:=d.ex
   exact⟨f,fd,ps,e.trans hm,F.mono h,hb,hk⟩
 . exact r q hq
theorem cu7(D:vA w K mg d kvs)(r:MD P w K mg base k kvs tab):cw4 P w K mg base k d tab:=⟨kvs,D,r⟩
end
end TL
namespace L2
open PySem PySem.Spec PyProof.Rows
theorem do8{K:PySem.W.Frag}{h:Heap}{mg:Str->Option Value}{kvs:List (Str×Value)}{z x:Str}{u:Value}(X:K.In h)(G:h.Ns mainGlobals mg)(a:PySem.W.nsIn K mainGlobals x=some (some u))(e:kvs.lookup z=some u):kvs.lookup z=mg x:=e.trans (PySem.W.mg_of X G a).symm
end L2
namespace TL
open PySem PySem.Spec PyProof.Rows L2
theorem dx8(h1:-(2^64)<i)(h2:i<2^64):mulOk i j:=.inl ⟨h1,h2⟩
theorem bj5(h1:-(2^64)<j)(h2:j<2^64):mulOk i j:=.inr (.inl ⟨h1,h2⟩)
theorem cv6(i:Int):lX [.int i,.ty "int"]=.ok (.bl true):=cn5 i
theorem cw9(i:Int):lX [.int i,.ty "bool"]=.ok (.bl false):=bj7 i
theorem ce9(i:Bool):lX [.bl i,.ty "bool"]=.ok (.bl true):=cy5 i
theorem cl9(i:Bool):lX [.bl i,.ty "int"]=.ok (.bl true):=bv9 i
theorem cx8(i:List T):lX [.tup i,.ty "tuple"]=.ok (.bl true):=ca6 i
theorem co8(o:Bool)(i:List T):lX [.lst o i,.ty "list"]=.ok (.bl true):=co5 o i
theorem ck9:lX [.non,.ty "bool"]=.ok (.bl false):=by with_unfolding_all rfl
theorem cp9:lX [.non,.ty "int"]=.ok (.bl false):=by with_unfolding_all rfl
theorem da2(i:Int):tJ [.int i]=gate (i.natAbs.log2<1920) (.ok (.str (toString i))):=rfl
theorem dj4(x:Str):tJ [.str x]=.ok (.str x):=rfl
theorem dc4(i j:Int):wM (.int i) (.int j)=.ok (.bl (!(i==j))):=rfl
theorem dx2(i j:Str):wM (.str i) (.str j)=.ok (.bl (!(i==j))):=rfl
theorem dg0(i j:Bool):wM (.bl i) (.bl j)=.ok (.bl (!(i==j))):=rfl
theorem cy6(o:Bool)(ts:List T):dw3 [.lst o ts]=if bA ts=true then .ok (.tup ts)else .no:=rfl
end TL
namespace TL
open PySem L2
theorem ck2(h:n<=100000):(n<=sizeLine)=True:=eq_true (Nat.le_trans h (by decide))
theorem cf2(h:n<=100000):(n<sizeLine)=True:=eq_true (Nat.lt_of_le_of_lt h (by decide))
theorem pG{m:Int}(h:0<=m):∃k:Nat,m=k:=⟨m.toNat,by omega⟩
end TL
namespace TL
open PySem L2
theorem dv7(h1:0<j)(h2:j<1073741824):uA i j:=⟨h1,h2⟩
theorem di7(h1:0<=j)(h2:j<=1000000)(h3:i.natAbs<2^64):xF i j:=⟨h1,h2,h3⟩
end TL
namespace L2
open PySem
theorem di5(h:PySem.W.findIn K (.ref C) f=some none):NoAttr K C f:=h
end L2
namespace L2
open PySem PySem.Spec PyProof.Rows
section
variable {X : Cx}
theorem aw6(r:Vals xs its):∀k:Nat,Vals (List.replicate k xs).flatten (List.replicate k its).flatten
 |0=>Paired.nil
 |k+1=>by
  rw[List.replicate_succ,List.replicate_succ,List.flatten_cons,List.flatten_cons]
  exact r.append (aw6 r k)
theorem bx0(its:List Value):∀(k:Nat)(acc:List Value),List.foldl (λx1 x2=>x1++x2) acc.toArray (List.replicate k its.toArray)=(acc++(List.replicate k its).flatten).toArray
 |0,acc=>by simp
 |k+1,acc=>by
  rw[List.replicate_succ,List.foldl_cons,List.replicate_succ,List.flatten_cons]
  have e:acc.toArray++its.toArray=(acc++its).toArray:=by simp
  rw[e,bx0 its k,List.append_assoc]
theorem bo9(its:List Value)(k:Nat):List.foldl (λx1 x2=>x1++x2) #[] (List.replicate (if its.toArray.isEmpty=true then 0 else k) its.toArray)=((List.replicate k its).flatten).toArray:=by
 cases its with
 |nil=>
  have e:(List.replicate k ([]:List Value)).flatten=[]:=by
   induction k with
   |zero=>rfl
   |succ k ih=>rw[List.replicate_succ,List.flatten_cons,ih];rfl
  rw[e]
  simp
 |cons v its=>
  have e:=bx0 (v::its) k []
  simp only[List.nil_append]at e
  simpa using e
def cr5(K:PySem.W.Frag):R2:=λx y H Q=>∃l xs k,x=.ref l/\y=.int k/\SqS K H l xs/\-(2^63)<=k/\k<2^63/\xs.length*k.toNat<=2^24/\∀p,H p=none->Q (.ref p) (upd H p (.lst (List.replicate k.toNat xs).flatten))
theorem ca9(K:PySem.W.Frag)(hK:X.K=K:=by rfl):OpR X (binaryOp .Mult) (cr5 K):=by
 subst hK
 intro pins s σ H x y v u Q I rx ry h
 obtain⟨l,xs,k,rfl,rfl,hH,h1,h2,hz,q⟩:=h
 cases rx
 obtain⟨t,rfl⟩:=ry
 obtain⟨its,n,r,e,_⟩:=I.listS hH
 have hl:=r.length
 have hs:its.toArray.size*k.toNat<=2^24:=by rw[List.size_toArray,<-hl];exact hz
 refine wpAny_binaryOp_repeat_ref (T:="list") (U:="int") (by decide) ⟨_,e,rfl⟩ (λs'=>typeIs_int s' k t) noFill_list_mul F.fills_int_mul F.slot_int_rmul repeat_list F.slot_int_index.lookup
  (call_meets F.slot_int_rmul (typeIs_int s k t) F.entry_int_rmul (F.args_int_rmul_2 _ _) (int___rmul___int_list k t l its.toArray n) ⟨e,rfl,⟨_,e,rfl⟩,call_meets F.slot_list_mul ⟨_,e,rfl⟩ F.entry_list_mul (F.args_list_mul_2 _ _)
   (AutoListH.list___mul___list_int_3 l its.toArray n k t (by simp[Builtin.List.listFitsIndex];omega) (by omega) (by simp[Builtin.List.listTooLong,sizeLine];simpa using hs)) ⟨e,?_⟩⟩)
 rw[bo9]
 refine⟨.ref _,_,I.lnew (t':=s.toks) (aw6 r k.toNat) ?_,rfl,q _ I.fresh⟩
 have hm:∀(m:Nat),(List.replicate m xs).flatten.length=m*xs.length:=by intro m;simp
 have hn:=sizeLine_eq
 rw[hm,Nat.mul_comm]
 omega
end
end L2
namespace TL
open PySem L2
section
variable {K : PySem.W.Frag} {cn : Str → Option Addr}
noncomputable def aw8:T->T->Res T
 |.lst _ xs,.int k=>gate (bA xs=true/\-(2^63)<=k/\k<2^63/\xs.length*k.toNat<=2^24) (.ok (.lst true (List.replicate k.toNat xs).flatten))
 |_,_=>.no
theorem ad6(r:Reps K cn H Z xs vs []):∀k:Nat,Reps K cn H Z (List.replicate k xs).flatten (List.replicate k vs).flatten []
 |0=>Reps.nil
 |k+1=>by
  rw[List.replicate_succ,List.replicate_succ,List.flatten_cons,List.flatten_cons]
  exact Reps.append xs r (ad6 r k)
theorem da1:mH K cn (cr5 K) aw8:=λE As H Z t u x y A B Q zi rt ru w=>by
 unfold aw8 at w
 split at w
 . next o xs k=>
   obtain⟨h,w⟩:=w.gate
   obtain⟨a,vs,C,rfl,hs,r1,_⟩:=rt.lstSq
   rw[ru.int]
   exact⟨a,vs,k,rfl,rfl,hs,h.2.1,h.2.2.1,by rw[Reps.length xs r1];exact h.2.2.2,λp hp=>w.newL zi (ad6 (r1.bareE h.1) k.toNat) p hp⟩
 . exact w.elim
def bd6(us:List T):List T->Option (List T)
 |[.int i]=>if 0<=i/\i.toNat<us.length/\us.length<=sizeLine then some (us.eraseIdx i.toNat)else none
 |_=>none
theorem dc7:bm6 K cn bx7 bd6:=λH Z a us ts us' ws vs C0 C ha r0 r1 nd h=>by
 unfold bd6 at h
 split at h
 . next i=>
   split at h
   . next hl=>
     cases h
     obtain⟨h0,h1,h2⟩:=hl
     have hn:=sizeLine_eq
     simp only[Reps]at r1
     obtain⟨v,r',B1,D1,rfl,rfl,ra,rfl,rfl⟩:=r1
     simp only[Rep]at ra
     obtain⟨rfl,rfl⟩:=ra
     have hlen:=Reps.length us r0
     obtain⟨C1,C2,rfl,a1,a2⟩:=Reps.split i.toNat us r0
     rw[List.drop_eq_getElem_cons h1]at a2
     simp only[Reps]at a2
     obtain⟨w0,rest,B2,D2,e2,rfl,h3,h4⟩:=a2
     have hw:i.toNat<ws.length:=by omega
     rw[List.drop_eq_getElem_cons hw]at e2
     injection e2 with e3 e4
     subst e4
     refine⟨ws.eraseIdx i.toNat,C1++D2,?_,?_,?_,λQ hQ=>⟨a,ws,i,i.toNat,ws[i.toNat],rfl,rfl,ha,by omega,by omega,PySem.StrLaws.seqIndex_nonneg h0 (by omega),List.getElem?_eq_getElem hw,hQ _⟩⟩
     . rw[List.eraseIdx_eq_take_drop_succ,List.eraseIdx_eq_take_drop_succ]
       exact Reps.append _ a1 h4
     . simp only[List.append_nil]at nd
       exact nd.sublist ((List.sublist_append_right B2 D2).append_left C1)
     . intro x hx
       rcases List.mem_append.mp hx with hx|hx
       . exact .inl (List.mem_append_left _ hx)
       . exact .inl (List.mem_append_right _ (List.mem_append_right _ hx))
   . cases h
 . cases h
end
end TL
namespace TL
open PySem PySem.Spec PyProof.Rows L2
section
variable {Jn : gN} {K : PySem.W.Frag} {cn : Str → Option Addr} {E : XK}
theorem dp5{mv mw L:List Nat}{te:TE}{tr:TA}{a:Fr->Res T}{r:Fr->Res (List T)}(ha:RE Jn K cn E mv te a)(hr:RA Jn K cn E mw tr r)(e:mv++mw=L)(hd:(mv.all λi=>!mw.contains i)=true):RA Jn K cn E L (yQ te tr) (aD a r):=e▸cp7 ha hr hd
theorem ds2{ks ls L:List Nat}{n:Nat}{g:TG}{gs:TGs}{b:T->Fr->Option Fr}{bs:List T->Fr->Option Fr}(h1:RG Jn K cn ks g b)(h2:RGs Jn K cn ls n gs bs)(e:ks++ls=L):RGs Jn K cn L (n+1) (bc5 g gs) (bE b bs):=e▸cc3 h1 h2
end
end TL
namespace TL
open PySem PySem.Spec PyProof.Rows L2
section
variable {Jn : gN} {K : PySem.W.Frag} {cn : Str → Option Addr} {E : XK}
end
end TL
namespace L2
open PySem PySem.Spec PyProof.Rows
section
variable {X : Cx}
end
end L2
namespace TL
open PySem L2
section
variable {K : PySem.W.Frag} {cn : Str → Option Addr}
end
end TL

set_option maxHeartbeats 4000000
open TL
local macro_rules | `(tactic| walk_at "gt") => `(tactic| first | assumption | exact dx8 (by decide) (by decide) | exact bj5 (by decide) (by decide) | exact dv7 (by decide) (by decide) | exact di7 (by decide) (by decide) (by decide) | decide | omega | (refine And.intro ?_ ?_; omega; omega))
local macro_rules | `(tactic| walk_at "ev") => `(tactic| simp (disch := walk_at "gt") only [vC,ck2,cf2,sSeq,bF,bM,cW,df5,kP,bX,de3,dx7,aB,dC,aQ,aG,eZ,oK,pV,dl9,au8,dIf,bK,kQ,kR,tV,zL,eO,cN,aD,aI,bZ,bJ,dBM,sU,iS,iL,iD,iF,dY,cM,bk0,de9,dh5,kills,aJ,eR,bE,eU,bP,cG,mD,dQ,frz,frzs,dS,bA,dX,dL,bf1,ah1,kL,tE,uB,kN,xM,uC,lE,az9,lD,vI,az2,GoW,bw4,br0,dw0,da4,do2,dh2,do0,dp3,dp0,cc8,dj1,ab3,dr6,dp6,dl6,dl5,dv6,dn7,dm7,de8,dt5,dh7,dz7,cv1,cb2,cx2,cx3,ca1,dy7,dq6,dw6,dp7,do6,dp8,du5,db6,ct5,dt7,dp9,dk9,dy9,dr7,dr5,do7,dy6,bj9,cn5,bj7,cy5,bv9,ca6,co5,dq5,dv3,bn6,dn1,dy2,do5,de7,cb1,dc5,do4,bd9,bm4,dh6,da6,dt8,dg5,dj7,dm8,dk7,di6,dl7,dn6,ds7,dn8,dz5,df8,da8,cf0,dl8,db8,ce4,
 cv6,cw9,ce9,cl9,cx8,co8,ck9,cp9,da2,dj4,dc4,dx2,dg0,eZ,vE,cv3,al9,bt6,as0,aa3,frz1,iK,mT,ai0,bo0,bz4,dz9,bd6,aw8,qU,bk1,rE,ai2,cy6,List.length_map,Option.map_some,Option.isSome_some,List.isEmpty_cons,List.isEmpty_nil,Option.isSome_none,List.map_cons,List.map_nil,List.length_cons,List.length_nil,List.replicate_succ,List.replicate_zero,List.cons_append,List.nil_append,List.set_cons_zero,List.set_cons_succ,List.getElem?_cons_zero,List.getElem?_cons_succ,Nat.reduceAdd,Nat.reduceSub,Bool.not_true,Bool.not_false,Bool.and_true,Bool.true_and,Bool.and_false,Bool.false_and,Bool.or_true,Bool.true_or,Bool.or_false,Bool.false_or,if_true,if_false,Bool.false_eq_true,reduceIte,reduceCtorEq,decide_true,decide_false,and_self,and_true,true_and,Bool.and_self, *])
namespace Nk22
open PySem L2 TL
noncomputable section
def dP(i:Nat):Stmt:=PySem.Challenge.pw_inkyears_k22_what_datings_are.main.body.getD i (.Pass ⟨0,0,0,0⟩)
abbrev kt_NUMBERS:List (Str×T):=[("dark",.tup [.int 0,.int 1000000]),("place",.tup [.int 1,.int 100]),("year",.tup [.int (-4000),.int 4000]),("later",.tup [.int 0,.int 300]),("gap",.tup [.int (-300),.int 300])]
abbrev kt_PARTS:List (Str×T):=[("ink",.tup [.str "letter",.str "ink",.str "dark",.str "dark"]),("reign",.tup [.str "letter",.str "reign",.str "place"]),("under",.tup [.str "letter",.str "reign"]),("between",.tup [.str "letter",.str "year",.str "year"]),("after",.tup [.str "letter",.str "letter"]),("same",.tup [.str "letter",.str "letter"]),("within",.tup [.str "letter",.str "letter",.str "later"]),("apart",.tup [.str "letter",.str "letter",.str "gap",.str "gap"])]
def rR:Fr->bU:=
 (sSeq (cW (bK (aG ltT (aB 1) (bZ eJ (aD (aB 0) aI)))) (bM [] (aQ (aG aY (aB 0) (aB 1)))) bX)
 (bM [] (dC (.int 0))))
def iA:List T->Res T:=λts=>bP (rR (cG 2 ts))
def pY:Fr->bU:=
 (sSeq (bF [] (eO (aD (dC (.str "a")) (aD (dC (.str "ab")) (aD (dC (.str "abc")) (aD (dC (.str "b")) (aD (dC (.str "ba")) (aD (dC (.str "zzzzzzzz")) (aD (dC (.str "zzzzzzzy")) (aD (dC (.str "q")) aI))))))))) (aJ 1))
 (bM [] (aG bO (sU oC (aB 1) (iS (aG bV (aB 0) (dC (.int 8)))) iL) (sU oC (aB 1) iL (iS (aG bV (aB 0) (dC (.int 8))))))))
def pZ:List T->Res T:=λts=>bP (pY (cG 2 ts))
def qC:Fr->bU:=
 (sSeq (bF [] (aG bO (aG bO (aG bV (aB 0) (dC (.int 1000000021))) (aG mI (dC (.int 4099)) (aB 1))) (dC (.int 77))) (aJ 0))
 (sSeq (bF [] (bZ yT (aD (aG bV (aG mI (aB 0) (dC (.int 30011))) (dC (.int 2140000027))) (aD (dC (.int 46133)) aI))) (eR (bE (aJ 2) (bE (aJ 3) eU))))
 (sSeq (bF [] (aG bO (aG bO (aG bO (aG mI (aB 2) (aB 3)) (aG mI (dC (.int 6007)) (aB 2))) (aG mI (dC (.int 271)) (aB 3))) (aB 1)) (aJ 4))
 (bM [] (aG bV (aG mI (aB 4) (aG bO (aG bV (aB 4) (dC (.int 1009))) (dC (.int 7919)))) (dC (.int 1700000009)))))))
def dM:List T->Res T:=λts=>bP (qC (cG 5 ts))
def pP:Fr->bU:=
 (sSeq (bF [] (aG bV (bJ 2 iA (aD (aB 0) (aD (dC (.int 0)) aI))) (aG wA (dC (.int 10)) (dC (.int 15)))) (aJ 2))
 (sSeq (bF [] (aQ (aG aY (eO (aD (dC (.int 0)) (aD (dC (.int 1)) (aD (dC (.int 3)) (aD (dC (.int 8)) (aD (dC (.int 20)) (aD (dC (.int 20)) (aD (dC (.int 60)) (aD (dC (.int 300)) aI))))))))) (aG bV (aB 2) (dC (.int 8))))) (aJ 3))
 (sSeq (bF [] (aQ (aG aY (eO (aD (eZ sO (dC (.int 3000))) (aD (aG cY (dC (.int 3000)) (aB 3)) (aD (eZ sO (dC (.int 10))) (aD (dC (.int 1400)) aI))))) (aG bV (aG gB (aB 2) (dC (.int 8))) (dC (.int 4))))) (aJ 4))
 (sSeq (bF [] (sU oC (bJ 1 pZ (aD (aG gB (aB 2) (dC (.int 32))) aI)) iL (iS (aG bO (dC (.int 1)) (aG bV (aG gB (aB 2) (dC (.int 256))) (aB 1))))) (aJ 5))
 (sSeq (bF [] (eO aI) (aJ 6))
 (sSeq (kP (iF pJ (aD (aG bO (dC (.int 2)) (aG bV (bJ 2 dM (aD (aB 2) (aD (dC (.int 6)) aI))) (dC (.int 5)))) aI)) (aJ 7) (sSeq (bF [] (aG bO (dC (.int 400)) (aG bV (aG gB (aB 2) (dC (.int 2048))) (dC (.int 9)))) (aJ 8))
 (sSeq (bF [] (eO (aD (aQ (aB 8)) aI)) (aJ 9))
 (sSeq (kP (iF pJ (aD (aG bV (bJ 2 dM (aD (aB 2) (aD (aB 7) aI))) (aG aY (eO (aD (dC (.int 12)) (aD (dC (.int 60)) aI))) (aG gB (aG bV (aG gB (aB 2) (dC (.int 18432))) (dC (.int 4))) (dC (.int 3))))) aI)) (aJ 10) (sSeq (bF [] (bZ uD (aD (dC (.int 0)) (aD (aG cY (aB 8) (aG bV (bJ 2 dM (aD (aB 2) (aD (aG bO (aG mI (dC (.int 10)) (aB 10)) (aB 7)) aI))) (dC (.int 13)))) aI))) (aJ 8))
 (lE 9 [] dQ (aQ (aB 8)))))
 (lE 6 [9] dQ (cN (aD (aQ (aG aY (eO (aD (dC (.str "oak")) (aD (dC (.str "soot")) (aD (dC (.str "oa")) (aD (dC (.str "ink")) (aD (dC (.str "oakoak")) (aD (dC (.str "s")) aI))))))) (aB 7))) (aD (aB 9) aI))))))))
 (sSeq (bF [] (aG bO (aG cY (aB 4) (dC (.int 5))) (aG bV (bJ 2 dM (aD (aB 2) (aD (dC (.int 3)) aI))) (aG bO (aB 3) (dC (.int 9))))) (aJ 11))
 (sSeq (bF [] (eO (aD (cN (aD (dC (.str "ann")) (aD (aQ (aB 11)) (aD (aG bO (dC (.int 1)) (aG bV (bJ 2 dM (aD (aB 2) (aD (dC (.int 4)) aI))) (dC (.int 30)))) aI)))) (aD (cN (aD (dC (.str "anna")) (aD (aG bO (aB 11) (dC (.int 3))) (aD (aG bO (dC (.int 1)) (aG bV (bJ 2 dM (aD (aB 2) (aD (dC (.int 5)) aI))) (dC (.int 100)))) aI)))) aI))) (aJ 12))
 (sSeq (kP (iF pJ (aD (aG bV (bJ 2 dM (aD (aB 2) (aD (dC (.int 7)) aI))) (dC (.int 7))) aI)) (aJ 7) (sSeq (bF [] (aG cY (aG bO (aB 11) (aG bV (bJ 2 dM (aD (aB 2) (aD (aG bO (dC (.int 8)) (aB 7)) aI))) (dC (.int 9)))) (dC (.int 4))) (aJ 11))
 (ai0 12 [] bz4 dQ (aD (dC (.int 1)) (aD (cN (aD (aQ (aG aY (eO (aD (dC (.str "an")) (aD (dC (.str "b")) (aD (dC (.str "annab")) (aD (dC (.str "zz")) (aD (dC (.str "nn")) (aD (dC (.str "a")) aI))))))) (aB 7))) (aD (aQ (aB 11)) (aD (aG bO (dC (.int 1)) (aG bV (bJ 2 dM (aD (aB 2) (aD (aG bO (dC (.int 14)) (aB 7)) aI))) (dC (.int 60)))) aI)))) aI)))))
 (bM [5,6,12] (cN (aD (aQ (aB 4)) (aD (aG bO (aB 4) (aB 3)) (aD (aB 5) (aD (aB 6) (aD (aB 12) aI))))))))))))))))
def pR:List T->Res T:=λts=>bP (pP (cG 13 ts))
def tM:Fr->bU:=
 (sSeq (bF [] (aG bV (bZ af0 (aD (aB 0) aI)) (aG wA (dC (.int 10)) (dC (.int 60)))) (aJ 2))
 (sSeq (bF [] (eO aI) (aJ 3))
 (sSeq (kP (iF pJ (aD (aB 1) aI)) (aJ 4) (cW (zL (bK (aG ltT (aB 0) (dC (.int 0)))) (bK (aG geT (aB 0) (aG wA (dC (.int 10)) (dC (.int 18)))))) (sSeq (lE 3 [] dQ (aG bV (aB 2) (dC (.int 10007))))
 (bF [] (aG gB (aB 2) (dC (.int 10007))) (aJ 2))) (lE 3 [] dQ (bJ 2 dM (aD (aG bO (bJ 2 dM (aD (aB 0) (aD (aB 4) aI))) (aB 0)) (aD (aB 4) aI))))))
 (bM [3] (aB 3)))))
def nN:List T->Res T:=λts=>bP (tM (cG 5 ts))
def pA:Fr->bU:=
 (bM [] (dY [2] (iD jP (bJ 2 nN (aD (aB 0) (aD (bZ eJ (aD (aG aY (aB 1) (dC (.int 2))) aI)) aI)))) (aJ 2) cM (aG bO (aG aY (aB 1) (dC (.int 0))) (aG bV (aB 2) (aG bO (aG cY (aG aY (aB 1) (dC (.int 1))) (aG aY (aB 1) (dC (.int 0)))) (dC (.int 1)))))))
def oM:List T->Res T:=λts=>bP (pA (cG 3 ts))
def qZ:Fr->bU:=
 (sSeq (bF [] (eO (aD (aQ (aG aY (aG aY (aB 1) (dC (.int 2))) (aB 2))) (aD (aQ (aG aY (aG aY (aB 1) (dC (.int 2))) (aB 3))) aI))) (aJ 4))
 (sSeq (cW (zL (bK (aG fN (aB 2) (aB 3))) (bK (aG fN (aG bV (aG aY (aB 0) (dC (.int 2))) (dC (.int 2))) (dC (.int 0))))) (sSeq (bF [] (aG bO (aG cY (aG aY (aB 1) (dC (.int 0))) (dC (.int 30))) (aG bV (aG aY (aB 0) (dC (.int 3))) (aG bO (aG cY (aG aY (aB 1) (dC (.int 1))) (aG aY (aB 1) (dC (.int 0)))) (dC (.int 61))))) (aJ 5))
 (sSeq (bF [] (aG bO (aB 5) (aG bV (aG aY (aB 0) (dC (.int 4))) (dC (.int 40)))) (aJ 6))
 (bM [] (cN (aD (dC (.str "between")) (aD (aG bO (sU oC (aB 4) iL (iS (dC (.int 1)))) (eO (aD (aQ (aB 5)) (aD (aQ (aB 6)) aI)))) (aD (cN (aD (aQ (aB 2)) aI)) (aD (cN (aD (aQ (aB 5)) (aD (aQ (aB 6)) aI))) aI)))))))) bX)
 (sSeq (bF [] (aG cY (aG bV (aG aY (aB 0) (dC (.int 3))) (dC (.int 601))) (dC (.int 300))) (aJ 5))
 (sSeq (bF [] (bZ qV (aD (dC (.int 300)) (aD (aG bO (aB 5) (aG bV (aG aY (aB 0) (dC (.int 4))) (dC (.int 40)))) aI))) (aJ 6))
 (bM [] (cN (aD (dC (.str "apart")) (aD (aG bO (aB 4) (eO (aD (aQ (aB 5)) (aD (aQ (aB 6)) aI)))) (aD (cN (aD (aQ (aB 2)) (aD (aQ (aB 3)) aI))) (aD (cN (aD (aQ (aB 5)) (aD (aQ (aB 6)) aI))) aI))))))))))
def rB:List T->Res T:=λts=>bP (qZ (cG 7 ts))
def oF:Fr->bU:=
 (sSeq (bF [] (aQ (aG aY (aG aY (aB 1) (dC (.int 2))) (aB 2))) (aJ 4))
 (sSeq (bF [] (aG gB (aB 0) (dC (.int 4))) (aJ 5))
 (sSeq (cW (bK (aG fN (aG bV (aB 0) (dC (.int 4))) (dC (.int 0)))) (sSeq (bF [] (aQ (aG aY (aG aY (aB 1) (dC (.int 3))) (aG bV (aB 5) (bZ eJ (aD (aG aY (aB 1) (dC (.int 3))) aI))))) (eR (bE (aJ 6) (bE (aJ 7) eU))))
 (sSeq (bF [] (aG bV (aG gB (aB 5) (dC (.int 2))) (dC (.int 5))) (aJ 8))
 (sSeq (bF [] (aQ (aG aY (aB 7) (bZ qV (aD (aG cY (aG aY (aB 1) (dC (.int 1))) (aB 3)) (aD (aG cY (bZ eJ (aD (aB 7) aI)) (dC (.int 1))) aI))))) (aJ 9))
 (sSeq (bF [] (bZ uD (aD (dC (.int 0)) (aD (aG cY (aG bO (aB 9) (aG bV (aG gB (aB 5) (dC (.int 10))) (aG bO (aG mI (dC (.int 2)) (aB 8)) (dC (.int 1))))) (aB 8)) aI))) (aJ 9))
 (sSeq (bF [] (eO aI) (aJ 10))
 (sSeq (kP (iF pJ (aD (aG bO (aG cY (aG aY (aB 1) (dC (.int 1))) (aG aY (aB 1) (dC (.int 0)))) (dC (.int 1))) aI)) (aJ 11) (cW (bK (aG oH (bZ af0 (aD (aG cY (aG aY (aB 7) (bZ qV (aD (aB 11) (aD (aG cY (bZ eJ (aD (aB 7) aI)) (dC (.int 1))) aI)))) (aB 9)) aI)) (aB 8))) (lE 10 [] dQ (aQ (aB 11))) bX))
 (bM [] (cN (aD (dC (.str "ink")) (aD (eO (aD (aQ (aB 4)) (aD (aQ (aB 6)) (aD (aQ (aB 9)) (aD (aQ (aB 8)) aI))))) (aD (cN (aD (aQ (aB 2)) aI)) (aD (cN (aD (aG cY (aG aY (aB 1) (dC (.int 1))) (aG aY (aB 10) (eZ sO (dC (.int 1))))) (aD (aG cY (aG aY (aB 1) (dC (.int 1))) (aG aY (aB 10) (dC (.int 0)))) aI))) aI)))))))))))) bX)
 (sSeq (bF [] (aG bV (aG gB (aB 5) (dC (.int 2))) (bZ eJ (aD (aG aY (aB 1) (dC (.int 4))) aI))) (aJ 12))
 (sSeq (kP (iD uO (bk0 (aG bO (sU oC (aG aY (aB 1) (dC (.int 4))) (iS (aB 12)) iL) (sU oC (aG aY (aB 1) (dC (.int 4))) iL (iS (aB 12)))))) (eR (bE (aJ 13) (bE (aJ 14) (bE (aJ 15) eU)))) (cW (tV (bK (aG fN (aG bV (aB 0) (dC (.int 4))) (dC (.int 1)))) (bK (oK oH ltT (aB 14) (aB 3) (aG bO (aB 14) (aB 15))))) (sSeq (cW (bK (aG fN (aG bV (aB 5) (dC (.int 2))) (dC (.int 0)))) (bM [] (cN (aD (dC (.str "reign")) (aD (eO (aD (aQ (aB 4)) (aD (aQ (aB 13)) (aD (aG bO (aG cY (aB 3) (aB 14)) (dC (.int 1))) aI)))) (aD (cN (aD (aQ (aB 2)) aI)) (aD (cN (aD (aQ (aB 3)) (aD (aQ (aB 3)) aI))) aI)))))) bX)
 (bM [] (cN (aD (dC (.str "under")) (aD (eO (aD (aQ (aB 4)) (aD (aQ (aB 13)) aI))) (aD (cN (aD (aQ (aB 2)) aI)) (aD (cN (aD (aQ (aB 14)) (aD (aG cY (aG bO (aB 14) (aB 15)) (dC (.int 1))) aI))) aI))))))) bX))
 (sSeq (bF [] (bZ uD (aD (eZ sO (dC (.int 4000))) (aD (aG cY (aB 3) (aG bV (aB 5) (dC (.int 9)))) aI))) (aJ 16))
 (sSeq (bF [] (bZ qV (aD (dC (.int 4000)) (aD (aG bO (aB 3) (aG bV (aG gB (aB 5) (dC (.int 9))) (dC (.int 9)))) aI))) (aJ 17))
 (bM [] (cN (aD (dC (.str "between")) (aD (eO (aD (aQ (aB 4)) (aD (aQ (aB 16)) (aD (aQ (aB 17)) aI)))) (aD (cN (aD (aQ (aB 2)) aI)) (aD (cN (aD (aQ (aB 16)) (aD (aQ (aB 17)) aI))) aI)))))))))))))
def nV:List T->Res T:=λts=>bP (oF (cG 18 ts))
def nT:Fr->bU:=
 (sSeq (bF [] (dY [9] (iD jP (aB 2)) (aJ 9) cM (aQ (aG aY (aG aY (aB 1) (dC (.int 2))) (aB 9)))) (aJ 4))
 (sSeq (bF [] (aG gB (aB 0) (dC (.int 4))) (aJ 5))
 (sSeq (cW (tV (bK (aG fN (aB 3) (dC (.int 0)))) (bK (aG fN (aG bV (aB 0) (dC (.int 4))) (dC (.int 0))))) (bM [4] (cN (aD (dC (.str "same")) (aD (aB 4) (aD (aQ (aB 2)) (aD (cN (aD (dC (.int 0)) (aD (dC (.int 0)) aI))) aI)))))) bX)
 (sSeq (cW (tV (bK (aG gtT (aB 3) (dC (.int 0)))) (bK (aG ltT (aG bV (aB 0) (dC (.int 4))) (dC (.int 2))))) (bM [4] (cN (aD (dC (.str "after")) (aD (aB 4) (aD (aQ (aB 2)) (aD (cN (aD (dC (.int 1)) (aD (dC .non) aI))) aI)))))) bX)
 (sSeq (cW (tV (bK (aG geT (aB 3) (dC (.int 0)))) (bK (aG fN (aG bV (aB 0) (dC (.int 4))) (dC (.int 2))))) (sSeq (bF [] (bZ qV (aD (dC (.int 300)) (aD (aG bO (aB 3) (aG bV (aB 5) (dC (.int 4)))) aI))) (aJ 6))
 (bM [] (cN (aD (dC (.str "within")) (aD (aG bO (aB 4) (eO (aD (aQ (aB 6)) aI))) (aD (aQ (aB 2)) (aD (cN (aD (dC (.int 0)) (aD (aQ (aB 6)) aI))) aI))))))) bX)
 (sSeq (bF [] (bZ uD (aD (eZ sO (dC (.int 300))) (aD (aG cY (aB 3) (aG bV (aB 5) (dC (.int 6)))) aI))) (aJ 7))
 (sSeq (bF [] (bZ qV (aD (dC (.int 300)) (aD (aG bO (aB 3) (aG bV (aG gB (aB 5) (dC (.int 6))) (dC (.int 6)))) aI))) (aJ 8))
 (bM [] (cN (aD (dC (.str "apart")) (aD (aG bO (aB 4) (eO (aD (aQ (aB 7)) (aD (aQ (aB 8)) aI)))) (aD (aQ (aB 2)) (aD (cN (aD (aQ (aB 7)) (aD (aQ (aB 8)) aI))) aI)))))))))))))
def oI:List T->Res T:=λts=>bP (nT (cG 10 ts))
def mU:Fr->bU:=
 (sSeq (bF [] (bZ eJ (aD (aG aY (aB 1) (dC (.int 2))) aI)) (aJ 4))
 (sSeq (bF [] (aG cY (aG aY (aB 1) (dC (.int 1))) (aG aY (aB 1) (dC (.int 0)))) (aJ 5))
 (sSeq (bF [] (eO aI) (aJ 6))
 (sSeq (kP (iD uO (aB 0)) (aJ 7) (sSeq (bF [] (bJ 2 nN (aD (aB 7) (aD (dC (.int 6)) aI))) (aJ 8))
 (sSeq (bF [] (aG bV (aG aY (aB 8) (dC (.int 0))) (aB 4)) (aJ 9))
 (sSeq (bF [] (bZ gS (aD (aB 3) aI)) (aJ 10))
 (sSeq (cW (tV (kQ (aB 2)) (bK (aG fN (aG bV (aG aY (aB 8) (dC (.int 1))) (dC (.int 3))) (dC (.int 0))))) (bF [] (dY [12] (iF pJ (aD (aB 4) aI)) (aJ 12) cM (aG bO (aG aY (aB 1) (dC (.int 0))) (aG bV (aG bO (aG aY (aB 8) (dC (.int 4))) (aG mI (aG mI (dC (.int 7)) (aG aY (aB 8) (dC (.int 5)))) (aB 12))) (aG bO (aB 5) (dC (.int 1)))))) (aJ 10)) bX)
 (sSeq (bF [] (aG bV (aG bO (aG bO (aB 9) (dC (.int 1))) (aG bV (aG gB (aG aY (aB 8) (dC (.int 1))) (dC (.int 3))) (bZ uD (aD (dC (.int 1)) (aD (aG cY (aB 4) (dC (.int 1))) aI))))) (aB 4)) (aJ 11))
 (cW (tV (kQ (aB 2)) (bK (aG fN (aG bV (aG aY (aB 8) (dC (.int 5))) (dC (.int 8))) (dC (.int 5))))) (lE 6 [] dQ (bJ 4 rB (aD (aB 8) (aD (aB 1) (aD (aB 9) (aD (aB 11) aI)))))) (cW (zL (bK (aG fN (aB 4) (dC (.int 1)))) (bK (aG ltT (aG bV (aG aY (aB 8) (dC (.int 2))) (dC (.int 5))) (dC (.int 2))))) (lE 6 [] dQ (bJ 4 nV (aD (aG aY (aB 8) (dC (.int 3))) (aD (aB 1) (aD (aB 9) (aD (aG aY (aB 10) (aB 9)) aI)))))) (lE 6 [] dQ (bJ 4 oI (aD (aG aY (aB 8) (dC (.int 3))) (aD (aB 1) (aD (cN (aD (aQ (aB 9)) (aD (aQ (aB 11)) aI))) (aD (aG cY (aG aY (aB 10) (aB 9)) (aG aY (aB 10) (aB 11))) aI))))))))))))))
 (bM [6] (aB 6))))))
def mQ:List T->Res T:=λts=>bP (mU (cG 13 ts))
def oY:Fr->bU:=
 (bM [] (pV (bZ lX (aD (aB 0) (aD (dC (.ty "int")) aI))) (au8 (bZ lX (aD (aB 0) (aD (dC (.ty "bool")) aI))))))
def jC:List T->Res T:=λts=>bP (oY (cG 1 ts))
def kU:Fr->bU:=
 (bM [] (pV (bJ 1 jC (aD (aB 0) aI)) (oK oH oH (aB 1) (aB 0) (aB 2))))
def cR:List T->Res T:=λts=>bP (kU (cG 3 ts))
def pQ:Fr->bU:=
 (sSeq (cW (kR (kQ (bJ 3 cR (aD (aB 0) (aD (eZ sO (dC (.int 3000))) (aD (dC (.int 3000)) aI)))))) (bM [] (dC (.bl false))) bX)
 (sSeq (cW (kR (kQ (bJ 3 cR (aD (aB 1) (aD (eZ sO (dC (.int 3000))) (aD (dC (.int 3000)) aI)))))) (bM [] (dC (.bl false))) bX)
 (bM [] (oK oH oH (dC (.int 0)) (aG cY (aB 1) (aB 0)) (dC (.int 300))))))
def pS:List T->Res T:=λts=>bP (pQ (cG 2 ts))
def oP:Fr->bU:=
 (bM [] (pV (oK oH oH (dC (.int 1)) (bZ eJ (aD (aB 0) aI)) (aB 2)) (bZ (mX false) (aD (dY [3] (iD jP (aB 0)) (aJ 3) cM (aG (zU false) (aB 3) (aB 1))) aI))))
def nY:List T->Res T:=λts=>bP (oP (cG 4 ts))
def tK:Fr->bU:=
 (bM [] (bJ 3 nY (aD (aB 0) (aD (dC (.str "abcdefghijklmnopqrstuvwxyz")) (aD (dC (.int 8)) aI)))))
def qK:List T->Res T:=λts=>bP (tK (cG 1 ts))
def pU:Fr->bU:=
 (sSeq (cW (kR (bK (oK oH oH (aB 1) (bZ eJ (aD (aB 0) aI)) (aB 2)))) (bM [] (dC (.bl false))) bX)
 (bM [] (pV (bZ (mX false) (aD (dY [3] (iD jP (aB 0)) (aJ 3) cM (bJ 1 qK (aD (aB 3) aI))) aI)) (aG fN (bZ uX (aD (aB 0) aI)) (bZ eJ (aD (aB 0) aI))))))
def kG:List T->Res T:=λts=>bP (pU (cG 4 ts))
def rQ:Fr->bU:=
 (sSeq (cW (kR (bK (oK oH oH (dC (.int 1)) (bZ eJ (aD (aB 0) aI)) (dC (.int 60))))) (bM [] (dC (.bl false))) bX)
 (sSeq (cW (kR (kQ (bZ (mX false) (aD (dY [1] (iD jP (aB 0)) (aJ 1) cM (bJ 3 cR (aD (aB 1) (aD (dC (.int 0)) (aD (dC (.int 1000000)) aI))))) aI)))) (bM [] (dC (.bl false))) bX)
 (bM [] (bZ (mX false) (aD (dY [2] (iF bn5 (aD (dC (.int 1)) (aD (bZ eJ (aD (aB 0) aI)) aI))) (aJ 2) cM (aG oH (aG aY (aB 0) (aB 2)) (aG aY (aB 0) (aG cY (aB 2) (dC (.int 1)))))) aI)))))
def nX:List T->Res T:=λts=>bP (rQ (cG 3 ts))
def rN:Fr->bU:=
 (sSeq (cW (kR (kQ (bJ 3 kG (aD (dY [1,2] (iD jP (aB 0)) (eR (bE (aJ 1) (bE (aJ 2) eU))) cM (aQ (aB 1))) (aD (dC (.int 0)) (aD (dC (.int 6)) aI)))))) (bM [] (dC (.bl false))) bX)
 (bM [] (bZ (mX false) (aD (dY [1,2] (iD jP (aB 0)) (eR (bE (aJ 1) (bE (aJ 2) eU))) cM (bJ 1 nX (aD (aB 2) aI))) aI))))
def rO:List T->Res T:=λts=>bP (rN (cG 3 ts))
def rJ:Fr->bU:=
 (bM [] (pV (bJ 3 cR (aD (aB 0) (aD (eZ sO (dC (.int 4000))) (aD (dC (.int 4000)) aI)))) (bJ 3 cR (aD (aB 1) (aD (dC (.int 1)) (aD (dC (.int 100)) aI))))))
def nZ:List T->Res T:=λts=>bP (rJ (cG 2 ts))
def oG:Fr->bU:=
 (sSeq (cW (kR (kQ (bJ 3 kG (aD (dY [1,2,3] (iD jP (aB 0)) (eR (bE (aJ 1) (bE (aJ 2) (bE (aJ 3) eU)))) cM (aQ (aB 1))) (aD (dC (.int 0)) (aD (dC (.int 8)) aI)))))) (bM [] (dC (.bl false))) bX)
 (bM [] (bZ (mX false) (aD (dY [1,2,3] (iD jP (aB 0)) (eR (bE (aJ 1) (bE (aJ 2) (bE (aJ 3) eU)))) cM (bJ 2 nZ (aD (aB 2) (aD (aB 3) aI)))) aI))))
def oQ:List T->Res T:=λts=>bP (oG (cG 4 ts))
def jH:Fr->bU:=
 (sSeq (cW (kR (kQ (bJ 2 pS (aD (aB 1) (aD (aB 2) aI))))) mT bX)
 (sSeq (cW (kR (kQ (bJ 3 kG (aD (aB 3) (aD (dC (.int 1)) (aD (dC (.int 8)) aI)))))) mT bX)
 (sSeq (cW (kR (kQ (bJ 1 rO (aD (aB 4) aI)))) mT bX)
 (sSeq (cW (kR (kQ (bJ 1 oQ (aD (aB 5) aI)))) mT bX)
 (sSeq (qU 0 [] ["Archive"] "first" (aQ (aB 1)) dQ)
 (sSeq (qU 0 [] ["Archive"] "present" (aQ (aB 2)) dQ)
 (sSeq (qU 0 [] ["Archive"] "letters" (bZ gS (aD (aB 3) aI)) dQ)
 (sSeq (qU 0 [] ["Archive"] "inks" (dY [6,7] (iD jP (aB 4)) (eR (bE (aJ 6) (bE (aJ 7) eU))) cM (cN (aD (aQ (aB 6)) (aD (bZ gS (aD (aB 7) aI)) aI)))) dQ)
 (qU 0 [] ["Archive"] "reigns" (dY [6,8,9] (iD jP (aB 5)) (eR (bE (aJ 6) (bE (aJ 8) (bE (aJ 9) eU)))) cM (cN (aD (aQ (aB 6)) (aD (aQ (aB 8)) (aD (aQ (aB 9)) aI))))) dQ)))))))))
def oE:List T->Res T:=λts=>iK (jH (cG 10 (.ins true "Archive" [] []::ts)))
def mR:Fr->bU:=
 (sSeq (bF [] (dY [2,3] (iD jP (aG aY (aB 0) (dC (.int 3)))) (eR (bE (aJ 2) (bE (aJ 3) eU))) cM (cN (aD (aQ (aB 2)) (aD (bZ gS (aD (aB 3) aI)) aI)))) (aJ 1))
 (bM [] (bJ 5 oE (aD (aG aY (aB 0) (dC (.int 0))) (aD (aG aY (aB 0) (dC (.int 1))) (aD (bZ gS (aD (aG aY (aB 0) (dC (.int 2))) aI)) (aD (aB 1) (aD (bZ gS (aD (aG aY (aB 0) (dC (.int 4))) aI)) aI))))))))
def mV:List T->Res T:=λts=>bP (mR (cG 4 ts))
def nE:Fr->bU:=
 (sSeq (cW (bK (aG fN (aB 1) (dC (.str "letter")))) (bM [] (aG (zU false) (aB 2) (eZ (eS ["Archive"] "letters") (aB 0)))) bX)
 (sSeq (cW (bK (aG fN (aB 1) (dC (.str "ink")))) (bM [] (aG (zU false) (aB 2) (dY [3] (iD jP (eZ (eS ["Archive"] "inks") (aB 0))) (aJ 3) cM (aQ (aG aY (aB 3) (dC (.int 0))))))) bX)
 (sSeq (cW (bK (aG fN (aB 1) (dC (.str "reign")))) (bM [] (aG (zU false) (aB 2) (dY [4] (iD jP (eZ (eS ["Archive"] "reigns") (aB 0))) (aJ 4) cM (aQ (aG aY (aB 4) (dC (.int 0))))))) bX)
 (bM [] (bJ 3 cR (aD (aB 2) (aD (aG aY (eZ (vE kt_NUMBERS) (aB 1)) (dC (.int 0))) (aD (aG aY (eZ (vE kt_NUMBERS) (aB 1)) (dC (.int 1))) aI))))))))
def fO:List T->Res T:=λts=>bP (nE (cG 5 ts))
def tP:Fr->bU:=
 (sSeq (cW (zL (bK (eZ (cv3 true kt_PARTS) (aB 1))) (bK (aG wM (bZ eJ (aD (aB 2) aI)) (bZ eJ (aD (eZ (vE kt_PARTS) (aB 1)) aI))))) (bM [] (dC (.bl false))) bX)
 (bM [] (bZ (mX false) (aD (dY [3,4] (iF (al9 false) (aD (eZ (vE kt_PARTS) (aB 1)) (aD (aB 2) aI))) (eR (bE (aJ 3) (bE (aJ 4) eU))) cM (bJ 3 fO (aD (aB 0) (aD (aB 3) (aD (aB 4) aI))))) aI))))
def qG:List T->Res T:=λts=>bP (tP (cG 5 ts))
def jA:Fr->bU:=
 (sSeq (kP (iD uO (eZ (eS ["Archive"] "inks") (aB 0))) (eR (bE (aJ 2) (bE (aJ 3) eU))) (cW (bK (aG fN (aB 2) (aB 1))) (bM [] (bZ gS (aD (aB 3) aI))) bX))
 (bM [] (dC .non)))
def eY:List T->Res T:=λts=>bP (jA (cG 4 ts))
def tG:Fr->bU:=
 (sSeq (bF [] (aG cY (bZ eJ (aD (aB 0) aI)) (dC (.int 1))) (aJ 4))
 (sSeq (bF [] (dY [7] (iF pJ (aD (aG bO (bZ qV (aD (aB 4) (aD (aB 3) aI))) (dC (.int 1))) aI)) (aJ 7) (bK (aG oH (bZ af0 (aD (aG cY (aG aY (aB 0) (aB 7)) (aB 1)) aI)) (aB 2))) (aQ (aB 7))) (aJ 5))
 (sSeq (cW (bK (aG fN (bZ eJ (aD (aB 5) aI)) (dC (.int 0)))) (bM [] (dC .non)) bX)
 (sSeq (bF [] (aQ (aG aY (aB 5) (aG cY (bZ eJ (aD (aB 5) aI)) (dC (.int 1))))) (aJ 6))
 (bM [] (cN (aD (aQ (aG aY (aB 5) (dC (.int 0)))) (aD (dIf (bK (aG fN (aB 6) (aB 4))) (aQ (aB 3)) (aQ (aB 6))) aI))))))))
def qF:List T->Res T:=λts=>bP (tG (cG 8 ts))
def vF:Fr->bU:=
 (bM [] (dBM bf1 vV (dC (.str " ")) (aD (dY [1] (iD jP (aB 0)) (aJ 1) cM (bZ tJ (aD (aB 1) aI))) aI)))
def vK:List T->Res T:=λts=>bP (vF (cG 2 ts))
def bQ:Fr->bU:=
 (sSeq (bF [] (dY [7,8] (iF (al9 false) (aD (aB 3) (aD (eZ (vE kt_PARTS) (aB 2)) aI))) (eR (bE (aJ 7) (bE (aJ 8) eU))) (bK (aG fN (aB 8) (dC (.str "letter")))) (aQ (aB 7))) (aJ 6))
 (sSeq (qU 0 [] ["Ink","Reign","Under","Between","After","Same","Within","Apart"] "spoken" (dY [9] (iD jP (aB 6)) (aJ 9) cM (dBM ah1 uN (eZ (eS ["Archive"] "letters") (aB 1)) (aD (aB 9) aI))) dQ)
 (sSeq (qU 0 [] ["Ink","Reign","Under","Between","After","Same","Within","Apart"] "low" (aQ (aB 4)) dQ)
 (sSeq (qU 0 [] ["Ink","Reign","Under","Between","After","Same","Within","Apart"] "high" (aQ (aB 5)) dQ)
 (qU 0 [] ["Ink","Reign","Under","Between","After","Same","Within","Apart"] "text" (bJ 1 vK (aD (aG bO (eO (aD (aQ (aB 2)) aI)) (bZ gS (aD (aB 3) aI))) aI)) dQ)))))
noncomputable abbrev tm_table:List (Str×(List T->Res T)):=[("Archive",eY)]
def al0:List T->Res T:=λts=>iK (bQ (cG 10 (.ins true "Ink" [] []::ts)))
def oU:Fr->bU:=
 (sSeq (bF [] (bJ 4 qF (aD (gU 2 "table" tm_table (aB 0) (aD (aG aY (aB 1) (dC (.int 1))) aI)) (aD (aG aY (aB 1) (dC (.int 2))) (aD (aG aY (aB 1) (dC (.int 3))) (aD (aG cY (eZ (eS ["Archive"] "present") (aB 0)) (eZ (eS ["Archive"] "first") (aB 0))) aI))))) (aJ 2))
 (sSeq (cW (bK (aG yA (aB 2) (dC .non))) mT bX)
 (bM [] (bJ 5 al0 (aD (aB 0) (aD (dC (.str "ink")) (aD (aB 1) (aD (aG cY (eZ (eS ["Archive"] "present") (aB 0)) (aG aY (aB 2) (dC (.int 1)))) (aD (aG cY (eZ (eS ["Archive"] "present") (aB 0)) (aG aY (aB 2) (dC (.int 0)))) aI)))))))))
def oT:List T->Res T:=λts=>bP (oU (cG 3 ts))
def lV:Fr->bU:=
 (sSeq (kP (iD uO (eZ (eS ["Archive"] "reigns") (aB 0))) (aJ 2) (cW (bK (aG fN (aG aY (aB 2) (dC (.int 0))) (aB 1))) (bM [] (aQ (aB 2))) bX))
 (bM [] (dC .non)))
def jI:List T->Res T:=λts=>bP (lV (cG 3 ts))
def pC:Fr->bU:=
 (sSeq (cW (kR (kQ (bJ 3 cR (aD (aB 2) (aD (dC (.int 1)) (aD (aB 1) aI)))))) (bM [] (dC .non)) bX)
 (bM [] (aG cY (aG bO (aB 0) (aB 2)) (dC (.int 1)))))
def lC:List T->Res T:=λts=>bP (pC (cG 3 ts))
def wE:List T->Res T:=λts=>iK (bQ (cG 10 (.ins true "Reign" [] []::ts)))
def mC:Fr->bU:=
 (sSeq (bF [] (bJ 2 jI (aD (aB 0) (aD (aG aY (aB 1) (dC (.int 1))) aI))) (aJ 2))
 (sSeq (bF [] (bJ 3 lC (aD (aG aY (aB 2) (dC (.int 1))) (aD (aG aY (aB 2) (dC (.int 2))) (aD (aG aY (aB 1) (dC (.int 2))) aI)))) (aJ 3))
 (sSeq (cW (bK (aG yA (aB 3) (dC .non))) mT bX)
 (bM [] (bJ 5 wE (aD (aB 0) (aD (dC (.str "reign")) (aD (aB 1) (aD (aB 3) (aD (aB 3) aI))))))))))
def lP:List T->Res T:=λts=>bP (mC (cG 4 ts))
def vG:List T->Res T:=λts=>iK (bQ (cG 10 (.ins true "Under" [] []::ts)))
def lN:Fr->bU:=
 (sSeq (bF [] (bJ 2 jI (aD (aB 0) (aD (aG aY (aB 1) (dC (.int 1))) aI))) (aJ 2))
 (bM [] (bJ 5 vG (aD (aB 0) (aD (dC (.str "under")) (aD (aB 1) (aD (aG aY (aB 2) (dC (.int 1))) (aD (bJ 3 lC (aD (aG aY (aB 2) (dC (.int 1))) (aD (aG aY (aB 2) (dC (.int 2))) (aD (aG aY (aB 2) (dC (.int 2))) aI)))) aI))))))))
def mB:List T->Res T:=λts=>bP (lN (cG 3 ts))
def sK:List T->Res T:=λts=>iK (bQ (cG 10 (.ins true "Between" [] []::ts)))
def jY:Fr->bU:=
 (sSeq (cW (bK (aG gtT (aG aY (aB 1) (dC (.int 1))) (aG aY (aB 1) (dC (.int 2))))) mT bX)
 (bM [] (bJ 5 sK (aD (aB 0) (aD (dC (.str "between")) (aD (aB 1) (aD (aG aY (aB 1) (dC (.int 1))) (aD (aG aY (aB 1) (dC (.int 2))) aI))))))))
def jX:List T->Res T:=λts=>bP (jY (cG 2 ts))
def vZ:List T->Res T:=λts=>iK (bQ (cG 10 (.ins true "After" [] []::ts)))
def lU:Fr->bU:=
 (bM [] (bJ 5 vZ (aD (aB 0) (aD (dC (.str "after")) (aD (aB 1) (aD (dC (.int 1)) (aD (dC .non) aI)))))))
def lT:List T->Res T:=λts=>bP (lU (cG 2 ts))
def wR:List T->Res T:=λts=>iK (bQ (cG 10 (.ins true "Same" [] []::ts)))
def mW:Fr->bU:=
 (bM [] (bJ 5 wR (aD (aB 0) (aD (dC (.str "same")) (aD (aB 1) (aD (dC (.int 0)) (aD (dC (.int 0)) aI)))))))
def mS:List T->Res T:=λts=>bP (mW (cG 2 ts))
def tS:List T->Res T:=λts=>iK (bQ (cG 10 (.ins true "Within" [] []::ts)))
def kX:Fr->bU:=
 (bM [] (bJ 5 tS (aD (aB 0) (aD (dC (.str "within")) (aD (aB 1) (aD (dC (.int 0)) (aD (aG aY (aB 1) (dC (.int 2))) aI)))))))
def kT:List T->Res T:=λts=>bP (kX (cG 2 ts))
def vS:List T->Res T:=λts=>iK (bQ (cG 10 (.ins true "Apart" [] []::ts)))
def mF:Fr->bU:=
 (sSeq (cW (bK (aG gtT (aG aY (aB 1) (dC (.int 2))) (aG aY (aB 1) (dC (.int 3))))) mT bX)
 (bM [] (bJ 5 vS (aD (aB 0) (aD (dC (.str "apart")) (aD (aB 1) (aD (aG aY (aB 1) (dC (.int 2))) (aD (aG aY (aB 1) (dC (.int 3))) aI))))))))
def mE:List T->Res T:=λts=>bP (mF (cG 2 ts))
noncomputable abbrev tb_MAKERS:List (Str×(List T->Res T)):=[("ink",oT),("reign",lP),("under",mB),("between",jX),("after",lT),("same",mS),("within",kT),("apart",mE)]
def pX:Fr->bU:=
 (sSeq (cW (kR (kQ (bJ 3 qG (aD (aB 0) (aD (aB 1) (aD (aB 2) aI)))))) mT bX)
 (sSeq (cW (tV (bK (aG fN (aG aY (eZ (vE kt_PARTS) (aB 1)) (dC (.int 1))) (dC (.str "letter")))) (bK (aG fN (aG aY (aB 2) (dC (.int 0))) (aG aY (aB 2) (dC (.int 1)))))) mT bX)
 (bM [] (ai2 2 tb_MAKERS (aB 1) (aD (aB 0) (aD (aB 2) aI))))))
def cP:List T->Res T:=λts=>bP (pX (cG 3 ts))
def rP:Fr->bU:=
 (bM [] (dY [2,3,4,5] (iD jP (aB 1)) (eR (bE (aJ 2) (bE (aJ 3) (bE (aJ 4) (bE (aJ 5) eU))))) cM (bJ 3 cP (aD (aB 0) (aD (aB 2) (aD (bZ gS (aD (aB 3) aI)) aI))))))
def rM:List T->Res T:=λts=>bP (rP (cG 6 ts))
def qB:Fr->bU:=
 (sSeq (bF [] (eO aI) (aJ 2))
 (sSeq (kP (iF pJ (aD (bZ eJ (aD (aB 1) aI)) aI)) (aJ 3) (sSeq (bF [] (aQ (aG aY (aG aY (aB 1) (aB 3)) (dC (.int 2)))) (aJ 4))
 (sSeq (bF [] (aQ (aG aY (aG aY (aB 1) (aB 3)) (dC (.int 3)))) (eR (bE (aJ 5) (bE (aJ 6) eU))))
 (sSeq (bF [] (aQ (aG aY (aG bO (aB 4) (cN (aD (dC .non) aI))) (dC (.int 1)))) (aJ 7))
 (sSeq (cW (bK (aG iG (aB 6) (dC .non))) (lE 2 [] dQ (cN (aD (aQ (aB 7)) (aD (aQ (aG aY (aB 4) (dC (.int 0)))) (aD (aQ (aB 6)) (aD (aQ (aB 3)) aI)))))) bX)
 (cW (bK (aG iG (aB 5) (dC .non))) (lE 2 [] dQ (cN (aD (aQ (aG aY (aB 4) (dC (.int 0)))) (aD (aQ (aB 7)) (aD (aG cY (dC (.int 0)) (aB 5)) (aD (aQ (aB 3)) aI)))))) bX))))))
 (sSeq (kP (iF pJ (aD (bZ eJ (aD (aG aY (aB 0) (dC (.int 2))) aI)) aI)) (aJ 8) (sSeq (lE 2 [] dQ (cN (aD (dC .non) (aD (aQ (aB 8)) (aD (aQ (aG aY (aB 0) (dC (.int 1)))) (aD (dC .non) aI))))))
 (lE 2 [] dQ (cN (aD (aQ (aB 8)) (aD (dC .non) (aD (aG cY (dC (.int 0)) (aG aY (aB 0) (dC (.int 0)))) (aD (dC .non) aI))))))))
 (bM [2] (aB 2)))))
def mL:List T->Res T:=λts=>bP (qB (cG 9 ts))
def dD:Fr->bU:=
 (bM [] (aQ (eZ (eS ["Ink","Reign","Under","Between","After","Same","Within","Apart"] "text") (aB 0))))
def aR:List T->Res T:=λts=>bP (dD (cG 1 ts))
def pO:Fr->bU:=
 (sSeq (bF [] (aG bV (aB 0) (aG wA (dC (.int 10)) (dC (.int 12)))) (aJ 0))
 (sSeq (bF [] (bZ gS (aD (aB 2) aI)) (aJ 3))
 (sSeq (bF [] (aG bV (aG gB (aB 0) (dC (.int 8))) (bZ eJ (aD (aB 3) aI))) (aJ 4))
 (sSeq (cW (bK (aG ltT (aG bV (aB 0) (dC (.int 8))) (dC (.int 3)))) (az9 3 [] (aG cY (aG bO (aG aY (aB 3) (aB 4)) (aG bV (aG gB (aB 0) (dC (.int 64))) (dC (.int 7)))) (dC (.int 3))) dQ (aB 4)) (cW (bK (aG fN (aG bV (aB 0) (dC (.int 8))) (dC (.int 3)))) (sSeq (bF [] (aG cY (aG aY (aB 1) (dC (.int 0))) (dC (.int 2))) (aJ 5))
 (sSeq (bF [] (aG bO (aG cY (aG aY (aB 1) (dC (.int 1))) (aB 5)) (dC (.int 3))) (aJ 6))
 (az9 3 [] (aG bO (aB 5) (aG bV (aG gB (aB 0) (dC (.int 64))) (aB 6))) dQ (aB 4)))) (cW (bK (aG fN (aG bV (aB 0) (dC (.int 8))) (dC (.int 4)))) (bF [] (aG aw8 (eO (aD (aQ (aG aY (eO (aD (aQ (aG aY (aB 1) (dC (.int 0)))) (aD (aQ (aG aY (aB 1) (dC (.int 1)))) aI))) (aG bV (aG gB (aB 0) (dC (.int 64))) (dC (.int 2))))) aI)) (bZ eJ (aD (aB 3) aI))) (aJ 3)) (cW (bK (aG fN (aG bV (aB 0) (dC (.int 8))) (dC (.int 5)))) (bF [] (aG bO (aB 3) (eO (aD (aQ (aG aY (aB 3) (aB 4))) aI))) (aJ 3)) (cW (bK (aG fN (aG bV (aB 0) (dC (.int 8))) (dC (.int 6)))) (ai0 3 [] bd6 dQ (aD (aQ (aB 4)) aI)) bX)))))
 (bM [3] (aB 3))))))
def qD:List T->Res T:=λts=>bP (pO (cG 7 ts))
def dA:Fr->bU:=
 (bM [] (bZ gS (aD (eZ (eS ["Ink","Reign","Under","Between","After","Same","Within","Apart"] "spoken") (aB 0)) aI)))
def aU:List T->Res T:=λts=>bP (dA (cG 1 ts))
def cT:Fr->bU:=
 (bM [] (cN (aD (aQ (eZ (eS ["Ink","Reign","Under","Between","After","Same","Within","Apart"] "low") (aB 0))) (aD (aQ (eZ (eS ["Ink","Reign","Under","Between","After","Same","Within","Apart"] "high") (aB 0))) aI))))
def aP:List T->Res T:=λts=>bP (cT (cG 1 ts))
noncomputable abbrev tm_about:List (Str×(List T->Res T)):=[("Ink",aU),("Reign",aU),("Under",aU),("Between",aU),("After",aU),("Same",aU),("Within",aU),("Apart",aU)]
noncomputable abbrev tm_bounds:List (Str×(List T->Res T)):=[("Ink",aP),("Reign",aP),("Under",aP),("Between",aP),("After",aP),("Same",aP),("Within",aP),("Apart",aP)]
def lW:Fr->bU:=
 (sSeq (bF [] (gU 1 "about" tm_about (aB 0) aI) (aJ 2))
 (sSeq (bF [] (gU 1 "bounds" tm_bounds (aB 0) aI) (aJ 3))
 (sSeq (bF [] (dIf (bK (aG fN (bZ eJ (aD (aB 2) aI)) (dC (.int 2)))) (aQ (aG aY (aB 2) (dC (.int 1)))) (dC .non)) (aJ 4))
 (sSeq (bF [] (eO aI) (aJ 5))
 (sSeq (cW (bK (aG iG (aG aY (aB 3) (dC (.int 1))) (dC .non))) (lE 5 [] dQ (cN (aD (aQ (aB 4)) (aD (aQ (aG aY (aB 2) (dC (.int 0)))) (aD (aQ (aG aY (aB 3) (dC (.int 1)))) (aD (aQ (aB 1)) aI)))))) bX)
 (sSeq (cW (bK (aG iG (aG aY (aB 3) (dC (.int 0))) (dC .non))) (lE 5 [] dQ (cN (aD (aQ (aG aY (aB 2) (dC (.int 0)))) (aD (aQ (aB 4)) (aD (aG cY (dC (.int 0)) (aG aY (aB 3) (dC (.int 0)))) (aD (aQ (aB 1)) aI)))))) bX)
 (bM [5] (aB 5))))))))
def lR:List T->Res T:=λts=>bP (lW (cG 6 ts))
def oX:Fr->bU:=
 (bM [] (eO (aD (cN (aD (dC .non) (aD (aQ (aB 1)) (aD (aQ (eZ (eS ["Archive"] "present") (aB 0))) (aD (dC .non) aI))))) (aD (cN (aD (aQ (aB 1)) (aD (dC .non) (aD (aG cY (dC (.int 0)) (eZ (eS ["Archive"] "first") (aB 0))) (aD (dC .non) aI))))) aI))))
def oB:List T->Res T:=λts=>bP (oX (cG 2 ts))
def rG:Fr->bU:=
 (sSeq (bF [] (eO aI) (aJ 2))
 (sSeq (kP (iF (bt6 true) (aD (aB 1) aI)) (eR (bE (aJ 3) (bE (aJ 4) eU))) (ai0 2 [] bo0 dQ (aD (bJ 2 lR (aD (aB 4) (aD (aB 3) aI))) aI)))
 (sSeq (kP (iF pJ (aD (bZ eJ (aD (eZ (eS ["Archive"] "letters") (aB 0)) aI)) aI)) (aJ 5) (ai0 2 [] bo0 dQ (aD (bJ 2 oB (aD (aB 0) (aD (aB 5) aI))) aI)))
 (bM [2] (aB 2)))))
def qX:List T->Res T:=λts=>bP (rG (cG 6 ts))
def oR:Fr->bU:=
 (bM [] (dIf (bK (aG yA (aB 0) (dC .non))) (aQ (aB 1)) (aQ (aB 0))))
def iZ:List T->Res T:=λts=>bP (oR (cG 2 ts))
def tH:Fr->bU:=
 (sSeq (bF [] (aG cY (bZ eJ (aD (aB 1) aI)) (dC (.int 1))) (aJ 2))
 (bM [] (aG oH (aG aY (aB 1) (bJ 2 iZ (aD (aG aY (aB 0) (dC (.int 1))) (aD (aB 2) aI)))) (aG bO (aG aY (aB 1) (bJ 2 iZ (aD (aG aY (aB 0) (dC (.int 0))) (aD (aB 2) aI)))) (aG aY (aB 0) (dC (.int 2)))))))
def nK:List T->Res T:=λts=>bP (tH (cG 3 ts))
def yP:Fr->bU:=
 (sSeq (cW (zL (bK (aG wM (bZ eJ (aD (aB 2) aI)) (bZ eJ (aD (eZ (eS ["Archive"] "letters") (aB 0)) aI)))) (kR (kQ (bZ (mX false) (aD (dY [4] (iD jP (aB 2)) (aJ 4) cM (bJ 1 jC (aD (aB 4) aI))) aI))))) (bM [] (dC (.bl false))) bX)
 (sSeq (bF [] (aG bO (aB 2) (eO (aD (dC (.int 0)) aI))) (aJ 3))
 (bM [] (bZ (mX false) (aD (dY [5] (iD jP (bJ 2 qX (aD (aB 0) (aD (aB 1) aI)))) (aJ 5) cM (bJ 2 nK (aD (aB 5) (aD (aB 3) aI)))) aI)))))
def uR:List T->Res T:=λts=>bP (yP (cG 6 ts))
def pW:Fr->bU:=
 (sSeq (kP (iD uO (aB 1)) (eR (bE (aJ 2) (bE (aJ 3) (bE (aJ 4) (bE (aJ 5) eU))))) (sSeq (bF [] (dC (.int 0)) (aJ 6))
 (sSeq (bF [] (dC (.int 0)) (aJ 7))
 (sSeq (cW (bK (aG iG (aB 2) (dC .non))) (bF [] (aQ (aG aY (aB 0) (aB 2))) (aJ 6)) bX)
 (sSeq (cW (bK (aG iG (aB 3) (dC .non))) (bF [] (aQ (aG aY (aB 0) (aB 3))) (aJ 7)) bX)
 (cW (bK (aG gtT (aB 7) (aG bO (aB 6) (aB 4)))) (bM [] (dC (.bl false))) bX))))))
 (bM [] (dC (.bl true))))
def jF:List T->Res T:=λts=>bP (pW (cG 8 ts))
noncomputable abbrev tm_shown:List (Str×(List T->Res T)):=[("Ink",aR),("Reign",aR),("Under",aR),("Between",aR),("After",aR),("Same",aR),("Within",aR),("Apart",aR)]
def at8:Fr->bU:=
 (sSeq (bF [] (bJ 2 pR (aD (aB 0) (aD (dC (.int 8)) aI))) (aJ 1))
 (sSeq (bF [] (sU oC (aB 0) (iS (dC (.int 2))) (iS (dC (.int 18)))) (aJ 2))
 (sSeq (bF [] (bJ 2 oM (aD (aG gB (bJ 2 iA (aD (aB 0) (aD (dC (.int 1)) aI))) (dC (.int 32))) (aD (aB 1) aI))) (aJ 3))
 (sSeq (bF [] (aa3 (bJ 4 mQ (aD (aB 2) (aD (aB 1) (aD (aG fN (aG bV (bJ 2 iA (aD (aB 0) (aD (dC (.int 1)) aI))) (dC (.int 2))) (dC (.int 1))) (aD (aB 3) aI)))))) (aJ 4))
 (sSeq (bF [] (bJ 1 mV (aD (aB 1) aI)) (aJ 5))
 (sSeq (bF [] (aa3 (bJ 2 rM (aD (aB 5) (aD (aB 4) aI)))) (aJ 6))
 (sSeq (bF [] (bJ 2 mL (aD (aB 1) (aD (aB 4) aI))) (aJ 7))
 (sSeq (bF [] (dY [18] (iD jP (aB 6)) (aJ 18) cM (gU 1 "shown" tm_shown (aB 18) aI)) (aJ 8))
 (sSeq (bF [] (aG bV (aG gB (bJ 2 iA (aD (aB 0) (aD (dC (.int 1)) aI))) (dC (.int 2))) (aG bO (bZ eJ (aD (aB 4) aI)) (dC (.int 1)))) (aJ 9))
 (sSeq (bF [] (aG bO (sU oC (aB 6) iL (iS (aB 9))) (sU oC (aB 6) (iS (aG bO (aB 9) (dC (.int 1)))) iL)) (aJ 10))
 (sSeq (bF [] (bJ 2 mL (aD (aB 1) (aD (aG bO (sU oC (aB 4) iL (iS (aB 9))) (sU oC (aB 4) (iS (aG bO (aB 9) (dC (.int 1)))) iL)) aI))) (aJ 11))
 (sSeq (bF [] (bZ eJ (aD (aG aY (aB 1) (dC (.int 2))) aI)) (aJ 12))
 (sSeq (kP (iD uO (bk0 (aG bO (sU oC (aB 0) (iS (dC (.int 18))) (iS (dC (.int 63)))) (eO (aD (dC (.int 7)) (aD (dC (.int 0)) aI)))))) (aJ 13) (sSeq (bF [] (bJ 3 qD (aD (aB 13) (aD (aB 1) (aD (aB 3) aI)))) (aJ 14))
 (sSeq (bF [] (bZ gS (aD (aB 14) aI)) (aJ 15))
 (sSeq (bF [] (bJ 3 uR (aD (aB 5) (aD (aB 6) (aD (aB 15) aI)))) (aJ 16))
 (sSeq (bF [] (pV (aG fN (bZ eJ (aD (aB 14) aI)) (aB 12)) (bJ 2 jF (aD (aB 14) (aD (aB 7) aI)))) (aJ 17))
 (sSeq (cW (zL (kR (kQ (bZ lX (aD (aB 16) (aD (dC (.ty "bool")) aI))))) (zL (bK (aG wM (aB 16) (aB 17))) (bK (aG wM (aB 15) (aB 14))))) (bM [] (dC (.bl false))) bX)
 (cW (bK (aG wM (bJ 3 uR (aD (aB 5) (aD (aB 10) (aD (aB 15) aI)))) (pV (aG fN (bZ eJ (aD (aB 14) aI)) (aB 12)) (bJ 2 jF (aD (aB 14) (aD (aB 11) aI)))))) (bM [] (dC (.bl false))) bX)))))))
 (bM [] (aG fN (dY [18] (iD jP (aB 6)) (aJ 18) cM (gU 1 "shown" tm_shown (aB 18) aI)) (aB 8))))))))))))))))
def ay8:List T->Res T:=λts=>bP (at8 (cG 19 ts))
abbrev az1:Stmt:=dP 67
abbrev ae0:Stmt:=dP 69
abbrev zT:Stmt:=dP 68
abbrev zI:Stmt:=dP 70
abbrev av6:Stmt:=dP 73
abbrev wS:Stmt:=dP 74
abbrev af2:Stmt:=dP 75
abbrev wU:Stmt:=dP 71
abbrev xG:Stmt:=dP 72
abbrev wH:Stmt:=dP 76
abbrev ah2:Stmt:=dP 12
abbrev sZ:Stmt:=dP 13
abbrev zW:Stmt:=dP 36
abbrev xU:Stmt:=dP 14
abbrev ay6:Stmt:=dP 15
abbrev zV:Stmt:=dP 37
abbrev aq1:Stmt:=dP 26
abbrev as1:Stmt:=dP 38
abbrev ax2:Stmt:=dP 28
abbrev xB:Stmt:=dP 39
abbrev jN:Stmt:=rZ (dP 40) 0
abbrev wI:Stmt:=dP 78
abbrev be1:Stmt:=dP 54
abbrev as6:Stmt:=dP 55
abbrev iP:Stmt:=rZ (dP 40) 1
abbrev au6:Stmt:=dP 27
abbrev by0:Stmt:=dP 16
abbrev dI:Stmt:=rZ (dP 44) 0
abbrev xE:Stmt:=dP 56
abbrev uF:Stmt:=dP 53
abbrev xW:Stmt:=dP 29
abbrev uS:Stmt:=dP 57
abbrev uT:Stmt:=dP 58
abbrev sW:Stmt:=dP 59
abbrev uH:Stmt:=dP 60
abbrev wJ:Stmt:=dP 61
abbrev tI:Stmt:=dP 62
abbrev uQ:Stmt:=dP 63
abbrev ab0:Stmt:=dP 65
abbrev ae2:Stmt:=dP 79
abbrev ad0:Stmt:=dP 77
abbrev cZ:Stmt:=rZ (dP 44) 3
abbrev zN:Stmt:=dP 81
abbrev dF:Stmt:=rZ (dP 44) 1
abbrev cQ:Stmt:=rZ (dP 44) 2
abbrev uU:Stmt:=dP 6
abbrev xP:Stmt:=dP 7
abbrev aq2:Stmt:=dP 8
abbrev af1:Stmt:=dP 18
abbrev al6:Stmt:=dP 19
abbrev by3:Stmt:=dP 20
abbrev zR:Stmt:=dP 80
abbrev rD:Stmt:=dP 82
end
structure Txt (w:World) (K:PySem.W.Frag) (cn:Str->Option Addr) (mg:Str->Option Value) (c_Archive c_Ink c_Reign c_Under c_Between c_After c_Same c_Within c_Apart:Addr) (nR sB gH:List (Str×Value)):Prop where
 be7:mg "abs"=none
 rS:mg "all"=none
 cl0:mg "bool"=none
 cg5:mg "divmod"=none
 bb3:mg "enumerate"=none
 dw8:mg "int"=none
 sX:mg "isinstance"=none
 dU:mg "len"=none
 kF:mg "list"=none
 az3:mg "max"=none
 wF:mg "min"=none
 jQ:mg "range"=none
 du8:mg "set"=none
 dv8:mg "str"=none
 cl6:mg "zip"=none
 g_DARKEST:uV mg "DARKEST" (.int 1000000)
 g_FARTHEST_END:uV mg "FARTHEST_END" (.int 3000)
 g_FARTHEST_YEAR:uV mg "FARTHEST_YEAR" (.int 4000)
 g_LETTERS:uV mg "LETTERS" (.str "abcdefghijklmnopqrstuvwxyz")
 g_LONGEST_REIGN:uV mg "LONGEST_REIGN" (.int 100)
 g_LONGEST_SPAN:uV mg "LONGEST_SPAN" (.int 300)
 g_MOST_AGES:uV mg "MOST_AGES" (.int 60)
 g_MOST_INKS:uV mg "MOST_INKS" (.int 6)
 g_MOST_LETTERS_archives:uV mg "MOST_LETTERS_archives" (.int 8)
 g_MOST_LETTERS_words:uV mg "MOST_LETTERS_words" (.int 8)
 g_MOST_REIGNS:uV mg "MOST_REIGNS" (.int 8)
 d_NUMBERS:vA w K mg "NUMBERS" nR
 g_NUMBERS:GD K cn kt_NUMBERS nR
 d_PARTS:vA w K mg "PARTS" sB
 g_PARTS:GD K cn kt_PARTS sB
 kE:cn "Archive"=some c_Archive
 mG:Cls K c_Archive
 qR:cn "Ink"=some c_Ink
 sY:Cls K c_Ink
 lL:cn "Reign"=some c_Reign
 nF:Cls K c_Reign
 lK:cn "Under"=some c_Under
 nH:Cls K c_Under
 jD:cn "Between"=some c_Between
 kD:Cls K c_Between
 lJ:cn "After"=some c_After
 nI:Cls K c_After
 nQ:cn "Same"=some c_Same
 pN:Cls K c_Same
 jU:cn "Within"=some c_Within
 lM:Cls K c_Within
 lI:cn "Apart"=some c_Apart
 nG:Cls K c_Apart
 ac1:NoAttr K c_Archive "first"
 bk3:NoAttr K c_Ink "high"
 ae8:NoAttr K c_Reign "high"
 aa8:NoAttr K c_Under "high"
 av3:NoAttr K c_Between "high"
 ad8:NoAttr K c_After "high"
 bh2:NoAttr K c_Same "high"
 ak5:NoAttr K c_Within "high"
 al8:NoAttr K c_Apart "high"
 ak3:NoAttr K c_Archive "inks"
 yL:NoAttr K c_Archive "letters"
 bd7:NoAttr K c_Ink "low"
 bx1:NoAttr K c_Reign "low"
 bi2:NoAttr K c_Under "low"
 aa6:NoAttr K c_Between "low"
 bg2:NoAttr K c_After "low"
 bg3:NoAttr K c_Same "low"
 aq8:NoAttr K c_Within "low"
 by1:NoAttr K c_Apart "low"
 yK:NoAttr K c_Archive "present"
 zH:NoAttr K c_Archive "reigns"
 ab8:NoAttr K c_Ink "spoken"
 as3:NoAttr K c_Reign "spoken"
 ao3:NoAttr K c_Under "spoken"
 zF:NoAttr K c_Between "spoken"
 ay3:NoAttr K c_After "spoken"
 ay5:NoAttr K c_Same "spoken"
 ad1:NoAttr K c_Within "spoken"
 ar3:NoAttr K c_Apart "spoken"
 bc3:NoAttr K c_Ink "text"
 am8:NoAttr K c_Reign "text"
 ag8:NoAttr K c_Under "text"
 aq3:NoAttr K c_Between "text"
 an8:NoAttr K c_After "text"
 bu1:NoAttr K c_Same "text"
 aq5:NoAttr K c_Within "text"
 ai8:NoAttr K c_Apart "text"
 bf7:eF K mg "_law_cell" az1
 be3:eF K mg "_law_names" ae0
 bi3:eF K mg "_law_whirl" zT
 bz2:eF K mg "_law_frame" zI
 co0:eF K mg "_law_row" av6
 ba2:eF K mg "_law_hidden" wS
 bb7:eF K mg "_law_free" af2
 bf2:eF K mg "_law_of_one" wU
 bv1:eF K mg "_law_of_two" xG
 ah8:eF K mg "_law_sayings" wH
 bi7:eF K mg "is_whole" ah2
 ap3:eF K mg "is_whole_from" sZ
 bl3:eF K mg "are_years" zW
 bw1:eF K mg "is_made_of" xU
 cr0:eF K mg "is_name" ay6
 bd3:eF K mg "are_names" zV
 bh7:eF K mg "is_table" aq1
 ba7:eF K mg "are_inks" as1
 bx6:eF K mg "is_reign" ax2
 be2:eF K mg "are_reigns" xB
 aj8:eF K mg "_law_archive" wI
 cc5:eF K mg "is_due" be1
 cq0:eF K mg "are_due" as6
 ck0:eF K mg "ages_of" au6
 ce5:eF K mg "spaced" by0
 bz1:eF K mg "ink_saying" xE
 am5:eF K mg "reign_called" uF
 bc2:eF K mg "reign_year" xW
 an5:eF K mg "reign_saying" uS
 aw5:eF K mg "under_saying" uT
 aw0:eF K mg "between_saying" sW
 ax5:eF K mg "after_saying" uH
 ao8:eF K mg "same_saying" wJ
 ag3:eF K mg "within_saying" tI
 ar5:eF K mg "apart_saying" uQ
 bj3:eF K mg "saying_of" ab0
 by6:eF K mg "_law_heap" ae2
 ba3:eF K mg "_law_steps" ad0
 bh3:eF K mg "_law_years" zN
 at5:eF K mg "saying_steps" uU
 bb2:eF K mg "span_steps" xP
 bc7:eF K mg "steps_of" aq2
 bw6:eF K mg "place_of" af1
 cp0:eF K mg "is_kept" al6
 da0:eF K mg "holds" by3
 bf3:eF K mg "_law_holds" zR
 bg7:sJ K mg "Archive" c_Archive "Archive.__init__" jN
 dd5:sJ K mg "Ink" c_Ink "Saying.__init__" dI
 cb5:sJ K mg "Reign" c_Reign "Saying.__init__" dI
 cf5:sJ K mg "Under" c_Under "Saying.__init__" dI
 bz6:sJ K mg "Between" c_Between "Saying.__init__" dI
 cd5:sJ K mg "After" c_After "Saying.__init__" dI
 cz9:sJ K mg "Same" c_Same "Saying.__init__" dI
 cm0:sJ K mg "Within" c_Within "Saying.__init__" dI
 ca5:sJ K mg "Apart" c_Apart "Saying.__init__" dI
 aa1:gF K c_Archive "table" "Archive.table" iP
 bd2:gF K c_Ink "about" "Saying.about" dF
 ac6:gF K c_Reign "about" "Saying.about" dF
 ao5:gF K c_Under "about" "Saying.about" dF
 ab1:gF K c_Between "about" "Saying.about" dF
 as5:gF K c_After "about" "Saying.about" dF
 ap8:gF K c_Same "about" "Saying.about" dF
 au3:gF K c_Within "about" "Saying.about" dF
 al5:gF K c_Apart "about" "Saying.about" dF
 ac8:gF K c_Ink "bounds" "Saying.bounds" cQ
 al3:gF K c_Reign "bounds" "Saying.bounds" cQ
 ax3:gF K c_Under "bounds" "Saying.bounds" cQ
 zG:gF K c_Between "bounds" "Saying.bounds" cQ
 am3:gF K c_After "bounds" "Saying.bounds" cQ
 az5:gF K c_Same "bounds" "Saying.bounds" cQ
 ay0:gF K c_Within "bounds" "Saying.bounds" cQ
 ah3:gF K c_Apart "bounds" "Saying.bounds" cQ
 bj2:gF K c_Ink "shown" "Saying.shown" cZ
 au5:gF K c_Reign "shown" "Saying.shown" cZ
 ab6:gF K c_Under "shown" "Saying.shown" cZ
 az0:gF K c_Between "shown" "Saying.shown" cZ
 aj5:gF K c_After "shown" "Saying.shown" cZ
 af8:gF K c_Same "shown" "Saying.shown" cZ
 aw3:gF K c_Within "shown" "Saying.shown" cZ
 av5:gF K c_Apart "shown" "Saying.shown" cZ
 cn0:vA w K mg "MAKERS" gH
 ak8:gH.lookup ("ink":Str)=mg "ink_saying"
 ai3:gH.lookup ("reign":Str)=mg "reign_saying"
 aj3:gH.lookup ("under":Str)=mg "under_saying"
 yZ:gH.lookup ("between":Str)=mg "between_saying"
 at3:gH.lookup ("after":Str)=mg "after_saying"
 ap5:gH.lookup ("same":Str)=mg "same_saying"
 ax0:gH.lookup ("within":Str)=mg "within_saying"
 an3:gH.lookup ("apart":Str)=mg "apart_saying"
section
theorem l1{α:Type}:∀{us:List α},us.length=1->∃a,us=[a]
 |[a],_=>⟨a,rfl⟩
theorem l2{α:Type}:∀{us:List α},us.length=2->∃a b,us=[a,b]
 |[a,b],_=>⟨a,b,rfl⟩
theorem l3{α:Type}:∀{us:List α},us.length=3->∃a b c,us=[a,b,c]
 |[a,b,c],_=>⟨a,b,c,rfl⟩
theorem l4{α:Type}:∀{us:List α},us.length=4->∃a b c d,us=[a,b,c,d]
 |[a,b,c,d],_=>⟨a,b,c,d,rfl⟩
theorem l5{α:Type}:∀{us:List α},us.length=5->∃a b c d e,us=[a,b,c,d,e]
 |[a,b,c,d,e],_=>⟨a,b,c,d,e,rfl⟩
theorem l6{α:Type}:∀{us:List α},us.length=6->∃a b c d e f,us=[a,b,c,d,e,f]
 |[a,b,c,d,e,f],_=>⟨a,b,c,d,e,f,rfl⟩
variable {X : Cx}
theorem px(K:PySem.W.Frag){a b:Expr}{ta tb:TE}{pos:Pos}(ha:PE X a ta)(hb:PE X b tb)(hs:bx3 b:=by exact λ_ _=>rfl)(hK:X.K=K:=by rfl):PE X (.Subscript a b pos) (tOp (rIx K) ta tb):=df6 (ea0 K hK) ha hb hs
theorem pz(i:Nat){x:Str}{e:Expr}{te:TE}{pos pos':Pos}{q:List Str}{c:Scope}(S:bB X.N q c)(he:PE X e te)(hi:X.N[i]?=some x:=by rfl)(hx:Loc X.env.scope x:=by first|exact .inl rfl|exact .inr rfl)(hs:swapsWith e (some (.Name x pos')) pos.line X.env=pure false:=by rfl)(hf:X.fn x=true\/X.env.scope.names.lookup x=some .local:=by first|exact .inl rfl|exact .inr rfl|assumption):PS X (.Assign [.Name x pos'] e pos) (ba1 te (au2 i)):=dr0 S.nd hi hx he hs hf
theorem pn(i:Nat){x:Str}{pos:Pos}{q:List Str}{c:Scope}(S:bB X.N q c)(hi:X.N[i]?=some x:=by rfl)(hx:Loc X.env.scope x:=by first|exact .inl rfl|exact .inr rfl)(hf:X.fn x=true\/X.env.scope.names.lookup x=some .local:=by first|exact .inl rfl|exact .inr rfl|assumption):PG X (.Name x pos) (au2 i):=cd8 S.nd hi hx hf
theorem pf{k n:Nat}{x:Str}{ps:List Str}{sp:Sp}{p pos:Pos}{e:Expr}{es:List Expr}{t:TA}(d:eC X.prog X.w X.K X.mg X.base k x ps sp)(hr:Room n X.A)(ha:PA X (e::es) t)(hk:k<=n:=by decide)(hg:Gl X x:=by rfl)
 (hdb:(x==("__debug__":Str))=false:=by decide)(he:starEach (e::es) X.env=(false,eval e X.env)::starEach es X.env:=by rfl)(hpl:(backTo pos (starEach es X.env)).any (·.1)=false:=by rfl):PE X (.Call (.Name x p) (e::es) [] pos) (cs3 sp t):=de0 d (hr.mono hk) ha hg hdb he hpl
theorem aO{e:Expr}{te:TE}(ha:PE X e te)(hs:starEach [e] X.env=[(false,eval e X.env)]:=by rfl):PA X [e] (yQ te ai5):=aE ha qQ hs
theorem pc{a b:Expr}{ta tb:TE}{pos:Pos}{op:CmpOp}{r:R2}(ho:OpR X (compareOp op) r)(ha:PE X a ta)(hb:PE X b tb)(h:op≠ .In:=by decide)(h2:op≠ .NotIn:=by decide):PT X (.Compare a [op] [b] pos) (ax8 (tOp r ta tb)):=cs9 ho ha hb (qN _ h h2)
theorem oe(K:PySem.W.Frag){k:Nat}(hr:Room k X.A)(hK:X.K=K:=by rfl):OpR X (compareOp .Eq) (bv5 K dO):=dd4 K hr (by decide) hK
theorem tO(K:PySem.W.Frag){o e:Expr}{es:List Expr}{to:TE}{t:TA}{apos cpos:Pos}(ho:PE X o to)(ha:PA X (e::es) t)(hbase:attributeBase o "append" X.env (eval o X.env)=eval o X.env:=by rfl)
 (hfew:((backTo cpos (starEach (e::es) X.env)).all (λx=>!x.1)&&(backToKw cpos (keywordEach [] X.env)).all (λx=>x.1.isSome)
  &&decide ((e::es).length+([]:List Keyword).length+(if([]:List Keyword).isEmpty then 0 else 1)<30))=true:=by rfl)
 (hline:(apos.endLine==cpos.line)=true:=by rfl)(hs:starEach (e::es) X.env=(false,eval e X.env)::starEach es X.env:=by rfl)(hplain:(backTo cpos (starEach es X.env)).any (·.1)=false:=by rfl)(hK:X.K=K:=by rfl):
 PE X (.Call (.Attribute o "append" apos) (e::es) [] cpos) (tBM K "list" ap4 to t):=sT K PySem.F.plainAttrs_list PySem.F.slot_list_append PySem.F.type_list_append ba9 ho ha hbase hfew hline hs hplain hK
theorem pm(ks:List Nat){tg iter elt:Expr}{ifs:List Expr}{scope:Scope}{pos:Pos}{wi:TI}{g:TG}{tc:TT}{te:TE}(hit:PI X tg iter wi)
 (hg:∀cl C s₀ H₀ ex,PG (lF X scope cl C s₀ H₀ ex) tg g)(hi:∀cl C s₀ H₀ ex,PIf (lF X scope cl C s₀ H₀ ex) ifs tc)(he:∀cl C s₀ H₀ ex,PE (lF X scope cl C s₀ H₀ ex) elt te)(S:CScope X ks scope:=by exact⟨rfl,by decide+kernel,by decide+kernel,by rfl,by rfl⟩)(hc:X.calm=true:=by rfl)
 (hs:∀x,foldedSetIterable iter X.env x=pure x:=by intro _;rfl):PE X (.ListComp elt [⟨tg,iter,ifs,0⟩] scope pos) (bt5 ks wi g tc te):=cb9 S hc hit hg hi he hs
theorem pk(i:Nat){y:Str}{py spos:Pos}{q:List Str}{c:Scope}(F:bB X.N q c)(ks:List Nat){tg iter elt:Expr}{ifs:List Expr}{scope:Scope}{pos:Pos}{wi:TI}{g:TG}{tc:TT}{te:TE}(hit:PI X tg iter wi)
 (hg:∀cl C s₀ H₀ ex,PG (lF X scope cl C s₀ H₀ ex) tg g)(hi:∀cl C s₀ H₀ ex,PIf (lF X scope cl C s₀ H₀ ex) ifs tc)(he:∀cl C s₀ H₀ ex,PE (lF X scope cl C s₀ H₀ ex) elt te)(hi':X.N[i]?=some y:=by rfl)(hy:Loc X.env.scope y:=by first|exact .inl rfl|exact .inr rfl)(S:CScope X ks scope:=by exact⟨rfl,by decide+kernel,by decide+kernel,by rfl,by rfl⟩)(hc:X.calm=true:=by rfl)
 (hsw:swapsWith (.ListComp elt [⟨tg,iter,ifs,0⟩] scope pos) (some (.Name y py)) spos.line X.env=pure true:=by rfl)
 (hs:∀x,foldedSetIterable iter X.env x=pure x:=by intro _;rfl)(hf:X.fn y=true\/X.env.scope.names.lookup y=some .local:=by first|exact .inl rfl|exact .inr rfl|assumption):PS X (.Assign [.Name y py] (.ListComp elt [⟨tg,iter,ifs,0⟩] scope pos) spos) (ag0 i ks wi g tc te):=ba5 F.nd hi' hy S hc hit hg hi he hsw hs hf
end
section
local macro_rules | `(tactic| walk_at "u") => `(tactic| (intro _ _ _ _ _ _ us hl; first | (obtain ⟨_, e⟩ := l1 hl; subst e; exact rfl) | (obtain ⟨_, _, e⟩ := l2 hl; subst e; exact rfl) | (obtain ⟨_, _, _, e⟩ := l3 hl; subst e; exact rfl) | (obtain ⟨_, _, _, _, e⟩ := l4 hl; subst e; exact rfl) | (obtain ⟨_, _, _, _, _, e⟩ := l5 hl; subst e; exact rfl) | (obtain ⟨_, _, _, _, _, _, e⟩ := l6 hl; subst e; exact rfl)))
local macro_rules | `(tactic| walk_at "s") => `(tactic| exact ⟨rfl, rfl, rfl, by decide +kernel, rfl, by decide +kernel, by decide +kernel⟩)
theorem bu2:bB ["_law_script","_law_at"] ["_law_script","_law_at"] (aM az1):=by walk_at "s"
theorem yI:bB ["_law_cell_here","_law_some"] ["_law_cell_here"] (aM ae0):=by walk_at "s"
theorem lG:bB ["_law_number","_law_k","_law_upper","_law_lower","_law_found"] ["_law_number","_law_k"] (aM zT):=by walk_at "s"
theorem cU:bB ["_law_script","_law_most","_law_cell_here","_law_span","_law_first","_law_names_here","_law_inks","_law_k","_law_dark","_law_table","_law_j","_law_begin","_law_reigns"] ["_law_script","_law_most"] (aM zI):=by walk_at "s"
theorem oZ:bB ["_law_cell_here","_law_many","_law_rest","_law_found","_law_k"] ["_law_cell_here","_law_many"] (aM av6):=by walk_at "s"
theorem wG:bB ["_law_cell_here","_law_frame_here","_law_x"] ["_law_cell_here","_law_frame_here"] (aM wS):=by walk_at "s"
theorem kH:bB ["_law_xs","_law_frame_here","_law_one","_law_other","_law_names_here","_law_low","_law_high"] ["_law_xs","_law_frame_here","_law_one","_law_other"] (aM af2):=by walk_at "s"
theorem cL:bB ["_law_number","_law_frame_here","_law_letter","_law_year","_law_name","_law_rest","_law_ink","_law_table","_law_error","_law_dark","_law_ages","_law_age","_law_at","_law_reign","_law_begin","_law_length","_law_low","_law_high"] ["_law_number","_law_frame_here","_law_letter","_law_year"] (aM wU):=by walk_at "s"
theorem gY:bB ["_law_number","_law_frame_here","_law_letters","_law_gap","_law_names_here","_law_rest","_law_many","_law_low","_law_high","_law_letter"] ["_law_number","_law_frame_here","_law_letters","_law_gap"] (aM xG):=by walk_at "s"
theorem dJ:bB ["_law_cells","_law_frame_here","_law_false","_law_hidden_here","_law_many","_law_span","_law_told","_law_cell_here","_law_xs","_law_one","_law_years_here","_law_other","_law_k"] ["_law_cells","_law_frame_here","_law_false","_law_hidden_here"] (aM wH):=by walk_at "s"
theorem bt2:bB ["some"] ["some"] (aM ah2):=by walk_at "s"
theorem ap0:bB ["some","low","high"] ["some","low","high"] (aM sZ):=by walk_at "s"
theorem bm0:bB ["first","present"] ["first","present"] (aM zW):=by walk_at "s"
theorem wQ:bB ["word","signs","most","sign"] ["word","signs","most"] (aM xU):=by walk_at "s"
theorem bg5:bB ["word"] ["word"] (aM ay6):=by walk_at "s"
theorem xZ:bB ["names","least","most","name"] ["names","least","most"] (aM zV):=by walk_at "s"
theorem tZ:bB ["some","dark","age"] ["some"] (aM aq1):=by walk_at "s"
theorem mK:bB ["inks","name","table"] ["inks"] (aM as1):=by walk_at "s"
theorem by2:bB ["begin","length"] ["begin","length"] (aM ax2):=by walk_at "s"
theorem gZ:bB ["reigns","name","begin","length"] ["reigns"] (aM xB):=by walk_at "s"
theorem gR:bB ["self","first","present","letters","inks","reigns","name","table","begin","length"] ["self","first","present","letters","inks","reigns"] (aM jN):=by walk_at "s"
theorem lY:bB ["_law_frame_here","_law_inks","_law_name","_law_table"] ["_law_frame_here"] (aM wI):=by walk_at "s"
theorem xD:bB ["archive","due","part","ink","reign"] ["archive","due","part"] (aM be1):=by walk_at "s"
theorem vD:bB ["archive","word","parts","due","part"] ["archive","word","parts"] (aM as6):=by walk_at "s"
theorem mZ:bB ["self","name","other","table"] ["self","name"] (aM iP):=by walk_at "s"
theorem oS:bB ["table","dark","error","greatest","last","ages","most","age"] ["table","dark","error","greatest"] (aM au6):=by walk_at "s"
theorem ar6:bB ["parts","part"] ["parts"] (aM by0):=by walk_at "s"
theorem dE:bB ["self","archive","word","parts","low","high","names","part","due","name"] ["self","archive","word","parts","low","high"] (aM dI):=by walk_at "s"
theorem wO:bB ["archive","parts","ages"] ["archive","parts"] (aM xE):=by walk_at "s"
theorem tL:bB ["archive","name","reign"] ["archive","name"] (aM uF):=by walk_at "s"
theorem al7:bB ["begin","length","k"] ["begin","length","k"] (aM xW):=by walk_at "s"
theorem oJ:bB ["archive","parts","reign","year"] ["archive","parts"] (aM uS):=by walk_at "s"
theorem tF:bB ["archive","parts","reign"] ["archive","parts"] (aM uT):=by walk_at "s"
theorem yY:bB ["archive","parts"] ["archive","parts"] (aM sW):=by walk_at "s"
theorem aw1:bB ["archive","parts"] ["archive","parts"] (aM uH):=by walk_at "s"
theorem au4:bB ["archive","parts"] ["archive","parts"] (aM wJ):=by walk_at "s"
theorem av0:bB ["archive","parts"] ["archive","parts"] (aM tI):=by walk_at "s"
theorem ak1:bB ["archive","parts"] ["archive","parts"] (aM uQ):=by walk_at "s"
theorem bl1:bB ["archive","word","parts"] ["archive","word","parts"] (aM ab0):=by walk_at "s"
theorem mO:bB ["_law_archive_here","_law_told","_law_word","_law_parts","_law_letters","_law_bounds"] ["_law_archive_here","_law_told"] (aM ae2):=by walk_at "s"
theorem gP:bB ["_law_frame_here","_law_told","_law_found","_law_k","_law_letters","_law_low","_law_high","_law_other","_law_letter"] ["_law_frame_here","_law_told"] (aM ad0):=by walk_at "s"
theorem eX:bB ["self"] ["self"] (aM cZ):=by walk_at "s"
theorem gQ:bB ["_law_cell_here","_law_frame_here","_law_hidden_here","_law_years_here","_law_at","_law_low","_law_wide"] ["_law_cell_here","_law_frame_here","_law_hidden_here"] (aM zN):=by walk_at "s"
theorem fE:bB ["self"] ["self"] (aM dF):=by walk_at "s"
theorem eH:bB ["self"] ["self"] (aM cQ):=by walk_at "s"
theorem iW:bB ["saying","number","letters","bounds","other","steps"] ["saying","number"] (aM uU):=by walk_at "s"
theorem az7:bB ["archive","letter"] ["archive","letter"] (aM xP):=by walk_at "s"
theorem mJ:bB ["archive","sayings","steps","number","saying","letter"] ["archive","sayings"] (aM aq2):=by walk_at "s"
theorem bw2:bB ["end","ground"] ["end","ground"] (aM af1):=by walk_at "s"
theorem ao1:bB ["step","years","ground"] ["step","years"] (aM al6):=by walk_at "s"
theorem wB:bB ["archive","sayings","years","grounded","year","step"] ["archive","sayings","years"] (aM by3):=by walk_at "s"
theorem fY:bB ["_law_years_here","_law_steps_here","_law_start","_law_end","_law_cost","_law_number","_law_here","_law_there"] ["_law_years_here","_law_steps_here"] (aM zR):=by walk_at "s"
theorem fU:bB ["_law_script","_law_frame_here","_law_cells","_law_hidden_here","_law_told","_law_archive_here","_law_sayings_here","_law_steps_here","_law_shown","_law_at","_law_fewer","_law_less","_law_many","_law_cell_here","_law_years_here","_law_handed","_law_found","_law_due","_law_saying"] ["_law_script"] (aM rD):=by walk_at "s"
variable {P : Program} {w : World} {K : PySem.W.Frag} {cn : Str → Option Addr} {mg : Str → Option Value} {base : Heap} {c_Archive c_Ink c_Reign c_Under c_Between c_After c_Same c_Within c_Apart : Addr} {nR sB gH : List (Str × Value)} (T : Txt w K cn mg c_Archive c_Ink c_Reign c_Under c_Between c_After c_Same c_Within c_Apart nR sB gH)
include T
theorem cg4:iR K cn ["Archive"] "first":=bD T.kE T.mG T.ac1 (iB)
theorem cj7:iR K cn ["Ink","Reign","Under","Between","After","Same","Within","Apart"] "high":=bD T.qR T.sY T.bk3 (bD T.lL T.nF T.ae8 (bD T.lK T.nH T.aa8 (bD T.jD T.kD T.av3 (bD T.lJ T.nI T.ad8 (bD T.nQ T.pN T.bh2 (bD T.jU T.lM T.ak5 (bD T.lI T.nG T.al8 (iB))))))))
theorem cg7:iR K cn ["Archive"] "inks":=bD T.kE T.mG T.ak3 (iB)
theorem bk5:iR K cn ["Archive"] "letters":=bD T.kE T.mG T.yL (iB)
theorem dj0:iR K cn ["Ink","Reign","Under","Between","After","Same","Within","Apart"] "low":=bD T.qR T.sY T.bd7 (bD T.lL T.nF T.bx1 (bD T.lK T.nH T.bi2 (bD T.jD T.kD T.aa6 (bD T.lJ T.nI T.bg2 (bD T.nQ T.pN T.bg3 (bD T.jU T.lM T.aq8 (bD T.lI T.nG T.by1 (iB))))))))
theorem bl5:iR K cn ["Archive"] "present":=bD T.kE T.mG T.yK (iB)
theorem cg0:iR K cn ["Archive"] "reigns":=bD T.kE T.mG T.zH (iB)
theorem bp9:iR K cn ["Ink","Reign","Under","Between","After","Same","Within","Apart"] "spoken":=bD T.qR T.sY T.ab8 (bD T.lL T.nF T.as3 (bD T.lK T.nH T.ao3 (bD T.jD T.kD T.zF (bD T.lJ T.nI T.ay3 (bD T.nQ T.pN T.ay5 (bD T.jU T.lM T.ad1 (bD T.lI T.nG T.ar3 (iB))))))))
theorem cy7:iR K cn ["Ink","Reign","Under","Between","After","Same","Within","Apart"] "text":=bD T.qR T.sY T.bc3 (bD T.lL T.nF T.am8 (bD T.lK T.nH T.ag8 (bD T.jD T.kD T.aq3 (bD T.lJ T.nI T.an8 (bD T.nQ T.pN T.bu1 (bD T.jU T.lM T.aq5 (bD T.lI T.nG T.ai8 (iB))))))))
theorem ci1:yH K cn 2 tm_table [(c_Archive,bG K cn 2 eY)]:=cK T.kE (vW)
theorem cg3:yH K cn 1 tm_about [(c_Ink,bG K cn 1 aU),(c_Reign,bG K cn 1 aU),(c_Under,bG K cn 1 aU),(c_Between,bG K cn 1 aU),(c_After,bG K cn 1 aU),(c_Same,bG K cn 1 aU),(c_Within,bG K cn 1 aU),(c_Apart,bG K cn 1 aU)]:=cK T.qR (cK T.lL (cK T.lK (cK T.jD (cK T.lJ (cK T.nQ (cK T.jU (cK T.lI (vW))))))))
theorem bn7:yH K cn 1 tm_bounds [(c_Ink,bG K cn 1 aP),(c_Reign,bG K cn 1 aP),(c_Under,bG K cn 1 aP),(c_Between,bG K cn 1 aP),(c_After,bG K cn 1 aP),(c_Same,bG K cn 1 aP),(c_Within,bG K cn 1 aP),(c_Apart,bG K cn 1 aP)]:=cK T.qR (cK T.lL (cK T.lK (cK T.jD (cK T.lJ (cK T.nQ (cK T.jU (cK T.lI (vW))))))))
theorem cc4:yH K cn 1 tm_shown [(c_Ink,bG K cn 1 aR),(c_Reign,bG K cn 1 aR),(c_Under,bG K cn 1 aR),(c_Between,bG K cn 1 aR),(c_After,bG K cn 1 aR),(c_Same,bG K cn 1 aR),(c_Within,bG K cn 1 aR),(c_Apart,bG K cn 1 aR)]:=cK T.qR (cK T.lL (cK T.lK (cK T.jD (cK T.lJ (cK T.nQ (cK T.jU (cK T.lI (vW))))))))
local macro_rules | `(tactic| walk_at "b") => `(tactic| first | exact .inl rfl | exact .inr rfl)
local macro_rules | `(tactic| walk_at "rr") => `(tactic| first | exact du6 | exact dj5 | exact de6 | exact ds1 | exact dh9 | exact dv9 | exact dg6 | exact eb0 | exact dw5 | exact cr8 | exact ec0 | exact dd8 | exact do9 | exact dq9 | exact dy8 | exact da1)
local macro_rules | `(tactic| walk_at "rc") => `(tactic| first | exact dg7 | exact dv2 | exact dc8 | exact dr8 | exact dj6 | exact dp1 | exact dy5 | exact cu3 | exact cy3 | exact dd3)
local macro_rules | `(tactic| walk_at "rf") => `(tactic| first | exact cg4 ‹_› | exact cj7 ‹_› | exact cg7 ‹_› | exact bk5 ‹_› | exact dj0 ‹_› | exact bl5 ‹_› | exact cg0 ‹_› | exact bp9 ‹_› | exact cy7 ‹_›)
local macro_rules | `(tactic| walk_at "r") => `(tactic| with_reducible first
 | exact dx4 _
 | exact du2
 | exact ct7
 | (refine di8 ?_ ?_ <;> walk_at "r")
 | (refine do1 ?_ ?_; walk_at "rf"; walk_at "r")
 | (refine RE.rb (mv := []) ?_; walk_at "r")
 | (refine cy1 ?_ ?_ <;> walk_at "r")
 | (refine dm5 ?_ ?_ ?_; walk_at "rr"; walk_at "r"; walk_at "r")
 | (apply dp5; walk_at "r"; walk_at "r"; with_unfolding_all exact rfl; with_unfolding_all exact rfl)
 | exact dh4
 | exact dp4
 | (refine RB.chk ?_; walk_at "r")
 | (refine dg1 ?_ ?_ <;> walk_at "r")
 | (refine bc6 ?_ ?_ ?_ ?_ ?_ ?_; walk_at "r"; walk_at "r"; walk_at "r"; walk_at "r"; with_unfolding_all exact rfl; with_unfolding_all exact rfl)
 | (apply bz9 <;> walk_at "r")
 | (refine bu3 _ ?_; with_unfolding_all exact rfl)
 | (refine dq4 ?_; walk_at "r")
 | (refine de5 ?_ ?_; walk_at "rc"; walk_at "r")
 | (refine dt4 ?_; walk_at "r")
 | (refine dg8 ?_ ?_ ?_ <;> walk_at "r")
 | exact cr7
 | exact cf7
 | exact dr3
 | exact dg3
 | exact dd6
 | exact dk5
 | (refine bp3 ?_; walk_at "r")
 | (refine ds4 ?_; walk_at "r")
 | (refine db2 ?_; walk_at "r")
 | (refine ds0 ?_ ?_ <;> walk_at "r")
 | (refine dh8 ?_ ?_ <;> walk_at "r")
 | (apply dh3; walk_at "r")
 | (apply dx0; walk_at "r")
 | exact df7 _
 | (apply dy0; walk_at "r")
 | exact cp8
 | (apply ds2; walk_at "r"; walk_at "r"; with_unfolding_all exact rfl)
 | (apply dt1 <;> walk_at "r")
 | (refine cd9 ?_; walk_at "r")
 | (refine dr9 ?_; walk_at "r")
 | (refine dw9 ?_; walk_at "r")
 | (refine ce8 ?_; walk_at "r")
 | (refine cx7 ?_; walk_at "r")
 | (refine db1 ?_; walk_at "r")
 | exact do3 _
 | (refine dj3 ?_ ?_ ?_; walk_at "r"; walk_at "r"; with_unfolding_all exact rfl)
 | (refine dk4 ?_ ?_ ?_ ?_; (first | exact ds8 | exact dn5 | exact dc7); walk_at "r"; walk_at "r"; with_unfolding_all exact rfl)
 | (refine dk3 ?_ ?_ ?_; walk_at "rf"; walk_at "r"; walk_at "r")
 | (refine da5 ?_ ?_ ?_ <;> walk_at "r")
 | (refine bo4 ?_ ?_ ?_ ?_ ?_; walk_at "r"; walk_at "r"; walk_at "r"; walk_at "r"; with_unfolding_all exact rfl)
 | (refine dm6 dg9 ?_ ?_ ?_ <;> walk_at "r")
 | exact ce7
 | (refine cv9 ?_; walk_at "r")
 | (refine du7 dd7 ?_; walk_at "r")
 | (refine cz4 ?_ ?_ ?_ ?_ ?_; walk_at "rr"; walk_at "rr"; walk_at "r"; walk_at "r"; walk_at "r")
 | (refine cm7 ?_ ?_ <;> walk_at "r")
 | (refine co7 ?_; walk_at "r")
 | (refine dv5 ?_ ?_ ?_ <;> walk_at "r")
 | (refine RE.frz ?_; walk_at "r")
 | (refine RE.frz1 ?_; walk_at "r")
 | (refine cd4 ?_ ?_ ?_; (first | exact cg3 ‹_› | exact bn7 ‹_› | exact cc4 ‹_› | exact ci1 ‹_›); walk_at "r"; walk_at "r")
 | (refine cl8 ?_ ?_; (first | exact Txt.lJ ‹_› | exact Txt.lI ‹_› | exact Txt.kE ‹_› | exact Txt.jD ‹_› | exact Txt.qR ‹_› | exact Txt.lL ‹_› | exact Txt.nQ ‹_› | exact Txt.lK ‹_› | exact Txt.jU ‹_›); walk_at "r")
 | (refine cd7 ?_ ?_; (first | exact Txt.g_NUMBERS ‹_› | exact Txt.g_PARTS ‹_›); walk_at "r")
 | (refine cz7 ?_ ?_; (first | exact Txt.g_NUMBERS ‹_› | exact Txt.g_PARTS ‹_›); walk_at "r")
 | (refine ch5 bu8 ca8 ?_ ?_ <;> walk_at "r")
 | (refine ch5 by8 dq3 ?_ ?_ <;> walk_at "r")
 | (with_unfolding_all refine bp3 ?_; walk_at "r")
 | (refine cl3 ?_ ?_ <;> walk_at "r"))
theorem rC:eC P w K mg base 1 "_law_cell" ["_law_script","_law_at"] (bG K cn 2 iA):=by
 refine bI (d:=rR) T.bf7 bu2 (by walk_at "u") (λf cdv A outer s H E hr=>⟨_,(aH (bW (pc yV (pv 1) (aX (bT K) rfl T.dU cX (aO (pv 0)))) (aL (aW (px K (pv 0) (pv 1)))) bN)
 (aL (aW aF))),by unfold rR;walk_at "r"⟩) rfl (λ_=>rfl)
theorem bk2:eC P w K mg base 1 "_law_names" ["_law_cell_here"] (bG K cn 1 pZ):=by
 refine bI (d:=pY) T.be3 yI (by walk_at "u") (λf cdv A outer s H E hr=>⟨_,(aH (pz 1 yI (cV (aE bS (aE bS (aE bS (aE bS (aE bS (aE bS (aE bS (aO bS))))))))))
 (aL (aW (aK (bC K) (hU (qT K) (pv 1) (gT (aK bH (pv 0) aF)) kM) (hU (qT K) (pv 1) kM (gT (aK bH (pv 0) aF))))))),by unfold pY;walk_at "r"⟩) rfl (λ_=>rfl)
theorem fH:eC P w K mg base 1 "_law_whirl" ["_law_number","_law_k"] (bG K cn 2 dM):=by
 refine bI (d:=qC) T.bi3 lG (by walk_at "u") (λf cdv A outer s H E hr=>⟨_,(aH (pz 0 lG (aK (bC K) (aK (bC K) (aK bH (pv 0) aF) (aK kK aF (pv 1))) aF))
 (aH (xJ (aX (bc0 K) rfl T.cg5 bh9 (aE (aK bH (aK kK (pv 0) aF) aF) (aO aF))) (fV K 2 rfl (bL (pn 2 lG) (bL (pn 3 lG) fR))))
 (aH (pz 4 lG (aK (bC K) (aK (bC K) (aK (bC K) (aK kK (pv 2) (pv 3)) (aK kK aF (pv 2))) (aK kK aF (pv 3))) (pv 1)))
 (aL (aW (aK bH (aK kK (pv 4) (aK (bC K) (aK bH (pv 4) aF) aF)) aF)))))),by unfold qC;walk_at "r"⟩) rfl (λ_=>rfl)
theorem bx2:eC P w K mg base 2 "_law_frame" ["_law_script","_law_most"] (bG K cn 2 pR):=by
 refine bI (d:=pP) T.bz2 cU (by walk_at "u") (λf cdv A outer s H E hr=>⟨_,(aH (pz 2 cU (aK bH (pf (rC T:) hr (aE (pv 0) (aO aF))) (aK aj1 aF aF)))
 (aH (pz 3 cU (px K (cV (aE aF (aE aF (aE aF (aE aF (aE aF (aE aF (aE aF (aO aF))))))))) (aK bH (pv 2) aF)))
 (aH (pz 4 cU (px K (cV (aE (tR qE aF) (aE (aK cD aF (pv 3)) (aE (tR qE aF) (aO aF))))) (aK bH (aK dZ (pv 2) aF) aF)))
 (aH (pz 5 cU (hU (qT K) (pf (bk2 T:) hr (aO (aK dZ (pv 2) aF))) kM (gT (aK (bC K) aF (aK bH (aK dZ (pv 2) aF) (pv 1))))))
 (aH (pz 6 cU (cV qQ))
 (aH (iE PassesOwn.never rfl (iC rfl T.jQ (aO (aK (bC K) aF (aK bH (pf (fH T:) hr (aE (pv 2) (aO aF))) aF)))) (pn 7 cU) (aH (pz 8 cU (aK (bC K) aF (aK bH (aK dZ (pv 2) aF) aF)))
 (aH (pz 9 cU (cV (aO (pv 8))))
 (aH (iE PassesOwn.never rfl (iC rfl T.jQ (aO (aK bH (pf (fH T:) hr (aE (pv 2) (aO (pv 7)))) (px K (cV (aE aF (aO aF))) (aK dZ (aK bH (aK dZ (pv 2) aF) aF) aF))))) (pn 10 cU) (aH (pz 8 cU (aX (qO K) rfl T.az3 yJ (aE aF (aO (aK cD (pv 8) (aK bH (pf (fH T:) hr (aE (pv 2) (aO (aK (bC K) (aK kK aF (pv 10)) (pv 7))))) aF))))))
 (aL (fG (tO K (pv 9) (aO (pv 8)))))))
 (aL (fG (tO K (pv 6) (aO (bR (aE (px K (cV (aE bS (aE bS (aE bS (aE bS (aE bS (aO bS))))))) (pv 7)) (aO (pv 9))))))))))))
 (aH (pz 11 cU (aK (bC K) (aK cD (pv 4) aF) (aK bH (pf (fH T:) hr (aE (pv 2) (aO aF))) (aK (bC K) (pv 3) aF))))
 (aH (pz 12 cU (cV (aE (bR (aE bS (aE (pv 11) (aO (aK (bC K) aF (aK bH (pf (fH T:) hr (aE (pv 2) (aO aF))) aF)))))) (aO (bR (aE bS (aE (aK (bC K) (pv 11) aF) (aO (aK (bC K) aF (aK bH (pf (fH T:) hr (aE (pv 2) (aO aF))) aF))))))))))
 (aH (iE PassesOwn.never rfl (iC rfl T.jQ (aO (aK bH (pf (fH T:) hr (aE (pv 2) (aO aF))) aF))) (pn 7 cU) (aH (pz 11 cU (aK cD (aK (bC K) (pv 11) (aK bH (pf (fH T:) hr (aE (pv 2) (aO (aK (bC K) aF (pv 7))))) aF)) aF))
 (aL (fG (sT K PySem.F.plainAttrs_list PySem.F.slot_list_insert PySem.F.type_list_insert bb8 (pv 12) (aE aF (aO (bR (aE (px K (cV (aE bS (aE bS (aE bS (aE bS (aE bS (aO bS))))))) (pv 7)) (aE (pv 11) (aO (aK (bC K) aF (aK bH (pf (fH T:) hr (aE (pv 2) (aO (aK (bC K) aF (pv 7))))) aF)))))))))))))
 (aL (aW (bR (aE (pv 4) (aE (aK (bC K) (pv 4) (pv 3)) (aE (pv 5) (aE (pv 6) (aO (pv 12)))))))))))))))))),by unfold pP;walk_at "r"⟩) rfl (λ_=>rfl)
theorem ab7:eC P w K mg base 2 "_law_row" ["_law_cell_here","_law_many"] (bG K cn 2 nN):=by
 refine bI (d:=tM) T.co0 oZ (by walk_at "u") (λf cdv A outer s H E hr=>⟨_,(aH (pz 2 oZ (aK bH (aX (xC K) rfl T.be7 at9 (aO (pv 0))) (aK aj1 aF aF)))
 (aH (pz 3 oZ (cV qQ))
 (aH (iE PassesOwn.never rfl (iC rfl T.jQ (aO (pv 1))) (pn 4 oZ) (aL (bW (PW.pt (vX (pc yV (pv 0) aF) (uI (pc ce6 (pv 0) (aK aj1 aF aF))))) (aH (fG (tO K (pv 3) (aO (aK bH (pv 2) aF))))
 (aL (pz 2 oZ (aK dZ (pv 2) aF)))) (aL (fG (tO K (pv 3) (aO (pf (fH T:) hr (aE (aK (bC K) (pf (fH T:) hr (aE (pv 0) (aO (pv 4)))) (pv 0)) (aO (pv 4)))))))))))
 (aL (aW (pv 3)))))),by unfold tM;walk_at "r"⟩) rfl (λ_=>rfl)
theorem ao9:eC P w K mg base 3 "_law_hidden" ["_law_cell_here","_law_frame_here"] (bG K cn 2 oM):=by
 refine bI (d:=pA) T.ba2 wG (by walk_at "u") (λf cdv A outer s H E hr=>⟨_,(aL (aW (pm [2] (gG K (pf (ab7 T:) hr (aE (pv 0) (aO (aX (bT K) rfl T.dU cX (aO (px K (pv 1) aF))))))) (λ_ _ _ _ _=>(pn 2 wG)) (λ_ _ _ _ _=>dG) (λ_ _ _ _ _=>(aK (bC K) (px K (pv 1) aF) (aK bH (pv 2) (aK (bC K) (aK cD (px K (pv 1) aF) (px K (pv 1) aF)) aF))))))),by unfold pA;walk_at "r"⟩) rfl (λ_=>rfl)
theorem bw5:eC P w K mg base 1 "_law_free" ["_law_xs","_law_frame_here","_law_one","_law_other"] (bG K cn 4 rB):=by
 refine bI (d:=qZ) T.bb7 kH (by walk_at "u") (λf cdv A outer s H E hr=>⟨_,(aH (pz 4 kH (cV (aE (px K (px K (pv 1) aF) (pv 2)) (aO (px K (px K (pv 1) aF) (pv 3))))))
 (aH (bW (PW.pt (vX (pc (oe K hr) (pv 2) (pv 3)) (uI (pc (oe K hr) (aK bH (px K (pv 0) aF) aF) aF)))) (aH (pz 5 kH (aK (bC K) (aK cD (px K (pv 1) aF) aF) (aK bH (px K (pv 0) aF) (aK (bC K) (aK cD (px K (pv 1) aF) (px K (pv 1) aF)) aF))))
 (aH (pz 6 kH (aK (bC K) (pv 5) (aK bH (px K (pv 0) aF) aF)))
 (aL (aW (bR (aE bS (aE (aK (bC K) (hU (qT K) (pv 4) kM (gT aF)) (cV (aE (pv 5) (aO (pv 6))))) (aE (bR (aO (pv 2))) (aO (bR (aE (pv 5) (aO (pv 6))))))))))))) bN)
 (aH (pz 5 kH (aK cD (aK bH (px K (pv 0) aF) aF) aF))
 (aH (pz 6 kH (aX (kZ K) rfl T.wF sG (aE aF (aO (aK (bC K) (pv 5) (aK bH (px K (pv 0) aF) aF))))))
 (aL (aW (bR (aE bS (aE (aK (bC K) (pv 4) (cV (aE (pv 5) (aO (pv 6))))) (aE (bR (aE (pv 2) (aO (pv 3)))) (aO (bR (aE (pv 5) (aO (pv 6))))))))))))))),by unfold qZ;walk_at "r"⟩) rfl (λ_=>rfl)
theorem bi0:eC P w K mg base 1 "_law_of_one" ["_law_number","_law_frame_here","_law_letter","_law_year"] (bG K cn 4 nV):=by
 refine bI (d:=oF) T.bf2 cL (by walk_at "u") (λf cdv A outer s H E hr=>⟨_,(aH (pz 4 cL (px K (px K (pv 1) aF) (pv 2)))
 (aH (pz 5 cL (aK dZ (pv 0) aF))
 (aH (bW (pc (oe K hr) (aK bH (pv 0) aF) aF) (aH (xJ (px K (px K (pv 1) aF) (aK bH (pv 5) (aX (bT K) rfl T.dU cX (aO (px K (pv 1) aF))))) (fV K 2 rfl (bL (pn 6 cL) (bL (pn 7 cL) fR))))
 (aH (pz 8 cL (aK bH (aK dZ (pv 5) aF) aF))
 (aH (pz 9 cL (px K (pv 7) (aX (kZ K) rfl T.wF sG (aE (aK cD (px K (pv 1) aF) (pv 3)) (aO (aK cD (aX (bT K) rfl T.dU cX (aO (pv 7))) aF))))))
 (aH (pz 9 cL (aX (qO K) rfl T.az3 yJ (aE aF (aO (aK cD (aK (bC K) (pv 9) (aK bH (aK dZ (pv 5) aF) (aK (bC K) (aK kK aF (pv 8)) aF))) (pv 8))))))
 (aH (pz 10 cL (cV qQ))
 (aH (iE PassesOwn.never rfl (iC rfl T.jQ (aO (aK (bC K) (aK cD (px K (pv 1) aF) (px K (pv 1) aF)) aF))) (pn 11 cL) (aL (bW (pc jW (aX (xC K) rfl T.be7 at9 (aO (aK cD (px K (pv 7) (aX (kZ K) rfl T.wF sG (aE (pv 11) (aO (aK cD (aX (bT K) rfl T.dU cX (aO (pv 7))) aF))))) (pv 9)))) (pv 8)) (aL (fG (tO K (pv 10) (aO (pv 11))))) bN)))
 (aL (aW (bR (aE bS (aE (cV (aE (pv 4) (aE (pv 6) (aE (pv 9) (aO (pv 8)))))) (aE (bR (aO (pv 2))) (aO (bR (aE (aK cD (px K (pv 1) aF) (px K (pv 10) (tR qE aF))) (aO (aK cD (px K (pv 1) aF) (px K (pv 10) aF)))))))))))))))))) bN)
 (aH (pz 12 cL (aK bH (aK dZ (pv 5) aF) (aX (bT K) rfl T.dU cX (aO (px K (pv 1) aF)))))
 (aH (iE PassesOwn.never rfl (gG K (aK (bC K) (hU (qT K) (px K (pv 1) aF) (gT (pv 12)) kM) (hU (qT K) (px K (pv 1) aF) kM (gT (pv 12))))) (fV K 3 rfl (bL (pn 13 cL) (bL (pn 14 cL) (bL (pn 15 cL) fR)))) (aL (bW (PW.pt (sN (pc (oe K hr) (aK bH (pv 0) aF) aF) (pF (ar0 jW yV (pv 14) (pv 3) (aK (bC K) (pv 14) (pv 15)))))) (aH (bW (pc (oe K hr) (aK bH (pv 5) aF) aF) (aL (aW (bR (aE bS (aE (cV (aE (pv 4) (aE (pv 13) (aO (aK (bC K) (aK cD (pv 3) (pv 14)) aF))))) (aE (bR (aO (pv 2))) (aO (bR (aE (pv 3) (aO (pv 3))))))))))) bN)
 (aL (aW (bR (aE bS (aE (cV (aE (pv 4) (aO (pv 13)))) (aE (bR (aO (pv 2))) (aO (bR (aE (pv 14) (aO (aK cD (aK (bC K) (pv 14) (pv 15)) aF)))))))))))) bN)))
 (aH (pz 16 cL (aX (qO K) rfl T.az3 yJ (aE (tR qE aF) (aO (aK cD (pv 3) (aK bH (pv 5) aF))))))
 (aH (pz 17 cL (aX (kZ K) rfl T.wF sG (aE aF (aO (aK (bC K) (pv 3) (aK bH (aK dZ (pv 5) aF) aF))))))
 (aL (aW (bR (aE bS (aE (cV (aE (pv 4) (aE (pv 16) (aO (pv 17))))) (aE (bR (aO (pv 2))) (aO (bR (aE (pv 16) (aO (pv 17)))))))))))))))))),by unfold oF;walk_at "r"⟩) rfl (λ_=>rfl)
theorem bc1:eC P w K mg base 1 "_law_of_two" ["_law_number","_law_frame_here","_law_letters","_law_gap"] (bG K cn 4 oI):=by
 refine bI (d:=nT) T.bv1 gY (by walk_at "u") (λf cdv A outer s H E hr=>⟨_,(aH (pk 4 gY [9] (gG K (pv 2)) (λ_ _ _ _ _=>(pn 9 gY)) (λ_ _ _ _ _=>dG) (λ_ _ _ _ _=>(px K (px K (pv 1) aF) (pv 9))))
 (aH (pz 5 gY (aK dZ (pv 0) aF))
 (aH (bW (PW.pt (sN (pc (oe K hr) (pv 3) aF) (pF (pc (oe K hr) (aK bH (pv 0) aF) aF)))) (aL (aW (bR (aE bS (aE (pv 4) (aE (pv 2) (aO (bR (aE aF (aO aF)))))))))) bN)
 (aH (bW (PW.pt (sN (pc as8 (pv 3) aF) (pF (pc yV (aK bH (pv 0) aF) aF)))) (aL (aW (bR (aE bS (aE (pv 4) (aE (pv 2) (aO (bR (aE aF (aO dW)))))))))) bN)
 (aH (bW (PW.pt (sN (pc ce6 (pv 3) aF) (pF (pc (oe K hr) (aK bH (pv 0) aF) aF)))) (aH (pz 6 gY (aX (kZ K) rfl T.wF sG (aE aF (aO (aK (bC K) (pv 3) (aK bH (pv 5) aF))))))
 (aL (aW (bR (aE bS (aE (aK (bC K) (pv 4) (cV (aO (pv 6)))) (aE (pv 2) (aO (bR (aE aF (aO (pv 6)))))))))))) bN)
 (aH (pz 7 gY (aX (qO K) rfl T.az3 yJ (aE (tR qE aF) (aO (aK cD (pv 3) (aK bH (pv 5) aF))))))
 (aH (pz 8 gY (aX (kZ K) rfl T.wF sG (aE aF (aO (aK (bC K) (pv 3) (aK bH (aK dZ (pv 5) aF) aF))))))
 (aL (aW (bR (aE bS (aE (aK (bC K) (pv 4) (cV (aE (pv 7) (aO (pv 8))))) (aE (pv 2) (aO (bR (aE (pv 7) (aO (pv 8)))))))))))))))))),by unfold nT;walk_at "r"⟩) rfl (λ_=>rfl)
theorem aw7:eC P w K mg base 3 "_law_sayings" ["_law_cells","_law_frame_here","_law_false","_law_hidden_here"] (bG K cn 4 mQ):=by
 refine bI (d:=mU) T.ah8 dJ (by walk_at "u") (λf cdv A outer s H E hr=>⟨_,(aH (pz 4 dJ (aX (bT K) rfl T.dU cX (aO (px K (pv 1) aF))))
 (aH (pz 5 dJ (aK cD (px K (pv 1) aF) (px K (pv 1) aF)))
 (aH (pz 6 dJ (cV qQ))
 (aH (iE PassesOwn.never rfl (gG K (pv 0)) (pn 7 dJ) (aH (pz 8 dJ (pf (ab7 T:) hr (aE (pv 7) (aO aF))))
 (aH (pz 9 dJ (aK bH (px K (pv 8) aF) (pv 4)))
 (aH (pz 10 dJ (fP (fL K) rfl T.kF iO (aO (pv 3))))
 (aH (bW (PW.pt (sN (eK K (pv 2) (λ_=>rfl)) (pF (pc (oe K hr) (aK bH (px K (pv 8) aF) aF) aF)))) (aL (pk 10 dJ [12] (iC rfl T.jQ (aO (pv 4))) (λ_ _ _ _ _=>(pn 12 dJ)) (λ_ _ _ _ _=>dG) (λ_ _ _ _ _=>(aK (bC K) (px K (pv 1) aF) (aK bH (aK (bC K) (px K (pv 8) aF) (aK kK (aK kK aF (px K (pv 8) aF)) (pv 12))) (aK (bC K) (pv 5) aF)))))) bN)
 (aH (pz 11 dJ (aK bH (aK (bC K) (aK (bC K) (pv 9) aF) (aK bH (aK dZ (px K (pv 8) aF) aF) (aX (qO K) rfl T.az3 yJ (aE aF (aO (aK cD (pv 4) aF)))))) (pv 4)))
 (aL (bW (PW.pt (sN (eK K (pv 2) (λ_=>rfl)) (pF (pc (oe K hr) (aK bH (px K (pv 8) aF) aF) aF)))) (aL (fG (tO K (pv 6) (aO (pf (bw5 T:) hr (aE (pv 8) (aE (pv 1) (aE (pv 9) (aO (pv 11)))))))))) (aL (bW (PW.pt (vX (pc (oe K hr) (pv 4) aF) (uI (pc yV (aK bH (px K (pv 8) aF) aF) aF)))) (aL (fG (tO K (pv 6) (aO (pf (bi0 T:) hr (aE (px K (pv 8) aF) (aE (pv 1) (aE (pv 9) (aO (px K (pv 10) (pv 9))))))))))) (aL (fG (tO K (pv 6) (aO (pf (bc1 T:) hr (aE (px K (pv 8) aF) (aE (pv 1) (aE (bR (aE (pv 9) (aO (pv 11)))) (aO (aK cD (px K (pv 10) (pv 9)) (px K (pv 10) (pv 11))))))))))))))))))))))
 (aL (aW (pv 6))))))),by unfold mU;walk_at "r"⟩) rfl (λ_=>rfl)
theorem ar1:eC P w K mg base 1 "is_whole" ["some"] (bG K cn 1 jC):=by
 refine bI (d:=oY) T.bi7 bt2 (by walk_at "u") (λf cdv A outer s H E hr=>⟨_,(aL (aW (sL (aX (xS K) rfl T.sX qS (aE (pv 0) (aO (bg6 T.dw8 de2)))) (sI (dc3 (aX (xS K) rfl T.sX qS (aE (pv 0) (aO (bg6 T.cl0 bi4))))))))),by unfold oY;walk_at "r"⟩) rfl (λ_=>rfl)
theorem gA:eC P w K mg base 2 "is_whole_from" ["some","low","high"] (bG K cn 3 cR):=by
 refine bI (d:=kU) T.ap3 ap0 (by walk_at "u") (λf cdv A outer s H E hr=>⟨_,(aL (aW (sL (pf (ar1 T:) hr (aO (pv 0))) (sI (ah0 jW jW (pv 1) (pv 0) (pv 2)))))),by unfold kU;walk_at "r"⟩) rfl (λ_=>rfl)
theorem bp2:eC P w K mg base 3 "are_years" ["first","present"] (bG K cn 2 pS):=by
 refine bI (d:=pQ) T.bl3 bm0 (by walk_at "u") (λf cdv A outer s H E hr=>⟨_,(aH (bW (iH (eK K (pf (gA T:) hr (aE (pv 0) (aE (tR qE (iI T.g_FARTHEST_END)) (aO (iI T.g_FARTHEST_END))))) (λ_=>rfl))) (aL (aW lO)) bN)
 (aH (bW (iH (eK K (pf (gA T:) hr (aE (pv 1) (aE (tR qE (iI T.g_FARTHEST_END)) (aO (iI T.g_FARTHEST_END))))) (λ_=>rfl))) (aL (aW lO)) bN)
 (aL (aW (ah0 jW jW aF (aK cD (pv 1) (pv 0)) (iI T.g_LONGEST_SPAN)))))),by unfold pQ;walk_at "r"⟩) rfl (λ_=>rfl)
theorem ah9:eC P w K mg base 1 "is_made_of" ["word","signs","most"] (bG K cn 3 nY):=by
 refine bI (d:=oP) T.bw1 wQ (by walk_at "u") (λf cdv A outer s H E hr=>⟨_,(aL (aW (sL (ah0 jW jW aF (aX (bT K) rfl T.dU cX (aO (pv 0))) (pv 2)) (sI (aX (iQ K) rfl T.rS oA (aO (pm [3] (gG K (pv 0)) (λ_ _ _ _ _=>(pn 3 wQ)) (λ_ _ _ _ _=>dG) (λ_ _ _ _ _=>(jG (as2 K (n:=dO) hr) (pv 3) (pv 1) (by with_unfolding_all rfl)))))))))),by unfold oP;walk_at "r"⟩) rfl (λ_=>rfl)
theorem bz7:eC P w K mg base 2 "is_name" ["word"] (bG K cn 1 qK):=by
 refine bI (d:=tK) T.cr0 bg5 (by walk_at "u") (λf cdv A outer s H E hr=>⟨_,(aL (aW (pf (ah9 T:) hr (aE (pv 0) (aE (iI T.g_LETTERS) (aO (iI T.g_MOST_LETTERS_words))))))),by unfold tK;walk_at "r"⟩) rfl (λ_=>rfl)
theorem tU:eC P w K mg base 3 "are_names" ["names","least","most"] (bG K cn 3 kG):=by
 refine bI (d:=pU) T.bd3 xZ (by walk_at "u") (λf cdv A outer s H E hr=>⟨_,(aH (bW (iH (ar0 jW jW (pv 1) (aX (bT K) rfl T.dU cX (aO (pv 0))) (pv 2))) (aL (aW lO)) bN)
 (aL (aW (sL (aX (iQ K) rfl T.rS oA (aO (pm [3] (gG K (pv 0)) (λ_ _ _ _ _=>(pn 3 xZ)) (λ_ _ _ _ _=>dG) (λ_ _ _ _ _=>(pf (bz7 T:) hr (aO (pv 3))))))) (sI (jG (oe K hr) (bu7 K T.dU T.du8 (aO (pv 0))) (aX (bT K) rfl T.dU cX (aO (pv 0))) (qN _))))))),by unfold pU;walk_at "r"⟩) rfl (λ_=>rfl)
theorem bo5:eC P w K mg base 3 "is_table" ["some"] (bG K cn 1 nX):=by
 refine bI (d:=rQ) T.bh7 tZ (by walk_at "u") (λf cdv A outer s H E hr=>⟨_,(aH (bW (iH (ar0 jW jW aF (aX (bT K) rfl T.dU cX (aO (pv 0))) (iI T.g_MOST_AGES))) (aL (aW lO)) bN)
 (aH (bW (iH (eK K (aX (iQ K) rfl T.rS oA (aO (pm [1] (gG K (pv 0)) (λ_ _ _ _ _=>(pn 1 tZ)) (λ_ _ _ _ _=>dG) (λ_ _ _ _ _=>(pf (gA T:) hr (aE (pv 1) (aE aF (aO (iI T.g_DARKEST))))))))) (λ_=>rfl))) (aL (aW lO)) bN)
 (aL (aW (aX (iQ K) rfl T.rS oA (aO (pm [2] (bj8 rfl T.jQ (aE aF (aO (aX (bT K) rfl T.dU cX (aO (pv 0)))))) (λ_ _ _ _ _=>(pn 2 tZ)) (λ_ _ _ _ _=>dG) (λ_ _ _ _ _=>(jG jW (px K (pv 0) (pv 2)) (px K (pv 0) (aK cD (pv 2) aF)) (qN _)))))))))),by unfold rQ;walk_at "r"⟩) rfl (λ_=>rfl)
theorem bb5:eC P w K mg base 4 "are_inks" ["inks"] (bG K cn 1 rO):=by
 refine bI (d:=rN) T.ba7 mK (by walk_at "u") (λf cdv A outer s H E hr=>⟨_,(aH (bW (iH (eK K (pf (tU T:) hr (aE (pm [1,2] (gG K (pv 0)) (λ_ _ _ _ _=>(fV K 2 rfl (bL (pn 1 mK) (bL (pn 2 mK) fR)))) (λ_ _ _ _ _=>dG) (λ_ _ _ _ _=>(pv 1))) (aE aF (aO (iI T.g_MOST_INKS))))) (λ_=>rfl))) (aL (aW lO)) bN)
 (aL (aW (aX (iQ K) rfl T.rS oA (aO (pm [1,2] (gG K (pv 0)) (λ_ _ _ _ _=>(fV K 2 rfl (bL (pn 1 mK) (bL (pn 2 mK) fR)))) (λ_ _ _ _ _=>dG) (λ_ _ _ _ _=>(pf (bo5 T:) hr (aO (pv 2)))))))))),by unfold rN;walk_at "r"⟩) rfl (λ_=>rfl)
theorem bd5:eC P w K mg base 3 "is_reign" ["begin","length"] (bG K cn 2 nZ):=by
 refine bI (d:=rJ) T.bx6 by2 (by walk_at "u") (λf cdv A outer s H E hr=>⟨_,(aL (aW (sL (pf (gA T:) hr (aE (pv 0) (aE (tR qE (iI T.g_FARTHEST_YEAR)) (aO (iI T.g_FARTHEST_YEAR))))) (sI (pf (gA T:) hr (aE (pv 1) (aE aF (aO (iI T.g_LONGEST_REIGN))))))))),by unfold rJ;walk_at "r"⟩) rfl (λ_=>rfl)
theorem bi1:eC P w K mg base 4 "are_reigns" ["reigns"] (bG K cn 1 oQ):=by
 refine bI (d:=oG) T.be2 gZ (by walk_at "u") (λf cdv A outer s H E hr=>⟨_,(aH (bW (iH (eK K (pf (tU T:) hr (aE (pm [1,2,3] (gG K (pv 0)) (λ_ _ _ _ _=>(fV K 3 rfl (bL (pn 1 gZ) (bL (pn 2 gZ) (bL (pn 3 gZ) fR))))) (λ_ _ _ _ _=>dG) (λ_ _ _ _ _=>(pv 1))) (aE aF (aO (iI T.g_MOST_REIGNS))))) (λ_=>rfl))) (aL (aW lO)) bN)
 (aL (aW (aX (iQ K) rfl T.rS oA (aO (pm [1,2,3] (gG K (pv 0)) (λ_ _ _ _ _=>(fV K 3 rfl (bL (pn 1 gZ) (bL (pn 2 gZ) (bL (pn 3 gZ) fR))))) (λ_ _ _ _ _=>dG) (λ_ _ _ _ _=>(pf (bd5 T:) hr (aE (pv 2) (aO (pv 3))))))))))),by unfold oG;walk_at "r"⟩) rfl (λ_=>rfl)
theorem az4(f y:Addr)(cdv:Value)(A:Around)(outer:List Env)(s:Shared)(H:Hp)(E:XK)(hr:Room 4 (A.deeper (PyProof.Rows.envOfC "Archive.__init__" (aM jN) s.heap.objs.size f cdv))):
 ∃t,PSs (kY jM P w K mg base ["self","first","present","letters","inks","reigns","name","table","begin","length"] "Archive.__init__" (aM jN) f cdv A outer s H E).nox (dH jN) t/\RS [(0,.ref y)] K cn E t jH:=
 ⟨_,(aH (bW (iH (eK K (pf (bp2 T:) hr (aE (pv 1) (aO (pv 2)))) (λ_=>rfl))) (aL kI) bN)
 (aH (bW (iH (eK K (pf (tU T:) hr (aE (pv 3) (aE aF (aO (iI T.g_MOST_LETTERS_archives))))) (λ_=>rfl))) (aL kI) bN)
 (aH (bW (iH (eK K (pf (bb5 T:) hr (aO (pv 4))) (λ_=>rfl))) (aL kI) bN)
 (aH (bW (iH (eK K (pf (bi1 T:) hr (aO (pv 5))) (λ_=>rfl))) (aL kI) bN)
 (aH (lQ K (pv 0) (pv 1))
 (aH (lQ K (pv 0) (pv 2))
 (aH (lQ K (pv 0) (fP (fL K) rfl T.kF iO (aO (pv 3))))
 (aH (lQ K (pv 0) (pm [6,7] (gG K (pv 4)) (λ_ _ _ _ _=>(fV K 2 rfl (bL (pn 6 gR) (bL (pn 7 gR) fR)))) (λ_ _ _ _ _=>dG) (λ_ _ _ _ _=>(bR (aE (pv 6) (aO (fP (fL K) rfl T.kF iO (aO (pv 7)))))))))
 (aL (lQ K (pv 0) (pm [6,8,9] (gG K (pv 5)) (λ_ _ _ _ _=>(fV K 3 rfl (bL (pn 6 gR) (bL (pn 8 gR) (bL (pn 9 gR) fR))))) (λ_ _ _ _ _=>dG) (λ_ _ _ _ _=>(bR (aE (pv 6) (aE (pv 8) (aO (pv 9))))))))))))))))),by unfold jH;walk_at "r"⟩
theorem be9:xN P w K mg base 5 "Archive" c_Archive (wK K cn "Archive" 5 oE):=
 iU (d:=jH) T.bg7 gR (by walk_at "u") (az4 T) rfl (λ_=>rfl)
theorem at7:eC P w K mg base 7 "_law_archive" ["_law_frame_here"] (bG K cn 1 mV):=by
 refine bI (d:=mR) T.aj8 lY (by walk_at "u") (λf cdv A outer s H E hr=>⟨_,(aH (pk 1 lY [2,3] (gG K (px K (pv 0) aF)) (λ_ _ _ _ _=>(fV K 2 rfl (bL (pn 2 lY) (bL (pn 3 lY) fR)))) (λ_ _ _ _ _=>dG) (λ_ _ _ _ _=>(bR (aE (pv 2) (aO (fP (fL K) rfl T.kF iO (aO (pv 3))))))))
 (aL (aW (oN (be9 T:) (hr.mono (by decide)) (aE (px K (pv 0) aF) (aE (px K (pv 0) aF) (aE (fP (fL K) rfl T.kF iO (aO (px K (pv 0) aF))) (aE (pv 1) (aO (fP (fL K) rfl T.kF iO (aO (px K (pv 0) aF)))))))))))),by unfold mR;walk_at "r"⟩) rfl (λ_=>rfl)
theorem cm4:eC P w K mg base 3 "is_due" ["archive","due","part"] (bG K cn 3 fO):=by
 refine bI (d:=nE) T.cc5 xD (by walk_at "u") (λf cdv A outer s H E hr=>⟨_,(aH (bW (pc (oe K hr) (pv 1) bS) (aL (aW (jG (as2 K (n:=dO) hr) (pv 2) (fF K (pv 0)) (by with_unfolding_all rfl)))) bN)
 (aH (bW (pc (oe K hr) (pv 1) bS) (aL (aW (jG (as2 K (n:=dO) hr) (pv 2) (pm [3] (gG K (fF K (pv 0))) (λ_ _ _ _ _=>(pn 3 xD)) (λ_ _ _ _ _=>dG) (λ_ _ _ _ _=>(px K (pv 3) aF))) (by with_unfolding_all rfl)))) bN)
 (aH (bW (pc (oe K hr) (pv 1) bS) (aL (aW (jG (as2 K (n:=dO) hr) (pv 2) (pm [4] (gG K (fF K (pv 0))) (λ_ _ _ _ _=>(pn 4 xD)) (λ_ _ _ _ _=>dG) (λ_ _ _ _ _=>(px K (pv 4) aF))) (by with_unfolding_all rfl)))) bN)
 (aL (aW (pf (gA T:) hr (aE (pv 2) (aE (px K (rW T.d_NUMBERS (pv 1)) aF) (aO (px K (rW T.d_NUMBERS (pv 1)) aF)))))))))),by unfold nE;walk_at "r"⟩) rfl (λ_=>rfl)
theorem bc9:eC P w K mg base 4 "are_due" ["archive","word","parts"] (bG K cn 3 qG):=by
 refine bI (d:=tP) T.cq0 vD (by walk_at "u") (λf cdv A outer s H E hr=>⟨_,(aH (bW (PW.pt (vX (db0 (bx9 T.d_PARTS (pv 1)) (by with_unfolding_all rfl)) (uI (pc (xQ K (n:=dO) hr) (aX (bT K) rfl T.dU cX (aO (pv 2))) (aX (bT K) rfl T.dU cX (aO (rW T.d_PARTS (pv 1)))))))) (aL (aW lO)) bN)
 (aL (aW (aX (iQ K) rfl T.rS oA (aO (pm [3,4] (bm3 K T.cl6 (aE (rW T.d_PARTS (pv 1)) (aO (pv 2)))) (λ_ _ _ _ _=>(fV K 2 rfl (bL (pn 3 vD) (bL (pn 4 vD) fR)))) (λ_ _ _ _ _=>dG) (λ_ _ _ _ _=>(pf (cm4 T:) hr (aE (pv 0) (aE (pv 3) (aO (pv 4)))))))))))),by unfold tP;walk_at "r"⟩) rfl (λ_=>rfl)
theorem au1(f:Addr)(cdv:Value)(A:Around)(outer:List Env)(s:Shared)(H:Hp)(E:XK)(hr:Room 0 (A.deeper (PyProof.Rows.envOfC "Archive.table" (aM iP) s.heap.objs.size f cdv))):
 ∃t,PSs (kY jM P w K mg base ["self","name","other","table"] "Archive.table" (aM iP) f cdv A outer s H E).nox (dH iP) t/\RS [] K cn E t jA:=
 ⟨_,(aH (iE PassesOwn.never rfl (gG K (fF K (pv 0))) (fV K 2 rfl (bL (pn 2 mZ) (bL (pn 3 mZ) fR))) (aL (bW (pc (oe K hr) (pv 2) (pv 1)) (aL (aW (fP (fL K) rfl T.kF iO (aO (pv 3))))) bN)))
 (aL (aW dW))),by unfold jA;walk_at "r"⟩
theorem ag2:gI P w K mg base 1 c_Archive "table" (bG K cn 2 eY):=
 cI (d:=jA) T.aa1 T.mG mZ (by walk_at "u") (au1 T) rfl (λ_=>rfl) (by decide)
theorem cx6:∀q∈[(c_Archive,bG K cn 2 eY)],gI P w K mg base 1 q.1 "table" q.2:=cJ (ag2 T) (vY)
theorem bo7:eC P w K mg base 1 "ages_of" ["table","dark","error","greatest"] (bG K cn 4 qF):=by
 refine bI (d:=tG) T.ck0 oS (by walk_at "u") (λf cdv A outer s H E hr=>⟨_,(aH (pz 4 oS (aK cD (aX (bT K) rfl T.dU cX (aO (pv 0))) aF))
 (aH (pk 5 oS [7] (iC rfl T.jQ (aO (aK (bC K) (aX (kZ K) rfl T.wF sG (aE (pv 4) (aO (pv 3)))) aF))) (λ_ _ _ _ _=>(pn 7 oS)) (λ_ _ _ _ _=>(bh4 (pc jW (aX (xC K) rfl T.be7 at9 (aO (aK cD (px K (pv 0) (pv 7)) (pv 1)))) (pv 2)))) (λ_ _ _ _ _=>(pv 7)))
 (aH (bW (pc (oe K hr) (aX (bT K) rfl T.dU cX (aO (pv 5))) aF) (aL (aW dW)) bN)
 (aH (pz 6 oS (px K (pv 5) (aK cD (aX (bT K) rfl T.dU cX (aO (pv 5))) aF)))
 (aL (aW (bR (aE (px K (pv 5) aF) (aO (aj0 (pc (oe K hr) (pv 6) (pv 4)) (pv 3) (pv 6))))))))))),by unfold tG;walk_at "r"⟩) rfl (λ_=>rfl)
theorem cy4:eC P w K mg base 1 "spaced" ["parts"] (bG K cn 1 vK):=by
 refine bI (d:=vF) T.ce5 ar6 (by walk_at "u") (λf cdv A outer s H E hr=>⟨_,(aL (aW (sT K PySem.F.plainAttrs_str PySem.F.slot_str_join PySem.F.type_str_join (cl4 K) bS (aO (pm [1] (gG K (pv 0)) (λ_ _ _ _ _=>(pn 1 ar6)) (λ_ _ _ _ _=>dG) (λ_ _ _ _ _=>(fP bq8 rfl T.dv8 df2 (aO (pv 1))))))))),by unfold vF;walk_at "r"⟩) rfl (λ_=>rfl)
theorem gC(f y:Addr)(cdv:Value)(A:Around)(outer:List Env)(s:Shared)(H:Hp)(E:XK)(hr:Room 1 (A.deeper (PyProof.Rows.envOfC "Saying.__init__" (aM dI) s.heap.objs.size f cdv))):
 ∃t,PSs (kY jM P w K mg base ["self","archive","word","parts","low","high","names","part","due","name"] "Saying.__init__" (aM dI) f cdv A outer s H E).nox (dH dI) t/\RS [(0,.ref y)] K cn E t bQ:=
 ⟨_,(aH (pk 6 dE [7,8] (bm3 K T.cl6 (aE (pv 3) (aO (rW T.d_PARTS (pv 2))))) (λ_ _ _ _ _=>(fV K 2 rfl (bL (pn 7 dE) (bL (pn 8 dE) fR)))) (λ_ _ _ _ _=>(bh4 (pc (oe K hr) (pv 8) bS))) (λ_ _ _ _ _=>(pv 7)))
 (aH (lQ K (pv 0) (pm [9] (gG K (pv 6)) (λ_ _ _ _ _=>(pn 9 dE)) (λ_ _ _ _ _=>dG) (λ_ _ _ _ _=>(sT K PySem.F.plainAttrs_list PySem.F.slot_list_index PySem.F.type_list_index (bw7 K (n:=dO) hr) (fF K (pv 1)) (aO (pv 9))))))
 (aH (lQ K (pv 0) (pv 4))
 (aH (lQ K (pv 0) (pv 5))
 (aL (lQ K (pv 0) (pf (cy4 T:) hr (aO (aK (bC K) (cV (aO (pv 2))) (fP (fL K) rfl T.kF iO (aO (pv 3)))))))))))),by unfold bQ;walk_at "r"⟩
theorem dq7:xN P w K mg base 2 "Ink" c_Ink (wK K cn "Ink" 5 al0):=
 iU (d:=bQ) T.dd5 dE (by walk_at "u") (gC T) rfl (λ_=>rfl)
theorem uG:eC P w K mg base 1 "reign_called" ["archive","name"] (bG K cn 2 jI):=by
 refine bI (d:=lV) T.am5 tL (by walk_at "u") (λf cdv A outer s H E hr=>⟨_,(aH (iE PassesOwn.never rfl (gG K (fF K (pv 0))) (pn 2 tL) (aL (bW (pc (oe K hr) (px K (pv 2) aF) (pv 1)) (aL (aW (pv 2))) bN)))
 (aL (aW dW))),by unfold lV;walk_at "r"⟩) rfl (λ_=>rfl)
theorem yE:eC P w K mg base 3 "reign_year" ["begin","length","k"] (bG K cn 3 lC):=by
 refine bI (d:=pC) T.bc2 al7 (by walk_at "u") (λf cdv A outer s H E hr=>⟨_,(aH (bW (iH (eK K (pf (gA T:) hr (aE (pv 2) (aE aF (aO (pv 1))))) (λ_=>rfl))) (aL (aW dW)) bN)
 (aL (aW (aK cD (aK (bC K) (pv 0) (pv 2)) aF)))),by unfold pC;walk_at "r"⟩) rfl (λ_=>rfl)
theorem cv7:xN P w K mg base 2 "Reign" c_Reign (wK K cn "Reign" 5 wE):=
 iU (d:=bQ) T.cb5 dE (by walk_at "u") (gC T) rfl (λ_=>rfl)
theorem ca7:xN P w K mg base 2 "Under" c_Under (wK K cn "Under" 5 vG):=
 iU (d:=bQ) T.cf5 dE (by walk_at "u") (gC T) rfl (λ_=>rfl)
theorem bm8:xN P w K mg base 2 "Between" c_Between (wK K cn "Between" 5 sK):=
 iU (d:=bQ) T.bz6 dE (by walk_at "u") (gC T) rfl (λ_=>rfl)
theorem cq8:xN P w K mg base 2 "After" c_After (wK K cn "After" 5 vZ):=
 iU (d:=bQ) T.cd5 dE (by walk_at "u") (gC T) rfl (λ_=>rfl)
theorem dz2:xN P w K mg base 2 "Same" c_Same (wK K cn "Same" 5 wR):=
 iU (d:=bQ) T.cz9 dE (by walk_at "u") (gC T) rfl (λ_=>rfl)
theorem cf1:xN P w K mg base 2 "Within" c_Within (wK K cn "Within" 5 tS):=
 iU (d:=bQ) T.cm0 dE (by walk_at "u") (gC T) rfl (λ_=>rfl)
theorem co6:xN P w K mg base 2 "Apart" c_Apart (wK K cn "Apart" 5 vS):=
 iU (d:=bQ) T.ca5 dE (by walk_at "u") (gC T) rfl (λ_=>rfl)
theorem bz0:eC P w K mg base 4 "ink_saying" ["archive","parts"] (bG K cn 2 oT):=by
 refine bI (d:=oU) T.bz1 wO (by walk_at "u") (λf cdv A outer s H E hr=>⟨_,(aH (pz 2 wO (pf (bo7 T:) hr (aE (ct2 (pv 0) (cx6 T:) (hr.mono (by decide)) (aO (px K (pv 1) aF))) (aE (px K (pv 1) aF) (aE (px K (pv 1) aF) (aO (aK cD (fF K (pv 0)) (fF K (pv 0)))))))))
 (aH (bW (pc bg1 (pv 2) dW) (aL kI) bN)
 (aL (aW (oN (dq7 T:) (hr.mono (by decide)) (aE (pv 0) (aE bS (aE (pv 1) (aE (aK cD (fF K (pv 0)) (px K (pv 2) aF)) (aO (aK cD (fF K (pv 0)) (px K (pv 2) aF)))))))))))),by unfold oU;walk_at "r"⟩) rfl (λ_=>rfl)
theorem al4:eC P w K mg base 4 "reign_saying" ["archive","parts"] (bG K cn 2 lP):=by
 refine bI (d:=mC) T.an5 oJ (by walk_at "u") (λf cdv A outer s H E hr=>⟨_,(aH (pz 2 oJ (pf (uG T:) hr (aE (pv 0) (aO (px K (pv 1) aF)))))
 (aH (pz 3 oJ (pf (yE T:) hr (aE (px K (pv 2) aF) (aE (px K (pv 2) aF) (aO (px K (pv 1) aF))))))
 (aH (bW (pc bg1 (pv 3) dW) (aL kI) bN)
 (aL (aW (oN (cv7 T:) (hr.mono (by decide)) (aE (pv 0) (aE bS (aE (pv 1) (aE (pv 3) (aO (pv 3)))))))))))),by unfold mC;walk_at "r"⟩) rfl (λ_=>rfl)
theorem aa5:eC P w K mg base 4 "under_saying" ["archive","parts"] (bG K cn 2 mB):=by
 refine bI (d:=lN) T.aw5 tF (by walk_at "u") (λf cdv A outer s H E hr=>⟨_,(aH (pz 2 tF (pf (uG T:) hr (aE (pv 0) (aO (px K (pv 1) aF)))))
 (aL (aW (oN (ca7 T:) (hr.mono (by decide)) (aE (pv 0) (aE bS (aE (pv 1) (aE (px K (pv 2) aF) (aO (pf (yE T:) hr (aE (px K (pv 2) aF) (aE (px K (pv 2) aF) (aO (px K (pv 2) aF)))))))))))))),by unfold lN;walk_at "r"⟩) rfl (λ_=>rfl)
theorem aq0:eC P w K mg base 4 "between_saying" ["archive","parts"] (bG K cn 2 jX):=by
 refine bI (d:=jY) T.aw0 yY (by walk_at "u") (λf cdv A outer s H E hr=>⟨_,(aH (bW (pc as8 (px K (pv 1) aF) (px K (pv 1) aF)) (aL kI) bN)
 (aL (aW (oN (bm8 T:) (hr.mono (by decide)) (aE (pv 0) (aE bS (aE (pv 1) (aE (px K (pv 1) aF) (aO (px K (pv 1) aF)))))))))),by unfold jY;walk_at "r"⟩) rfl (λ_=>rfl)
theorem ao4:eC P w K mg base 4 "after_saying" ["archive","parts"] (bG K cn 2 lT):=by
 refine bI (d:=lU) T.ax5 aw1 (by walk_at "u") (λf cdv A outer s H E hr=>⟨_,(aL (aW (oN (cq8 T:) (hr.mono (by decide)) (aE (pv 0) (aE bS (aE (pv 1) (aE aF (aO dW)))))))),by unfold lU;walk_at "r"⟩) rfl (λ_=>rfl)
theorem ar7:eC P w K mg base 4 "same_saying" ["archive","parts"] (bG K cn 2 mS):=by
 refine bI (d:=mW) T.ao8 au4 (by walk_at "u") (λf cdv A outer s H E hr=>⟨_,(aL (aW (oN (dz2 T:) (hr.mono (by decide)) (aE (pv 0) (aE bS (aE (pv 1) (aE aF (aO aF)))))))),by unfold mW;walk_at "r"⟩) rfl (λ_=>rfl)
theorem aa2:eC P w K mg base 4 "within_saying" ["archive","parts"] (bG K cn 2 kT):=by
 refine bI (d:=kX) T.ag3 av0 (by walk_at "u") (λf cdv A outer s H E hr=>⟨_,(aL (aW (oN (cf1 T:) (hr.mono (by decide)) (aE (pv 0) (aE bS (aE (pv 1) (aE aF (aO (px K (pv 1) aF))))))))),by unfold kX;walk_at "r"⟩) rfl (λ_=>rfl)
theorem ac4:eC P w K mg base 4 "apart_saying" ["archive","parts"] (bG K cn 2 mE):=by
 refine bI (d:=mF) T.ar5 ak1 (by walk_at "u") (λf cdv A outer s H E hr=>⟨_,(aH (bW (pc as8 (px K (pv 1) aF) (px K (pv 1) aF)) (aL kI) bN)
 (aL (aW (oN (co6 T:) (hr.mono (by decide)) (aE (pv 0) (aE bS (aE (pv 1) (aE (px K (pv 1) aF) (aO (px K (pv 1) aF)))))))))),by unfold mF;walk_at "r"⟩) rfl (λ_=>rfl)
theorem cw1:cw4 P w K mg base 4 "MAKERS" (cb6 K cn 2 tb_MAKERS):=cu7 T.cn0 (jT T.ak8 (bz0 T) (by decide) (jT T.ai3 (al4 T) (by decide) (jT T.aj3 (aa5 T) (by decide) (jT T.yZ (aq0 T) (by decide) (jT T.at3 (ao4 T) (by decide) (jT T.ap5 (ar7 T) (by decide) (jT T.ax0 (aa2 T) (by decide) (jT T.an3 (ac4 T) (by decide) (cq4)))))))))
theorem br2:eC P w K mg base 5 "saying_of" ["archive","word","parts"] (bG K cn 3 cP):=by
 refine bI (d:=pX) T.bj3 bl1 (by walk_at "u") (λf cdv A outer s H E hr=>⟨_,(aH (bW (iH (eK K (pf (bc9 T:) hr (aE (pv 0) (aE (pv 1) (aO (pv 2))))) (λ_=>rfl))) (aL kI) bN)
 (aH (bW (PW.pt (sN (pc (oe K hr) (px K (rW T.d_PARTS (pv 1)) aF) bS) (pF (pc (oe K hr) (px K (pv 2) aF) (px K (pv 2) aF))))) (aL kI) bN)
 (aL (aW (cm3 (cw1 T:) (hr.mono (by decide)) (pv 1) (aE (pv 0) (aO (pv 2)))))))),by unfold pX;walk_at "r"⟩) rfl (λ_=>rfl)
theorem by5:eC P w K mg base 6 "_law_heap" ["_law_archive_here","_law_told"] (bG K cn 2 rM):=by
 refine bI (d:=rP) T.by6 mO (by walk_at "u") (λf cdv A outer s H E hr=>⟨_,(aL (aW (pm [2,3,4,5] (gG K (pv 1)) (λ_ _ _ _ _=>(fV K 4 rfl (bL (pn 2 mO) (bL (pn 3 mO) (bL (pn 4 mO) (bL (pn 5 mO) fR)))))) (λ_ _ _ _ _=>dG) (λ_ _ _ _ _=>(pf (br2 T:) hr (aE (pv 0) (aE (pv 2) (aO (fP (fL K) rfl T.kF iO (aO (pv 3))))))))))),by unfold rP;walk_at "r"⟩) rfl (λ_=>rfl)
theorem ac0:eC P w K mg base 1 "_law_steps" ["_law_frame_here","_law_told"] (bG K cn 2 mL):=by
 refine bI (d:=qB) T.ba3 gP (by walk_at "u") (λf cdv A outer s H E hr=>⟨_,(aH (pz 2 gP (cV qQ))
 (aH (iE PassesOwn.never rfl (iC rfl T.jQ (aO (aX (bT K) rfl T.dU cX (aO (pv 1))))) (pn 3 gP) (aH (pz 4 gP (px K (px K (pv 1) (pv 3)) aF))
 (aH (xJ (px K (px K (pv 1) (pv 3)) aF) (fV K 2 rfl (bL (pn 5 gP) (bL (pn 6 gP) fR))))
 (aH (pz 7 gP (px K (aK (bC K) (pv 4) (bR (aO dW))) aF))
 (aH (bW (pc sA (pv 6) dW) (aL (fG (tO K (pv 2) (aO (bR (aE (pv 7) (aE (px K (pv 4) aF) (aE (pv 6) (aO (pv 3)))))))))) bN)
 (aL (bW (pc sA (pv 5) dW) (aL (fG (tO K (pv 2) (aO (bR (aE (px K (pv 4) aF) (aE (pv 7) (aE (aK cD aF (pv 5)) (aO (pv 3)))))))))) bN)))))))
 (aH (iE PassesOwn.never rfl (iC rfl T.jQ (aO (aX (bT K) rfl T.dU cX (aO (px K (pv 0) aF))))) (pn 8 gP) (aH (fG (tO K (pv 2) (aO (bR (aE dW (aE (pv 8) (aE (px K (pv 0) aF) (aO dW))))))))
 (aL (fG (tO K (pv 2) (aO (bR (aE (pv 8) (aE dW (aE (aK cD aF (px K (pv 0) aF)) (aO dW)))))))))))
 (aL (aW (pv 2)))))),by unfold qB;walk_at "r"⟩) rfl (λ_=>rfl)
theorem fW(f:Addr)(cdv:Value)(A:Around)(outer:List Env)(s:Shared)(H:Hp)(E:XK)(hr:Room 0 (A.deeper (PyProof.Rows.envOfC "Saying.shown" (aM cZ) s.heap.objs.size f cdv))):
 ∃t,PSs (kY jM P w K mg base ["self"] "Saying.shown" (aM cZ) f cdv A outer s H E).nox (dH cZ) t/\RS [] K cn E t dD:=
 ⟨_,(aL (aW (fF K (pv 0)))),by unfold dD;walk_at "r"⟩
theorem aj7:gI P w K mg base 1 c_After "shown" (bG K cn 1 aR):=
 cI (d:=dD) T.aj5 T.nI eX (by walk_at "u") (fW T) rfl (λ_=>rfl) (by decide)
theorem aq9:gI P w K mg base 1 c_Same "shown" (bG K cn 1 aR):=
 cI (d:=dD) T.af8 T.pN eX (by walk_at "u") (fW T) rfl (λ_=>rfl) (by decide)
theorem ad5:gI P w K mg base 1 c_Within "shown" (bG K cn 1 aR):=
 cI (d:=dD) T.aw3 T.lM eX (by walk_at "u") (fW T) rfl (λ_=>rfl) (by decide)
theorem av7:gI P w K mg base 1 c_Under "shown" (bG K cn 1 aR):=
 cI (d:=dD) T.ab6 T.nH eX (by walk_at "u") (fW T) rfl (λ_=>rfl) (by decide)
theorem bq2:gI P w K mg base 1 c_Ink "shown" (bG K cn 1 aR):=
 cI (d:=dD) T.bj2 T.sY eX (by walk_at "u") (fW T) rfl (λ_=>rfl) (by decide)
theorem am7:gI P w K mg base 1 c_Reign "shown" (bG K cn 1 aR):=
 cI (d:=dD) T.au5 T.nF eX (by walk_at "u") (fW T) rfl (λ_=>rfl) (by decide)
theorem ax7:gI P w K mg base 1 c_Apart "shown" (bG K cn 1 aR):=
 cI (d:=dD) T.av5 T.nG eX (by walk_at "u") (fW T) rfl (λ_=>rfl) (by decide)
theorem ad3:gI P w K mg base 1 c_Between "shown" (bG K cn 1 aR):=
 cI (d:=dD) T.az0 T.kD eX (by walk_at "u") (fW T) rfl (λ_=>rfl) (by decide)
theorem bs4:∀q∈[(c_Ink,bG K cn 1 aR),(c_Reign,bG K cn 1 aR),(c_Under,bG K cn 1 aR),(c_Between,bG K cn 1 aR),(c_After,bG K cn 1 aR),(c_Same,bG K cn 1 aR),(c_Within,bG K cn 1 aR),(c_Apart,bG K cn 1 aR)],gI P w K mg base 1 q.1 "shown" q.2:=cJ (bq2 T) (cJ (am7 T) (cJ (av7 T) (cJ (ad3 T) (cJ (aj7 T) (cJ (aq9 T) (cJ (ad5 T) (cJ (ax7 T) (vY))))))))
theorem bv2:eC P w K mg base 1 "_law_years" ["_law_cell_here","_law_frame_here","_law_hidden_here"] (bG K cn 3 qD):=by
 refine bI (d:=pO) T.bh3 gQ (by walk_at "u") (λf cdv A outer s H E hr=>⟨_,(aH (pz 0 gQ (aK bH (pv 0) (aK aj1 aF aF)))
 (aH (pz 3 gQ (fP (fL K) rfl T.kF iO (aO (pv 2))))
 (aH (pz 4 gQ (aK bH (aK dZ (pv 0) aF) (aX (bT K) rfl T.dU cX (aO (pv 3)))))
 (aH (bW (pc yV (aK bH (pv 0) aF) aF) (aL (xJ (aK cD (aK (bC K) (px K (pv 3) (pv 4)) (aK bH (aK dZ (pv 0) aF) aF)) aF) (bk8 (pv 3) (pv 4) af9))) (aL (bW (pc (oe K hr) (aK bH (pv 0) aF) aF) (aH (pz 5 gQ (aK cD (px K (pv 1) aF) aF))
 (aH (pz 6 gQ (aK (bC K) (aK cD (px K (pv 1) aF) (pv 5)) aF))
 (aL (xJ (aK (bC K) (pv 5) (aK bH (aK dZ (pv 0) aF) (pv 6))) (bk8 (pv 3) (pv 4) af9))))) (aL (bW (pc (oe K hr) (aK bH (pv 0) aF) aF) (aL (pz 3 gQ (aK (ca9 K) (cV (aO (px K (cV (aE (px K (pv 1) aF) (aO (px K (pv 1) aF)))) (aK bH (aK dZ (pv 0) aF) aF)))) (aX (bT K) rfl T.dU cX (aO (pv 3)))))) (aL (bW (pc (oe K hr) (aK bH (pv 0) aF) aF) (aL (pz 3 gQ (aK (bC K) (pv 3) (cV (aO (px K (pv 3) (pv 4))))))) (aL (bW (pc (oe K hr) (aK bH (pv 0) aF) aF) (aL (fG (sT K PySem.F.plainAttrs_list PySem.F.slot_list_pop PySem.F.type_list_pop cj2 (pv 3) (aO (pv 4))))) bN)))))))))
 (aL (aW (pv 3))))))),by unfold pO;walk_at "r"⟩) rfl (λ_=>rfl)
theorem fT(f:Addr)(cdv:Value)(A:Around)(outer:List Env)(s:Shared)(H:Hp)(E:XK)(hr:Room 0 (A.deeper (PyProof.Rows.envOfC "Saying.about" (aM dF) s.heap.objs.size f cdv))):
 ∃t,PSs (kY jM P w K mg base ["self"] "Saying.about" (aM dF) f cdv A outer s H E).nox (dH dF) t/\RS [] K cn E t dA:=
 ⟨_,(aL (aW (fP (fL K) rfl T.kF iO (aO (fF K (pv 0)))))),by unfold dA;walk_at "r"⟩
theorem aq7:gI P w K mg base 1 c_Reign "about" (bG K cn 1 aU):=
 cI (d:=dA) T.ac6 T.nF fE (by walk_at "u") (fT T) rfl (λ_=>rfl) (by decide)
theorem bo2:gI P w K mg base 1 c_Ink "about" (bG K cn 1 aU):=
 cI (d:=dA) T.bd2 T.sY fE (by walk_at "u") (fT T) rfl (λ_=>rfl) (by decide)
theorem ay7:gI P w K mg base 1 c_After "about" (bG K cn 1 aU):=
 cI (d:=dA) T.as5 T.nI fE (by walk_at "u") (fT T) rfl (λ_=>rfl) (by decide)
theorem ap7:gI P w K mg base 1 c_Apart "about" (bG K cn 1 aU):=
 cI (d:=dA) T.al5 T.nG fE (by walk_at "u") (fT T) rfl (λ_=>rfl) (by decide)
theorem aw4:gI P w K mg base 1 c_Within "about" (bG K cn 1 aU):=
 cI (d:=dA) T.au3 T.lM fE (by walk_at "u") (fT T) rfl (λ_=>rfl) (by decide)
theorem ak7:gI P w K mg base 1 c_Under "about" (bG K cn 1 aU):=
 cI (d:=dA) T.ao5 T.nH fE (by walk_at "u") (fT T) rfl (λ_=>rfl) (by decide)
theorem ae3:gI P w K mg base 1 c_Between "about" (bG K cn 1 aU):=
 cI (d:=dA) T.ab1 T.kD fE (by walk_at "u") (fT T) rfl (λ_=>rfl) (by decide)
theorem ap9:gI P w K mg base 1 c_Same "about" (bG K cn 1 aU):=
 cI (d:=dA) T.ap8 T.pN fE (by walk_at "u") (fT T) rfl (λ_=>rfl) (by decide)
theorem cw8:∀q∈[(c_Ink,bG K cn 1 aU),(c_Reign,bG K cn 1 aU),(c_Under,bG K cn 1 aU),(c_Between,bG K cn 1 aU),(c_After,bG K cn 1 aU),(c_Same,bG K cn 1 aU),(c_Within,bG K cn 1 aU),(c_Apart,bG K cn 1 aU)],gI P w K mg base 1 q.1 "about" q.2:=cJ (bo2 T) (cJ (aq7 T) (cJ (ak7 T) (cJ (ae3 T) (cJ (ay7 T) (cJ (ap9 T) (cJ (aw4 T) (cJ (ap7 T) (vY))))))))
theorem eV(f:Addr)(cdv:Value)(A:Around)(outer:List Env)(s:Shared)(H:Hp)(E:XK)(hr:Room 0 (A.deeper (PyProof.Rows.envOfC "Saying.bounds" (aM cQ) s.heap.objs.size f cdv))):
 ∃t,PSs (kY jM P w K mg base ["self"] "Saying.bounds" (aM cQ) f cdv A outer s H E).nox (dH cQ) t/\RS [] K cn E t cT:=
 ⟨_,(aL (aW (bR (aE (fF K (pv 0)) (aO (fF K (pv 0))))))),by unfold cT;walk_at "r"⟩
theorem ax4:gI P w K mg base 1 c_After "bounds" (bG K cn 1 aP):=
 cI (d:=cT) T.am3 T.nI eH (by walk_at "u") (eV T) rfl (λ_=>rfl) (by decide)
theorem au7:gI P w K mg base 1 c_Same "bounds" (bG K cn 1 aP):=
 cI (d:=cT) T.az5 T.pN eH (by walk_at "u") (eV T) rfl (λ_=>rfl) (by decide)
theorem aa4:gI P w K mg base 1 c_Reign "bounds" (bG K cn 1 aP):=
 cI (d:=cT) T.al3 T.nF eH (by walk_at "u") (eV T) rfl (λ_=>rfl) (by decide)
theorem au0:gI P w K mg base 1 c_Between "bounds" (bG K cn 1 aP):=
 cI (d:=cT) T.zG T.kD eH (by walk_at "u") (eV T) rfl (λ_=>rfl) (by decide)
theorem ap1:gI P w K mg base 1 c_Within "bounds" (bG K cn 1 aP):=
 cI (d:=cT) T.ay0 T.lM eH (by walk_at "u") (eV T) rfl (λ_=>rfl) (by decide)
theorem ar4:gI P w K mg base 1 c_Apart "bounds" (bG K cn 1 aP):=
 cI (d:=cT) T.ah3 T.nG eH (by walk_at "u") (eV T) rfl (λ_=>rfl) (by decide)
theorem bg0:gI P w K mg base 1 c_Ink "bounds" (bG K cn 1 aP):=
 cI (d:=cT) T.ac8 T.sY eH (by walk_at "u") (eV T) rfl (λ_=>rfl) (by decide)
theorem ab4:gI P w K mg base 1 c_Under "bounds" (bG K cn 1 aP):=
 cI (d:=cT) T.ax3 T.nH eH (by walk_at "u") (eV T) rfl (λ_=>rfl) (by decide)
theorem ca3:∀q∈[(c_Ink,bG K cn 1 aP),(c_Reign,bG K cn 1 aP),(c_Under,bG K cn 1 aP),(c_Between,bG K cn 1 aP),(c_After,bG K cn 1 aP),(c_Same,bG K cn 1 aP),(c_Within,bG K cn 1 aP),(c_Apart,bG K cn 1 aP)],gI P w K mg base 1 q.1 "bounds" q.2:=cJ (bg0 T) (cJ (aa4 T) (cJ (ab4 T) (cJ (au0 T) (cJ (ax4 T) (cJ (au7 T) (cJ (ap1 T) (cJ (ar4 T) (vY))))))))
theorem ag5:eC P w K mg base 2 "saying_steps" ["saying","number"] (bG K cn 2 lR):=by
 refine bI (d:=lW) T.at5 iW (by walk_at "u") (λf cdv A outer s H E hr=>⟨_,(aH (pz 2 iW (tN (pv 0) (cw8 T:) (hr.mono (by decide))))
 (aH (pz 3 iW (tN (pv 0) (ca3 T:) (hr.mono (by decide))))
 (aH (pz 4 iW (aj0 (pc (oe K hr) (aX (bT K) rfl T.dU cX (aO (pv 2))) aF) (px K (pv 2) aF) dW))
 (aH (pz 5 iW (cV qQ))
 (aH (bW (pc sA (px K (pv 3) aF) dW) (aL (fG (tO K (pv 5) (aO (bR (aE (pv 4) (aE (px K (pv 2) aF) (aE (px K (pv 3) aF) (aO (pv 1)))))))))) bN)
 (aH (bW (pc sA (px K (pv 3) aF) dW) (aL (fG (tO K (pv 5) (aO (bR (aE (px K (pv 2) aF) (aE (pv 4) (aE (aK cD aF (px K (pv 3) aF)) (aO (pv 1)))))))))) bN)
 (aL (aW (pv 5))))))))),by unfold lW;walk_at "r"⟩) rfl (λ_=>rfl)
theorem an9:eC P w K mg base 1 "span_steps" ["archive","letter"] (bG K cn 2 oB):=by
 refine bI (d:=oX) T.bb2 az7 (by walk_at "u") (λf cdv A outer s H E hr=>⟨_,(aL (aW (cV (aE (bR (aE dW (aE (pv 1) (aE (fF K (pv 0)) (aO dW))))) (aO (bR (aE (pv 1) (aE dW (aE (aK cD aF (fF K (pv 0))) (aO dW)))))))))),by unfold oX;walk_at "r"⟩) rfl (λ_=>rfl)
theorem bs6:eC P w K mg base 3 "steps_of" ["archive","sayings"] (bG K cn 2 qX):=by
 refine bI (d:=rG) T.bc7 mJ (by walk_at "u") (λf cdv A outer s H E hr=>⟨_,(aH (pz 2 mJ (cV qQ))
 (aH (iE PassesOwn.never rfl (cw0 K T.bb3 (aO (pv 1))) (fV K 2 rfl (bL (pn 3 mJ) (bL (pn 4 mJ) fR))) (aL (fG (sT K PySem.F.plainAttrs_list PySem.F.slot_list_extend PySem.F.type_list_extend aj6 (pv 2) (aO (pf (ag5 T:) hr (aE (pv 4) (aO (pv 3)))))))))
 (aH (iE PassesOwn.never rfl (iC rfl T.jQ (aO (aX (bT K) rfl T.dU cX (aO (fF K (pv 0)))))) (pn 5 mJ) (aL (fG (sT K PySem.F.plainAttrs_list PySem.F.slot_list_extend PySem.F.type_list_extend aj6 (pv 2) (aO (pf (an9 T:) hr (aE (pv 0) (aO (pv 5)))))))))
 (aL (aW (pv 2)))))),by unfold rG;walk_at "r"⟩) rfl (λ_=>rfl)
theorem ag1:eC P w K mg base 1 "place_of" ["end","ground"] (bG K cn 2 iZ):=by
 refine bI (d:=oR) T.bw6 bw2 (by walk_at "u") (λf cdv A outer s H E hr=>⟨_,(aL (aW (aj0 (pc bg1 (pv 0) dW) (pv 1) (pv 0)))),by unfold oR;walk_at "r"⟩) rfl (λ_=>rfl)
theorem bn9:eC P w K mg base 2 "is_kept" ["step","years"] (bG K cn 2 nK):=by
 refine bI (d:=tH) T.cp0 ao1 (by walk_at "u") (λf cdv A outer s H E hr=>⟨_,(aH (pz 2 ao1 (aK cD (aX (bT K) rfl T.dU cX (aO (pv 1))) aF))
 (aL (aW (jG jW (px K (pv 1) (pf (ag1 T:) hr (aE (px K (pv 0) aF) (aO (pv 2))))) (aK (bC K) (px K (pv 1) (pf (ag1 T:) hr (aE (px K (pv 0) aF) (aO (pv 2))))) (px K (pv 0) aF)) (qN _))))),by unfold tH;walk_at "r"⟩) rfl (λ_=>rfl)
theorem ba4:eC P w K mg base 4 "holds" ["archive","sayings","years"] (bG K cn 3 uR):=by
 refine bI (d:=yP) T.da0 wB (by walk_at "u") (λf cdv A outer s H E hr=>⟨_,(aH (bW (PW.pt (vX (pc (xQ K (n:=dO) hr) (aX (bT K) rfl T.dU cX (aO (pv 2))) (aX (bT K) rfl T.dU cX (aO (fF K (pv 0))))) (uI (iH (eK K (aX (iQ K) rfl T.rS oA (aO (pm [4] (gG K (pv 2)) (λ_ _ _ _ _=>(pn 4 wB)) (λ_ _ _ _ _=>dG) (λ_ _ _ _ _=>(pf (ar1 T:) hr (aO (pv 4))))))) (λ_=>rfl)))))) (aL (aW lO)) bN)
 (aH (pz 3 wB (aK (bC K) (pv 2) (cV (aO aF))))
 (aL (aW (aX (iQ K) rfl T.rS oA (aO (pm [5] (gG K (pf (bs6 T:) hr (aE (pv 0) (aO (pv 1))))) (λ_ _ _ _ _=>(pn 5 wB)) (λ_ _ _ _ _=>dG) (λ_ _ _ _ _=>(pf (bn9 T:) hr (aE (pv 5) (aO (pv 3)))))))))))),by unfold yP;walk_at "r"⟩) rfl (λ_=>rfl)
theorem zY:eC P w K mg base 1 "_law_holds" ["_law_years_here","_law_steps_here"] (bG K cn 2 jF):=by
 refine bI (d:=pW) T.bf3 fY (by walk_at "u") (λf cdv A outer s H E hr=>⟨_,(aH (iE PassesOwn.never rfl (gG K (pv 1)) (fV K 4 rfl (bL (pn 2 fY) (bL (pn 3 fY) (bL (pn 4 fY) (bL (pn 5 fY) fR))))) (aH (pz 6 fY aF)
 (aH (pz 7 fY aF)
 (aH (bW (pc sA (pv 2) dW) (aL (pz 6 fY (px K (pv 0) (pv 2)))) bN)
 (aH (bW (pc sA (pv 3) dW) (aL (pz 7 fY (px K (pv 0) (pv 3)))) bN)
 (aL (bW (pc as8 (pv 7) (aK (bC K) (pv 6) (pv 4))) (aL (aW lO)) bN)))))))
 (aL (aW lO))),by unfold pW;walk_at "r"⟩) rfl (λ_=>rfl)
theorem dc2{f:Addr}{fd:FuncData}(F:Fun K "law" "law" rD f fd):FnOk P w K mg base jM 8 f fd ["_law_script"] (bG K cn 1 ay8):=by
 refine ay4 (d:=at8) F fU (λcdv A outer s H E hr=>⟨_,(aH (pz 1 fU (pf (bx2 T:) hr (aE (pv 0) (aO aF))))
 (aH (pz 2 fU (hU (qT K) (pv 0) (gT aF) (gT aF)))
 (aH (pz 3 fU (pf (ao9 T:) hr (aE (aK dZ (pf (rC T:) hr (aE (pv 0) (aO aF))) aF) (aO (pv 1)))))
 (aH (pz 4 fU (pf (aw7 T:) hr (aE (pv 2) (aE (pv 1) (aE (jG (oe K hr) (aK bH (pf (rC T:) hr (aE (pv 0) (aO aF))) aF) aF (qN _)) (aO (pv 3)))))))
 (aH (pz 5 fU (pf (at7 T:) hr (aO (pv 1))))
 (aH (pz 6 fU (pf (by5 T:) hr (aE (pv 5) (aO (pv 4)))))
 (aH (pz 7 fU (pf (ac0 T:) hr (aE (pv 1) (aO (pv 4)))))
 (aH (pk 8 fU [18] (gG K (pv 6)) (λ_ _ _ _ _=>(pn 18 fU)) (λ_ _ _ _ _=>dG) (λ_ _ _ _ _=>(tN (pv 18) (bs4 T:) (hr.mono (by decide)))))
 (aH (pz 9 fU (aK bH (aK dZ (pf (rC T:) hr (aE (pv 0) (aO aF))) aF) (aK (bC K) (aX (bT K) rfl T.dU cX (aO (pv 4))) aF)))
 (aH (pz 10 fU (aK (bC K) (hU (qT K) (pv 6) kM (gT (pv 9))) (hU (qT K) (pv 6) (gT (aK (bC K) (pv 9) aF)) kM)))
 (aH (pz 11 fU (pf (ac0 T:) hr (aE (pv 1) (aO (aK (bC K) (hU (qT K) (pv 4) kM (gT (pv 9))) (hU (qT K) (pv 4) (gT (aK (bC K) (pv 9) aF)) kM))))))
 (aH (pz 12 fU (aX (bT K) rfl T.dU cX (aO (px K (pv 1) aF))))
 (aH (iE PassesOwn.never rfl (gG K (aK (bC K) (hU (qT K) (pv 0) (gT aF) (gT aF)) (cV (aE aF (aO aF))))) (pn 13 fU) (aH (pz 14 fU (pf (bv2 T:) hr (aE (pv 13) (aE (pv 1) (aO (pv 3))))))
 (aH (pz 15 fU (fP (fL K) rfl T.kF iO (aO (pv 14))))
 (aH (pz 16 fU (pf (ba4 T:) hr (aE (pv 5) (aE (pv 6) (aO (pv 15))))))
 (aH (pz 17 fU (sL (jG (oe K hr) (aX (bT K) rfl T.dU cX (aO (pv 14))) (pv 12) (qN _)) (sI (pf (zY T:) hr (aE (pv 14) (aO (pv 7)))))))
 (aH (bW (PW.pt (vX (iH (eK K (aX (xS K) rfl T.sX qS (aE (pv 16) (aO (bg6 T.cl0 bi4)))) (λ_=>rfl))) (vX (pc (xQ K (n:=dO) hr) (pv 16) (pv 17)) (uI (pc (xQ K (n:=dO) hr) (pv 15) (pv 14)))))) (aL (aW lO)) bN)
 (aL (bW (pc (xQ K (n:=dO) hr) (pf (ba4 T:) hr (aE (pv 5) (aE (pv 10) (aO (pv 15))))) (sL (jG (oe K hr) (aX (bT K) rfl T.dU cX (aO (pv 14))) (pv 12) (qN _)) (sI (pf (zY T:) hr (aE (pv 14) (aO (pv 11))))))) (aL (aW lO)) bN))))))))
 (aL (aW (jG (oe K hr) (pm [18] (gG K (pv 6)) (λ_ _ _ _ _=>(pn 18 fU)) (λ_ _ _ _ _=>dG) (λ_ _ _ _ _=>(tN (pv 18) (bs4 T:) (hr.mono (by decide))))) (pv 8) (qN _))))))))))))))))),by unfold at8;walk_at "r"⟩) rfl (λ_=>rfl)
end
theorem di0{l:PySem.W.OpenLaw}{w:World}{K:PySem.W.Frag}{h:Heap}{mg:Str->Option Value}{fa f0:Addr}(X:K.In h)(G:h.Ns mainGlobals mg)(hfa:mg "law"=some (.ref fa))
 {od0 an0:Option Addr}{sl0:Array (Option Value)}{oc0 kV0 dc0 pm0 cd0 ct0:Value}
 (a0:PySem.W.nsIn K mainGlobals "law"=some (some (.ref f0)))(l0:K.lookup f0=some ⟨oc0,od0,.func (PySem.W.fnOf "law" "law" (iM rD) (dH rD) (aM rD) .none kV0 dc0 pm0 an0 cd0 ct0),sl0⟩)(c0:PySem.W.codeIn K cd0 "law"=true)(k0:PySem.W.keepIn K (.ref f0)=true)
 {cn:Str->Option Addr}{c_Archive c_Ink c_Reign c_Under c_Between c_After c_Same c_Within c_Apart:Addr}{nR sB gH:List (Str×Value)}
 (T:Txt w K cn mg c_Archive c_Ink c_Reign c_Under c_Between c_After c_Same c_Within c_Apart nR sB gH)
 (main:∀ns:List Int,ns.length<=63->(∀n∈ns,Builtin.Int.intBits n<=1048576)->ay8 [.lst false (ns.map .int)]=.ok (.bl true)):
 ∃fd:FuncData,(∀(s:Shared)(v:Value),BindsTo s fd ⟨[v],[]⟩ [("_law_script",v)])/\∀base:Heap,K.In base->base.Ns mainGlobals mg->FnOk l.prog w K mg base jM 8 fa fd ["_law_script"] (av8 K):=by
 have e:=hfa.symm.trans (PySem.W.mg_of X G a0)
 cases e
 have F0:=af3 (st:=rD) l0 c0 k0
 have key:∀base:Heap,FnOk l.prog w K mg base jM 8 fa (PySem.W.fnOf "law" "law" (iM rD) (dH rD) (aM rD) .none kV0 dc0 pm0 an0 cd0 ct0) ["_law_script"] (av8 K):=by
  intro base
  exact law_fn (dc2 T F0) main
 exact⟨_,λs v=>.of_eq rfl,λbase _ _=>key base⟩
def gL(n k:Int):Int:=
 let p:=(n%1000000021+4099*k+77)*30011%2140000027
 let f:=p/46133*(p%46133)+6007*(p/46133)+271*(p%46133)+k
 f*(f%1009+7919)%1700000009
theorem ae5(n k:Int):0<=gL n k/\gL n k<1700000009:=⟨Int.emod_nonneg _ (by decide),Int.emod_lt_of_pos _ (by decide)⟩
theorem bn3(n k:Int):dM [.int n,.int k]=.ok (.int (gL n k)):=by
 unfold dM qC
 have q:∀f:Int,mulOk f (f%1009+7919):=λf=>bj5 (by have:=Int.emod_nonneg f (show(1009:Int)≠0 by decide);omega) (by have:=Int.emod_lt_of_pos f (show(0:Int)<1009 by decide);omega)
 have q2:∀p:Int,mulOk (p/46133) (p%46133):=λp=>bj5 (by have:=Int.emod_nonneg p (show(46133:Int)≠0 by decide);omega) (by have:=Int.emod_lt_of_pos p (show(0:Int)<46133 by decide);omega)
 have q3:∀p:Int,uA p 46133:=λp=>⟨by decide,by decide⟩
 walk_at "ev"
 rfl
theorem by7(o:Bool)(ns:List Int)(k:Nat):iA [.lst o (ns.map .int),.int k]=.ok (.int (ns.getD k 0)):=by
 unfold iA rR
 by_cases h:k<ns.length
 . have h1:decide ((k:Int)<(ns.length:Nat))=true:=by simpa using h
   have h2:atI (ns.map T.int) (k:Int)=some (.int (ns.getD k 0)):=eP (by simp[List.getD_eq_getElem?_getD,List.getElem?_eq_getElem h])
   walk_at "ev"
 . have h1:decide ((k:Int)<(ns.length:Nat))=false:=by simpa using h
   have h2:ns.getD k 0=0:=by simp[List.getD_eq_getElem?_getD,List.getElem?_eq_none (show ns.length<=k by omega)]
   walk_at "ev"
def eight:List Str:=["a","ab","abc","b","ba","zzzzzzzz","zzzzzzzy","q"]
def turned(k:Nat):List Str:=eight.drop k++eight.take k
theorem ay9{α:Type}(xs:List α)(k:Nat)(h:k<=xs.length):eE xs (some (k:Int)) none=xs.drop k:=by
 unfold eE
 have e1:HT.sIx xs.length 0 (some (k:Int))=k:=by
  simp only[HT.sIx]
  rw[if_neg (by omega)]
  omega
 have e2:HT.sIx xs.length xs.length none=xs.length:=rfl
 rw[e1,e2,List.take_of_length_le (by simp)]
theorem ai1{α:Type}(xs:List α)(k:Nat):eE xs none (some (k:Int))=xs.take k:=by
 unfold eE
 have e1:HT.sIx xs.length 0 none=0:=rfl
 have e2:HT.sIx xs.length xs.length (some (k:Int))=min k xs.length:=by
  simp only[HT.sIx]
  rw[if_neg (by omega)]
  omega
 rw[e1,e2,List.drop_zero,Nat.sub_zero]
 rw[List.take_eq_take_iff]
 omega
theorem cv8(n:Int):pZ [.int n]=.ok (.lst true ((turned (n%8).toNat).map .str)):=by
 unfold pZ pY
 have h0:=Int.emod_nonneg n (show(8:Int)≠0 by decide)
 have h1:=Int.emod_lt_of_pos n (show(0:Int)<8 by decide)
 obtain⟨k,hk⟩:=pG h0
 have hk8:k<8:=by omega
 have c1:eE [T.str "a",.str "ab",.str "abc",.str "b",.str "ba",.str "zzzzzzzz",.str "zzzzzzzy",.str "q"] (some (n%8)) none=(eight.drop k).map .str:=by
  rw[hk]
  exact(ay9 (eight.map T.str) k (by show k<=8;omega)).trans List.map_drop.symm
 have c2:eE [T.str "a",.str "ab",.str "abc",.str "b",.str "ba",.str "zzzzzzzz",.str "zzzzzzzy",.str "q"] none (some (n%8))=(eight.take k).map .str:=by
  rw[hk]
  exact(ai1 (eight.map T.str) k).trans List.map_take.symm
 have l1:(eight.drop k).length+(eight.take k).length<=100000:=by simp[eight];omega
 rw[show(turned (n%8).toNat)=eight.drop k++eight.take k by rw[hk];rfl,List.map_append]
 clear hk
 walk_at "ev"
structure Fm where
 first:Int
 span:Int
 names:List Str
 inks:List (Str×List Int)
 reigns:List (Str×Int×Int)
def dN(o:Bool)(p:Str×List Int):T:=.tup [.str p.1,.lst o (p.2.map .int)]
def eN(p:Str×Int×Int):T:=.tup [.str p.1,.int p.2.1,.int p.2.2]
def fX(o:Bool)(f:Fm):T:=.tup [.int f.first,.int (f.first+f.span),.lst o (f.names.map .str),.lst o (f.inks.map (dN o)),.lst o (f.reigns.map eN)]
def lZ(w:Str):Bool:=decide (1<=(w.length:Int))&&(decide ((w.length:Int)<=8)&&w.cps.toList.all λc=>occ "abcdefghijklmnopqrstuvwxyz" ⟨#[c]⟩)
structure TabOk (xs:List Int):Prop where
 l1:1<=xs.length
 l60:xs.length<=60
 b:∀x∈xs,0<=x/\x<=408
 f:xs.Pairwise (λa b=>b<=a)
structure Gd (f:Fm):Prop where
 s0:0<=f.span
 s1:f.span<=300
 f0:-3000<=f.first
 f1:f.first+f.span<=3000
 n1:1<=f.names.length
 n8:f.names.length<=8
 nn:∀x∈f.names,lZ x=true
 nd:f.names.Nodup
 i1:2<=f.inks.length
 i6:f.inks.length<=6
 ind:(f.inks.map (·.1)).Nodup
 inn:∀p∈f.inks,lZ p.1=true/\TabOk p.2
 r1:2<=f.reigns.length
 r8:f.reigns.length<=8
 rnd:(f.reigns.map (·.1)).Nodup
 rn:∀p∈f.reigns,lZ p.1=true/\-4000<=p.2.1/\p.2.1<=4000/\1<=p.2.2/\p.2.2<=100
theorem ar9(l:List Int){i:Int}(h0:0<=i)(h1:i<l.length):∃v,atI (l.map T.int) i=some (.int v)/\v∈l:=by
 obtain⟨k,rfl⟩:=pG h0
 have hk:k<l.length:=by omega
 exact⟨l[k],eP (by simp[hk]),List.getElem_mem hk⟩
def sixI:List Str:=["oak","soot","oa","ink","oakoak","s"]
def sixR:List Str:=["an","b","annab","zz","nn","a"]
theorem bs9(l:List Str){i:Nat}(h1:i<l.length):∃v,atI (l.map T.str) (0+(i:Int))=some (.str v)/\l[i]?=some v:=by
 rw[Int.zero_add]
 exact⟨l[i],eP (by simp[h1]),List.getElem?_eq_getElem h1⟩
theorem kJ(l:List (Str×List Int)):bA (l.map (dN false))=true:=jV (λa=>by simp only[dN,dS,bA,kL,Bool.not_false,Bool.and_self]) l
theorem tX(l:List (Str×List Int)):dL (l.map (dN true))=true:=kB (λa=>by simp only[dN,dX,dL,uB,Bool.and_self]) l
theorem nO(o:Bool):∀l:List (Str×List Int),frzs (l.map (dN o))=l.map (dN false)
 |[]=>rfl
 |p::l=>by simp only[List.map_cons,frzs,nO o l,dN,frz,tE]
theorem kA(l:List (Str×Int×Int)):bA (l.map eN)=true:=jV (λa=>rfl) l
theorem at2(l:List (Str×Int×Int)):dL (l.map eN)=true:=kB (λa=>rfl) l
theorem pH(l:List (Str×Int×Int)):frzs (l.map eN)=l.map eN:=sP (λa=>rfl) l
theorem cx9(ns:List Int):∃f,pR [.lst false (ns.map .int),.int 8]=.ok (fX true f)/\Gd f:=by
 unfold pR pP
 have ew:=bn3
 have ec:iA [.lst false (ns.map .int),.int 0]=.ok (.int (ns.getD 0 0)):=by7 false ns 0
 have en:=cv8
 have hp:wA (.int 10) (.int 15)=.ok (.int 1000000000000000):=by
  rw[ab3,vC (show xF 10 15 from⟨by decide,by decide,by decide⟩)]
  rfl
 have hc0:0<=ns.getD 0 0%1000000000000000:=Int.emod_nonneg _ (by decide)
 generalize hc:ns.getD 0 0%1000000000000000=c at hc0
 obtain⟨span,hs,ms⟩:=ar9 [0,1,3,8,20,20,60,300] (i:=c%8) (by omega) (by simp;omega)
 obtain⟨first,hf,mf⟩:=ar9 [-3000,3000-span,-10,1400] (i:=c/8%4) (by omega) (by simp;omega)
 simp only[List.map_cons,List.map_nil]at hs hf
 walk_at "ev"
 clear hs hf hp ec en
 generalize hL:eI _ _ _ _=o
 obtain⟨ρ',rfl,inks,o7,o8,o9,o10,rfl,il,inm,iok⟩:=jO (λi ρ=>∃(inks:List (Str×List Int))(o7 o8 o9 o10:Option T),ρ=[some (T.lst false (List.map T.int ns)),some (T.int 8),some (T.int c),some (T.int span),
  some (T.int first),some (T.lst true (eE (List.map T.str (turned (c/32%8).toNat)) none (some (1+c/256%8)))),some (T.lst true (inks.map (dN true))),o7,o8,o9,o10,none,none]/\
  inks.length=i/\inks.map (·.1)=sixI.take i/\∀p∈inks,TabOk p.2) hL ⟨[],_,_,_,_,rfl,rfl,rfl,dR⟩ (by
  rintro i t ρ et ⟨inks,o7,o8,o9,o10,rfl,il,inm,iok⟩
  obtain⟨hi,rfl⟩:=jS et
  have hw:=ae5 c 6
  have hi':i<6:=by omega
  obtain⟨m,hm,mm⟩:=ar9 [12,60] (i:=c/18432%4/3) (by omega) (by simp;omega)
  obtain⟨nm,hn,en⟩:=bs9 sixI (i:=i) (by show i<6;exact hi')
  simp only[List.map_cons,List.map_nil,sixI]at hm hn
  have hm0:0<m:=by simp at mm;omega
  have hw2:=Int.emod_nonneg (gL c (0+(i:Int))) (show m≠0 by omega)
  have hw3:=Int.emod_lt_of_pos (gL c (0+(i:Int))) hm0
  have hw4:gL c (0+(i:Int))%m<60:=by simp at mm;omega
  clear mm
  clear hL et
  walk_at "ev"
  generalize hL:eI _ _ _ _=o
  obtain⟨ρ',rfl,xs,d,p10,rfl,xl,xb,xf,hd0,hd1⟩:=jO (λj ρ=>∃(xs:List Int)(d:Int)(p10:Option T),ρ=[some (T.lst false (List.map T.int ns)),some (T.int 8),some (T.int c),some (T.int span),
   some (T.int first),some (T.lst true (eE (List.map T.str (turned (c/32%8).toNat)) none (some (1+c/256%8)))),some (T.lst true (inks.map (dN true))),some (.int (0+(i:Int))),some (.int d),some (.lst true (xs.map .int)),p10,none,none]/\
   xs.length=j+1/\(∀x∈xs,d<=x/\x<=408)/\xs.Pairwise (λa b=>b<=a)/\0<=d/\d<=408) hL ⟨[400+c/2048%9],_,_,rfl,rfl,by simp;omega,by simp,by omega,by omega⟩ (by
   rintro j t ρ et ⟨xs,d,p10,rfl,xl,xb,xf,hd0,hd1⟩
   obtain⟨hj,rfl⟩:=jS et
   have hj':j<60:=by omega
   have z0:=Int.emod_nonneg (gL c (10*(0+(j:Int))+(0+(i:Int)))) (show(13:Int)≠0 by decide)
   have hl:xs.length<=100000:=by omega
   clear hL et
   walk_at "ev"
   refine⟨xs++[if d-gL c (10*(0+(j:Int))+(0+(i:Int)))%13>0 then d-gL c (10*(0+(j:Int))+(0+(i:Int)))%13 else 0],_,_,by rw[List.map_append];rfl,by simp[xl],?_,?_,?_,?_⟩
   . intro x hx
     rcases List.mem_append.mp hx with hx|hx
     . have:=xb x hx
       split<;>omega
     . have hx:=List.mem_singleton.mp hx
       subst hx
       split<;>omega
   . rw[List.pairwise_append]
     refine⟨xf,by simp,λa ha b hb=>?_⟩
     have hb:=List.mem_singleton.mp hb
     subst hb
     have:=xb a ha
     split<;>omega
   . split<;>omega
   . split<;>omega)
  rw[gM]at xl
  clear hL
  have hl:inks.length<=100000:=by omega
  walk_at "ev"
  refine⟨inks++[(nm,xs)],_,_,_,_,by rw[List.map_append];rfl,by simp[il],?_,?_⟩
  . rw[List.map_append,inm,List.take_succ,en]
    rfl
  . intro p hp
    rcases List.mem_append.mp hp with hp|hp
    . exact iok p hp
    . have hp:=List.mem_singleton.mp hp
      subst hp
      exact⟨by show 1<=xs.length;omega,by show xs.length<=60;omega,λx hx=>⟨Int.le_trans hd0 (xb x hx).1,(xb x hx).2⟩,xf⟩)
 rw[gM]at il inm
 clear hL
 have h9:0<span+9:=by simp at ms;omega
 have b0:=Int.emod_nonneg (gL c 3) (show span+9≠0 by omega)
 have b1:=Int.emod_lt_of_pos (gL c 3) h9
 have b2:=ae5 c 7
 have sb:0<=span/\span<=300:=by simp at ms;omega
 have fb:-3000<=first/\first+span<=3000:=by simp at mf;omega
 walk_at "ev"
 have t1:Int.toNat 1=1:=rfl
 generalize hL:eI _ _ _ _=o
 obtain⟨ρ',rfl,r0,rest,b,q7,rfl,e0,rn,rl,rb,hb0,hb1⟩:=jO (λi ρ=>∃(r0:Str×Int×Int)(rest:List (Str×Int×Int))(b:Int)(q7:Option T),ρ=[some (T.lst false (List.map T.int ns)),some (T.int 8),some (T.int c),some (T.int span),
  some (T.int first),some (T.lst true (eE (List.map T.str (turned (c/32%8).toNat)) none (some (1+c/256%8)))),some (T.lst true (inks.map (dN true))),q7,o8,o9,o10,some (.int b),some (.lst true (eN r0::rest.map eN))]/\
  r0.1="ann"/\rest.map (·.1)=(sixR.take i).reverse++[("anna":Str)]/\rest.length=i+1/\(∀p∈r0::rest,-4000<=p.2.1/\p.2.1<=4000/\1<=p.2.2/\p.2.2<=100)/\first-5-4*i<=b/\b<=first+span+3+4*i) hL
  ⟨("ann",first-5+gL c 3%(span+9),1+gL c 4%30),[("anna",first-5+gL c 3%(span+9)+3,1+gL c 5%100)],_,_,rfl,rfl,rfl,rfl,by simp;omega,by omega,by omega⟩ (by
  rintro i t ρ et ⟨r0,rest,b,q7,rfl,e0,rn,rl,rb,hb0,hb1⟩
  obtain⟨hi,rfl⟩:=jS et
  have hi':i<6:=by omega
  obtain⟨nm,hn,en⟩:=bs9 sixR (i:=i) (by show i<6;exact hi')
  simp only[List.map_cons,List.map_nil,sixR]at hn
  have l1:(rest.map eN).length+1<=100000:=by rw[List.length_map];omega
  have l2:1<=(rest.map eN).length+1:=by omega
  rw[List.length_map]at l1 l2
  clear hL et
  walk_at "ev"
  rw[if_pos ⟨by decide,by omega⟩]
  refine⟨r0,(nm,b+gL c (8+(0+(i:Int)))%9-4,1+gL c (14+(0+(i:Int)))%60)::rest,_,_,rfl,e0,?_,by simp[rl],?_,?_,?_⟩
  . rw[List.map_cons,rn,List.take_succ,en]
    simp
  . intro p hp
    rcases List.mem_cons.mp hp with rfl|hp
    . exact rb _ List.mem_cons_self
    . rcases List.mem_cons.mp hp with rfl|hp
      . simp only
        omega
      . exact rb p (List.mem_cons_of_mem _ hp)
  . omega
  . omega)
 rw[gM]at rn rl hb0 hb1
 clear hL
 have k0:0<=1+c/256%8:=by omega
 obtain⟨kn,hkn⟩:=pG k0
 have ct:eE (List.map T.str (turned (c/32%8).toNat)) none (some (1+c/256%8))=((turned (c/32%8).toNat).take kn).map .str:=by
  rw[hkn,ai1,List.map_take]
 have hk8:1<=kn/\kn<=8:=by omega
 obtain⟨kt,hkt⟩:∃kt:Nat,kt<8/\(c/32%8).toNat=kt:=⟨(c/32%8).toNat,by omega,rfl⟩
 obtain⟨im,him⟩:∃im:Nat,(2<=im/\im<=6)/\(2+gL c 6%5).toNat=im:=⟨_,by omega,rfl⟩
 obtain⟨rm,hrm⟩:∃rm:Nat,rm<=6/\(gL c 7%7).toNat=rm:=⟨_,by omega,rfl⟩
 rw[hkt.2]at ct
 rw[him.2]at il inm
 rw[hrm.2]at rn rl
 rw[hkt.2]
 refine⟨⟨first,span,(turned kt).take kn,inks,r0::rest⟩,?_,?_⟩
 . clear hkn
   walk_at "ev"
   simp only[fX,List.map_cons]
 . have turn_ok:∀k,k<8->(turned k).length=8/\(turned k).Nodup/\∀x∈turned k,lZ x=true:=by decide+kernel
   obtain⟨u1,u2,u3⟩:=turn_ok kt hkt.1
   have ink_ok:sixI.Nodup/\∀x∈sixI,lZ x=true:=by decide+kernel
   have rg_ok:∀k,k<=6->(("ann":Str)::((sixR.take k).reverse++[("anna":Str)])).Nodup/\∀x∈("ann":Str)::((sixR.take k).reverse++[("anna":Str)]),lZ x=true:=by decide+kernel
   obtain⟨v1,v2⟩:=rg_ok rm hrm.1
   have rnm:(r0::rest).map (·.1)=("ann":Str)::((sixR.take rm).reverse++[("anna":Str)]):=by rw[List.map_cons,rn,e0]
   exact{
    s0:=sb.1
    s1:=sb.2
    f0:=fb.1
    f1:=fb.2
    n1:=by simp[u1];omega
    n8:=by simp[u1];omega
    nn:=λx hx=>u3 x (List.mem_of_mem_take hx)
    nd:=u2.sublist (List.take_sublist _ _)
    i1:=by show 2<=inks.length;omega
    i6:=by show inks.length<=6;omega
    ind:=by show(inks.map (·.1)).Nodup;rw[inm];exact ink_ok.1.sublist (List.take_sublist _ _)
    inn:=λp hp=>⟨ink_ok.2 _ (List.mem_of_mem_take (i:=im) (by rw[<-inm];exact List.mem_map_of_mem hp)),iok p hp⟩
    r1:=by simp[rl]
    r8:=by simp[rl];omega
    rnd:=by show((r0::rest).map (·.1)).Nodup;rw[rnm];exact v1
    rn:=λp hp=>⟨v2 _ (by rw[<-rnm];exact List.mem_map_of_mem hp),rb p hp⟩}
theorem pE{n:Nat}(h:n<=100000):n<=sizeLine:=Nat.le_trans h (by decide)
theorem dc9{α:Type}(l:List α)(p:α->Bool):(l.map λc=>p c).all id=l.all p:=by
 induction l with
 |nil=>rfl
 |cons a l ih=>simp only[List.map_cons,List.all_cons,ih,id]
theorem kO{α:Type}{b:T->Fr->Option Fr}{c:Fr->Res Bool}{d:Fr->Res T}{ρ:Fr}{g f:α->T}:∀{l:List α},(∀a∈l,(match b (g a) ρ with|some ρ1=>(c ρ1).bind λk=>if k=true then d ρ1 else .no|none=>.no)=.ok (f a))->cE b c d ρ (l.map g)=.ok (l.map f)
 |[],_=>rfl
 |a::l,h=>by
  have h0:=h a List.mem_cons_self
  have ih:=kO (l:=l) λu hu=>h u (List.mem_cons_of_mem _ hu)
  simp only[List.map_cons,cE]
  cases e:b (g a) ρ with
  |none=>rw[e]at h0;cases h0
  |some ρ1=>
   rw[e]at h0
   simp only at h0⊢
   cases e2:c ρ1 with
   |ok k=>
    rw[e2]at h0
    simp only[mD]at h0⊢
    cases k with
    |true=>rw[if_pos rfl]at h0⊢;rw[h0,ih];rfl
    |false=>rw[if_neg (by decide)]at h0;cases h0
   |ex x=>rw[e2]at h0;cases h0
   |no=>rw[e2]at h0;cases h0
theorem ai9(w s:Str)(m:Int)(hw:w.length<=100000):nY [.str w,.str s,.int m]=.ok (.bl (decide (1<=(w.length:Int))&&(decide ((w.length:Int)<=m)&&w.cps.toList.all λc=>occ s ⟨#[c]⟩))):=by
 unfold nY oP
 have h2:w.cps.toList.length<=sizeLine:=by rw[<-cu6];exact pE hw
 have hc:cE (aJ 3) cM (aG (zU false) (aB 3) (aB 1)) [some (.str w),some (.str s),some (.int m),none] (w.cps.toList.map λc=>T.str ⟨#[c]⟩)=.ok ((w.cps.toList.map λc=>occ s ⟨#[c]⟩).map .bl):=by
  rw[List.map_map]
  exact eQ λc _=>by walk_at "ev";rfl
 walk_at "ev"
 cases hA:decide (1<=(w.length:Int))with
 |false=>walk_at "ev"
 |true=>
  cases hB:decide ((w.length:Int)<=m)with
  |false=>walk_at "ev"
  |true=>
   walk_at "ev"
   rw[dc9]
theorem xA{w:Str}(h:lZ w=true):w.length<=8:=by
 unfold lZ at h
 simp only[Bool.and_eq_true,decide_eq_true_iff]at h
 omega
theorem bh8{w:Str}(h:lZ w=true):qK [.str w]=.ok (.bl true):=by
 unfold qK tK
 have h1:=ai9 w "abcdefghijklmnopqrstuvwxyz" 8 (by have:=xA h;omega)
 rw[show(decide (1<=(w.length:Int))&&(decide ((w.length:Int)<=8)&&w.cps.toList.all λc=>occ "abcdefghijklmnopqrstuvwxyz" ⟨#[c]⟩))=true from h]at h1
 walk_at "ev"
theorem ar2(x l u:Int):cR [.int x,.int l,.int u]=.ok (.bl (decide (l<=x)&&decide (x<=u))):=by
 have h:jC [.int x]=.ok (.bl true):=by
  unfold jC oY
  walk_at "ev"
 unfold cR kU
 cases hA:decide (l<=x)with
 |true=>walk_at "ev"
 |false=>walk_at "ev"
theorem mY{x l u:Int}(h1:l<=x)(h2:x<=u):cR [.int x,.int l,.int u]=.ok (.bl true):=by
 rw[ar2,decide_eq_true h1,decide_eq_true h2]
 rfl
theorem db4{α:Type}(l:List α):l.map (λ_=>T.bl true)=(l.map λ_=>true).map T.bl:=by rw[List.map_map];rfl
theorem pL{α:Type}(o:Bool)(l:List α):mX false [.lst o (l.map λ_=>T.bl true)]=.ok (.bl true):=by
 rw[db4,bn6]
 simp
theorem sQ{xs:List Int}{i:Nat}(h:i<xs.length):atI (xs.map T.int) (i:Int)=some (.int (xs.getD i 0)):=
 eP (by rw[List.getElem?_map,List.getElem?_eq_getElem h,List.getD_eq_getElem?_getD,List.getElem?_eq_getElem h];rfl)
theorem dl4{xs:List Int}(h:xs.Pairwise (λa b=>b<=a)){i:Nat}(hi:i+1<xs.length):xs.getD (i+1) 0<=xs.getD i 0:=by
 rw[List.pairwise_iff_getElem]at h
 have:=h i (i+1) (by omega) hi (by omega)
 simpa[List.getD_eq_getElem?_getD,List.getElem?_eq_getElem hi,List.getElem?_eq_getElem (show i<xs.length by omega)]using this
theorem bp6(o:Bool){xs:List Int}(h:TabOk xs):nX [.lst o (xs.map .int)]=.ok (.bl true):=by
 unfold nX rQ
 obtain⟨h1,h60,hb,hf⟩:=h
 have hc1:cE (aJ 1) cM (bJ 3 cR (aD (aB 1) (aD (dC (.int 0)) (aD (dC (.int 1000000)) aI)))) [some (.lst o (xs.map .int)),none,none] (xs.map .int)=.ok (xs.map λ_=>.bl true):=by
  refine eQ λc hc=>?_
  have:=mY (hb c hc).1 (Int.le_trans (hb c hc).2 (show(408:Int)<=1000000 by decide))
  walk_at "ev"
 have hc2:cE (aJ 2) cM (aG oH (aG aY (aB 0) (aB 2)) (aG aY (aB 0) (aG cY (aB 2) (dC (.int 1))))) [some (.lst o (xs.map .int)),none,none] (iX 1 ((xs.length:Int)-1).toNat)=.ok ((List.range (xs.length-1)).map λ_=>.bl true):=by
  unfold iX
  rw[show((xs.length:Int)-1).toNat=xs.length-1 by omega]
  refine eQ λi hi=>?_
  have hi:=List.mem_range.mp hi
  have a1:atI (xs.map T.int) (1+(i:Int))=some (.int (xs.getD (i+1) 0)):=by
   rw[show(1:Int)+(i:Int)=((i+1:Nat):Int) by omega]
   exact sQ (by omega)
  have a2:atI (xs.map T.int) (1+(i:Int)-1)=some (.int (xs.getD i 0)):=by
   rw[show(1:Int)+(i:Int)-1=(i:Int) by omega]
   exact sQ (by omega)
  have a3:=decide_eq_true (dl4 hf (i:=i) (by omega))
  walk_at "ev"
 have hl2:(iX 1 ((xs.length:Int)-1).toNat).length<=sizeLine:=by rw[gM];exact pE (by omega)
 have k1:decide (1<=(xs.length:Int))=true:=decide_eq_true (by omega)
 have k2:decide ((xs.length:Int)<=60)=true:=decide_eq_true (by omega)
 have y1:=λo=>pL o xs
 have y2:=λo=>pL o (List.range (xs.length-1))
 clear hb hf
 walk_at "ev"
theorem br5{b l:Int}(h1:-4000<=b)(h2:b<=4000)(h3:1<=l)(h4:l<=100):nZ [.int b,.int l]=.ok (.bl true):=by
 unfold nZ rJ
 have k1:=mY h1 h2
 have k2:=mY h3 h4
 walk_at "ev"
theorem bs2{a b:Int}(h1:-3000<=a)(h2:a<=b)(h3:b<=3000)(h4:b-a<=300):pS [.int a,.int b]=.ok (.bl true):=by
 unfold pS pQ
 have k1:=mY h1 (show a<=3000 by omega)
 have k2:=mY (show -3000<=b by omega) h3
 have k3:decide (0<=b-a)=true:=decide_eq_true (by omega)
 have k4:decide (b-a<=300)=true:=decide_eq_true (by omega)
 walk_at "ev"
theorem tT{o:Bool}{ss:List Str}{l u:Int}(h1:l<=ss.length)(h2:(ss.length:Int)<=u)(h3:ss.length<=1000)(hn:∀x∈ss,lZ x=true)(nd:ss.Nodup):kG [.lst o (ss.map .str),.int l,.int u]=.ok (.bl true):=by
 unfold kG pU
 have hc:cE (aJ 3) cM (bJ 1 qK (aD (aB 3) aI)) [some (.lst o (ss.map .str)),some (.int l),some (.int u),none] (ss.map .str)=.ok (ss.map λ_=>.bl true):=by
  refine eQ λc hc=>?_
  have:=bh8 (hn c hc)
  walk_at "ev"
 have k1:decide (l<=(ss.length:Int))=true:=decide_eq_true h1
 have k2:decide ((ss.length:Int)<=u)=true:=decide_eq_true h2
 have y1:=λo=>pL o ss
 have ls:=ck3 o nd h3
 have l4:ss.length<=100000:=by omega
 clear hn nd
 walk_at "ev"
 simp
theorem bv4{is:List (Str×List Int)}(h6:is.length<=6)(nd:(is.map (·.1)).Nodup)(ok:∀p∈is,lZ p.1=true/\TabOk p.2):rO [.lst false (is.map (dN false))]=.ok (.bl true):=by
 unfold rO rN
 have hc1:cE (eR (bE (aJ 1) (bE (aJ 2) eU))) cM (aQ (aB 1)) [some (.lst false (is.map (dN false))),none,none] (is.map (dN false))=.ok ((is.map (·.1)).map .str):=by
  rw[List.map_map]
  exact kO λp _=>by simp only[dN];walk_at "ev";rfl
 have hc2:cE (eR (bE (aJ 1) (bE (aJ 2) eU))) cM (bJ 1 nX (aD (aB 2) aI)) [some (.lst false (is.map (dN false))),none,none] (is.map (dN false))=.ok (is.map λ_=>.bl true):=by
  refine kO λp hp=>?_
  simp only[dN]
  have:=bp6 false (ok p hp).2
  walk_at "ev"
 have nm:=tT (o:=false) (ss:=is.map (·.1)) (l:=0) (u:=6) (by omega) (by simp;omega) (by simp;omega) (λx hx=>by
  obtain⟨p,hp,rfl⟩:=List.mem_map.mp hx
  exact(ok p hp).1) nd
 have y1:=λo=>pL o is
 have n1:=kJ is
 have l4:is.length<=100000:=by omega
 clear ok nd
 walk_at "ev"
theorem bn1{rs:List (Str×Int×Int)}(h8:rs.length<=8)(nd:(rs.map (·.1)).Nodup)(ok:∀p∈rs,lZ p.1=true/\-4000<=p.2.1/\p.2.1<=4000/\1<=p.2.2/\p.2.2<=100):oQ [.lst false (rs.map eN)]=.ok (.bl true):=by
 unfold oQ oG
 have hc1:cE (eR (bE (aJ 1) (bE (aJ 2) (bE (aJ 3) eU)))) cM (aQ (aB 1)) [some (.lst false (rs.map eN)),none,none,none] (rs.map eN)=.ok ((rs.map (·.1)).map .str):=by
  rw[List.map_map]
  exact kO λp _=>by simp only[eN];walk_at "ev";rfl
 have hc2:cE (eR (bE (aJ 1) (bE (aJ 2) (bE (aJ 3) eU)))) cM (bJ 2 nZ (aD (aB 2) (aD (aB 3) aI))) [some (.lst false (rs.map eN)),none,none,none] (rs.map eN)=.ok (rs.map λ_=>.bl true):=by
  refine kO λp hp=>?_
  simp only[eN]
  obtain⟨_,k1,k2,k3,k4⟩:=ok p hp
  have:=br5 k1 k2 k3 k4
  walk_at "ev"
 have nm:=tT (o:=false) (ss:=rs.map (·.1)) (l:=0) (u:=8) (by omega) (by simp;omega) (by simp;omega) (λx hx=>by
  obtain⟨p,hp,rfl⟩:=List.mem_map.mp hx
  exact(ok p hp).1) nd
 have y1:=λo=>pL o rs
 have n1:=kA rs
 have l4:rs.length<=100000:=by omega
 clear ok nd
 walk_at "ev"
def cF(o:Bool)(f:Fm):T:=.ins o "Archive" ["first","present","letters","inks","reigns"] [.int f.first,.int (f.first+f.span),.lst o (f.names.map .str),.lst o (f.inks.map (dN o)),.lst o (f.reigns.map eN)]
theorem fi1:fK "first" []=none:=rfl
theorem fi2:fK "present" ["first"]=none:=by decide+kernel
theorem fi3:fK "letters" ["first","present"]=none:=by decide+kernel
theorem fi4:fK "inks" ["first","present","letters"]=none:=by decide+kernel
theorem fi5:fK "reigns" ["first","present","letters","inks"]=none:=by decide+kernel
theorem ct1:(["Archive"]:List Str).contains "Archive"=true:=by decide+kernel
theorem as9{f:Fm}(g:Gd f):oE [.int f.first,.int (f.first+f.span),.lst false (f.names.map .str),.lst false (f.inks.map (dN false)),.lst false (f.reigns.map eN)]=.ok (cF true f):=by
 unfold oE jH cF
 have k1:=bs2 g.f0 (show f.first<=f.first+f.span by have:=g.s0;omega) g.f1 (by have:=g.s1;omega)
 have k2:=tT (o:=false) (l:=1) (u:=8) (ss:=f.names) (by have:=g.n1;omega) (by have:=g.n8;omega) (by have:=g.n8;omega) g.nn g.nd
 have k3:=bv4 g.i6 g.ind g.inn
 have k4:=bn1 g.r8 g.rnd g.rn
 have n1:=kJ f.inks
 have n2:=kA f.reigns
 have z1:=nO false f.inks
 have z2:=pH f.reigns
 have i1:=fi1
 have i2:=fi2
 have i3:=fi3
 have i4:=fi4
 have i5:=fi5
 have c1:=ct1
 have d0:∀x y z:T,cE (eR (bE (aJ 6) (bE (aJ 7) eU))) cM (cN (aD (aQ (aB 6)) (aD (bZ gS (aD (aB 7) aI)) aI))) [some x,some (.int f.first),some (.int (f.first+f.span)),some y,some (.lst false (f.inks.map (dN false))),some z,none,none,none,none] (f.inks.map (dN false))=.ok (f.inks.map (dN true)):=λx y z=>
  kO λp _=>by simp only[dN];walk_at "ev"
 have d1:∀x y z:T,cE (eR (bE (aJ 6) (bE (aJ 8) (bE (aJ 9) eU)))) cM (cN (aD (aQ (aB 6)) (aD (aQ (aB 8)) (aD (aQ (aB 9)) aI)))) [some x,some (.int f.first),some (.int (f.first+f.span)),some y,some z,some (.lst false (f.reigns.map eN)),none,none,none,none] (f.reigns.map eN)=.ok (f.reigns.map eN):=λx y z=>
  kO λp _=>by simp only[eN];walk_at "ev"
 have l5:f.reigns.length<=100000:=by have:=g.r8;omega
 have l4:f.inks.length<=100000:=by have:=g.i6;omega
 clear g
 have q1:decide (0<1000)=true:=rfl
 have q2:decide (1<1000)=true:=rfl
 have q3:decide (2<1000)=true:=rfl
 have q4:decide (3<1000)=true:=rfl
 have q5:decide (4<1000)=true:=rfl
 walk_at "ev"
theorem jB(o:Bool)(f:Fm):frz (cF o f)=cF false f:=by simp only[cF,frz,frzs,xM,nO,pH]
theorem jE(f:Fm):dS (cF false f)=true:=by simp only[cF,dS,bA,kN,kJ,kA,Bool.not_false,Bool.and_self]
theorem bm1(f:Fm):dX (cF true f)=true:=by simp only[cF,dX,dL,uC,tX,at2,Bool.and_self]
theorem ae9(o:Bool)(f:Fm):eS ["Archive"] "first" (cF o f)=.ok (.int f.first):=by with_unfolding_all rfl
theorem ad2(o:Bool)(f:Fm):eS ["Archive"] "present" (cF o f)=.ok (.int (f.first+f.span)):=by with_unfolding_all rfl
theorem rH(o:Bool)(f:Fm):eS ["Archive"] "letters" (cF o f)=.ok (.lst o (f.names.map .str)):=by with_unfolding_all rfl
theorem br3(o:Bool)(f:Fm):eS ["Archive"] "inks" (cF o f)=.ok (.lst o (f.inks.map (dN o))):=by with_unfolding_all rfl
theorem ak6(o:Bool)(f:Fm):eS ["Archive"] "reigns" (cF o f)=.ok (.lst o (f.reigns.map eN)):=by with_unfolding_all rfl
theorem jR{α:Type}(a:α)(l:List α):atI (a::l) 0=some a:=eP (j:=0) rfl
theorem iJ{α:Type}(a b:α)(l:List α):atI (a::b::l) 1=some b:=eP (j:=1) rfl
theorem qI{α:Type}(a b c:α)(l:List α):atI (a::b::c::l) 2=some c:=eP (j:=2) rfl
theorem uY{α:Type}(a b c d:α)(l:List α):atI (a::b::c::d::l) 3=some d:=eP (j:=3) rfl
theorem ix4{α:Type}(a b c d e:α)(l:List α):atI (a::b::c::d::e::l) 4=some e:=eP (j:=4) rfl
theorem ao7{f:Fm}(g:Gd f):mV [fX false f]=.ok (cF true f):=by
 unfold mV mR
 have hc:cE (eR (bE (aJ 2) (bE (aJ 3) eU))) cM (cN (aD (aQ (aB 2)) (aD (bZ gS (aD (aB 3) aI)) aI))) [some (fX false f),none,none,none] (f.inks.map (dN false))=.ok (f.inks.map (dN true)):=
  kO λp _=>by simp only[dN];walk_at "ev"
 have k:=as9 g
 have n1:=kJ f.inks
 have n2:=kA f.reigns
 have z1:=nO true f.inks
 have z2:=pH f.reigns
 have z3:=tX f.inks
 have l4:f.inks.length<=100000:=by have:=g.i6;omega
 have ca:=bm1 f
 have a0:=λl=>jR (T.int f.first) l
 simp only[fX]at hc⊢
 clear g
 have b0:=@jR T
 have b1:=@iJ T
 have b2:=@qI T
 have b3:=@uY T
 have b4:=@ix4 T
 walk_at "ev"
def kW:Option Int->T
 |none=>.non
 |some h=>.int h
def gW:List Str:=["Ink","Reign","Under","Between","After","Same","Within","Apart"]
def fI(o:Bool)(c:Str)(ls:List Int)(lo:Int)(hi:Option Int)(x:Str):T:=.ins o c ["spoken","low","high","text"] [.lst o (ls.map .int),.int lo,kW hi,.str x]
theorem ac5(h:Option Int):dS (kW h)=true/\dX (kW h)=true/\frz (kW h)=kW h:=by cases h<;>exact⟨rfl,rfl,rfl⟩
theorem vL(h:Option Int):dS (kW h)=true:=(ac5 h).1
theorem ak0(h:Option Int):dX (kW h)=true:=(ac5 h).2.1
theorem bw8(h:Option Int):frz (kW h)=kW h:=(ac5 h).2.2
theorem ax9(c:Str)(ls:List Int)(lo:Int)(hi:Option Int)(x:Str):dX (fI true c ls lo hi x)=true:=by simp only[fI,dX,dL,uB,ak0,Bool.and_self]
theorem cc2(c:Str)(ls:List Int)(lo:Int)(hi:Option Int)(x:Str):dS (fI false c ls lo hi x)=true:=by simp only[fI,dS,bA,kL,vL,Bool.not_false,Bool.and_self]
theorem dh1(o:Bool)(c:Str)(ls:List Int)(lo:Int)(hi:Option Int)(x:Str):frz (fI o c ls lo hi x)=fI false c ls lo hi x:=by simp only[fI,frz,frzs,tE,bw8]
theorem fj1:fK "spoken" []=none:=rfl
theorem fj2:fK "low" ["spoken"]=none:=by decide+kernel
theorem fj3:fK "high" ["spoken","low"]=none:=by decide+kernel
theorem fj4:fK "text" ["spoken","low","high"]=none:=by decide+kernel
theorem ct8:∀c∈gW,(["Ink","Reign","Under","Between","After","Same","Within","Apart"]:List Str).contains c=true:=by decide+kernel
theorem ch8{ys:List Str}(h:∀y∈ys,y.length<=2000000)(hl:ys.length<=5)(o:Bool):vV (.str " ") [.lst o (ys.map .str)]=.ok (.str (Txt.join " " ys)):=by
 rw[bm4,if_pos]
 have hs:(ys.map (·.length)).sum<=ys.length*2000000:=by
  clear hl
  induction ys with
  |nil=>simp
  |cons y ys ih=>
   have h1:=h y List.mem_cons_self
   have h2:=ih λz hz=>h z (List.mem_cons_of_mem _ hz)
   simp only[List.map_cons,List.sum_cons,List.length_cons]
   omega
 have h1:(" ":Str).length=1:=by decide+kernel
 rw[h1]
 have:ys.length*2000000<=5*2000000:=Nat.mul_le_mul_right _ hl
 omega
theorem yB(n:Str):∀ss:List Str,vB (.str n) (ss.map .str)=some (ss.map λs=>s==n)
 |[]=>rfl
 |s::ss=>by
  simp only[List.map_cons,vB,yB n ss]
  rfl
theorem bf4{n:Str}:∀{ss:List Str}{l:Nat},ss.Nodup->ss[l]?=some n->vH (ss.map λs=>s==n)=some l
 |[],l,_,h=>by simp at h
 |s::ss,0,_,h=>by
  simp at h
  subst h
  simp[vH]
 |s::ss,l+1,nd,h=>by
  rw[List.nodup_cons]at nd
  simp only[List.getElem?_cons_succ]at h
  have hne:(s==n)=false:=by
   simp
   rintro rfl
   exact nd.1 (List.mem_of_getElem? h)
  simp only[List.map_cons,hne,vH,bf4 nd.2 h]
  rfl
theorem cg8{f:Fm}(g:Gd f){l:Nat}{n:Str}(h:f.names[l]?=some n)(o:Bool):uN (.lst o (f.names.map .str)) [.str n]=.ok (.int (l:Int)):=by
 simp only[uN,yB,bf4 g.nd h]
theorem cv2{ss:List Str}{n:Str}(h:n∈ss)(o:Bool):zU false (.str n) (.lst o (ss.map .str))=.ok (.bl true):=by
 have:(ss.map λs=>s==n).any id=true:=by
  rw[List.any_map,List.any_eq_true]
  exact⟨n,h,by simp⟩
 simp only[zU,yB,Bool.false_eq_true,if_false,this]
theorem cq3{ts:List T}{ys:List Str}{z:Str}(hn:bA ts=true)(hl:ts.length<=100000)(hx:∀a:Option T,cE (aJ 1) cM (bZ tJ (aD (aB 1) aI)) [a,none] ts=.ok (ys.map .str))(hj:vV (.str " ") [.lst true (ys.map .str)]=.ok (.str z)):vK [.lst false ts]=.ok (.str z):=by
 unfold vK vF
 walk_at "ev"
theorem dz0{f:Fm}(g:Gd f){c w:Str}(hc:c∈gW){ps:List T}{ds:List T}{nl:List (Str×Nat)}{xs:List Str}{lo:Int}{hi:Option Int}(hp:bA ps=true)(hpl:ps.length<=4)(hk:kt_PARTS.lookup w=some (.tup ds))(hds:bA ds=true)
 (h7:∀a b d e h i:Option T,cE (eR (bE (aJ 7) (bE (aJ 8) eU))) (bK (aG fN (aB 8) (dC (.str "letter")))) (aQ (aB 7)) [a,b,d,e,h,i,none,none,none,none] (iT ps ds)=.ok ((nl.map (·.1)).map .str))
 (hn:nl.length<=4)(hnl:∀p∈nl,f.names[p.2]?=some p.1)
 (hx:∀a:Option T,cE (aJ 1) cM (bZ tJ (aD (aB 1) aI)) [a,none] (.str w::ps)=.ok ((w::xs).map .str))(hxl:xs.length<=4)(hxb:∀y∈w::xs,y.length<=2000000):
 ∃x,iK (bQ (cG 10 [.ins true c [] [],cF false f,.str w,.lst false ps,.int lo,kW hi]))=.ok (fI true c (nl.map λp=>(p.2:Int)) lo hi x):=by
 refine⟨Txt.join " " (w::xs),?_⟩
 unfold bQ fI
 have hl7:(iT ps ds).length<=sizeLine:=by rw[wW];exact pE (by omega)
 have i1:=fj1
 have i2:=fj2
 have i3:=fj3
 have i4:=fj4
 have cc:=ct8 c hc
 have fl:=rH false f
 have h9:cE (aJ 9) cM (dBM ah1 uN (eZ (eS ["Archive"] "letters") (aB 1)) (aD (aB 9) aI)) [some (.ins true c [] []),some (cF false f),some (.str w),some (.lst false ps),some (.int lo),some (kW hi),some (.lst true ((nl.map (·.1)).map .str)),none,none,none] ((nl.map (·.1)).map .str)=.ok ((nl.map λp=>(p.2:Int)).map .int):=by
  rw[List.map_map,List.map_map]
  refine eQ (α:=Str×Nat) λp hp=>?_
  have:=cg8 g (hnl p hp) false
  walk_at "ev"
  exact this
 have nh:=vL hi
 have jn:=ch8 (ys:=w::xs) hxb (by simp;omega) true
 have sp:=cq3 (ts:=.str w::ps) (by simp only[bA,dS,hp,Bool.and_self]) (by simp only[List.length_cons];omega) hx jn
 have zp:=fJ ps hp
 clear hx jn
 have np:=kN
 have hxl2:1+xs.length<=sizeLine:=pE (by omega)
 have hnn:(nl.map (·.1)).length<=100000:=by simp;omega
 have q1:decide (0<1000)=true:=rfl
 have q2:decide (1<1000)=true:=rfl
 have q3:decide (2<1000)=true:=rfl
 have q4:decide (3<1000)=true:=rfl
 clear g hnl hxb
 walk_at "ev"
theorem dx9(a b:T):frz (.tup [a,b])=.tup [frz a,frz b]:=rfl
theorem bk9{a:T}{ts us:List T}(h:a∈iT ts us):∃(i:Nat)(t u:T),ts[i]?=some t/\us[i]?=some u/\a=.tup [t,u]:=by
 obtain⟨i,hi⟩:=List.getElem?_of_mem h
 obtain⟨t,u,h1,h2,h3⟩:=ad7 hi
 exact⟨i,t,u,h1,h2,h3⟩
theorem bs5{ts:List T}{i:Nat}{t:T}(h:bA ts=true)(e:ts[i]?=some t):dS t=true:=by
 rw[nM,List.all_eq_true]at h
 exact h t (List.mem_of_getElem? e)
theorem cj0{f:Fm}{w:Str}{ps:List T}{ds:List Str}(hk:kt_PARTS.lookup w=some (.tup (ds.map .str)))(hp:bA ps=true)(hl:ps.length=ds.length)(h4:ds.length<=4)
 (h:∀(i:Nat)(d:Str)(p:T),ds[i]?=some d->ps[i]?=some p->fO [cF false f,.str d,p]=.ok (.bl true)):qG [cF false f,.str w,.lst false ps]=.ok (.bl true):=by
 unfold qG tP
 have na:=jE f
 have za:=jB false f
 have hc:cE (eR (bE (aJ 3) (bE (aJ 4) eU))) cM (bJ 3 fO (aD (aB 0) (aD (aB 3) (aD (aB 4) aI)))) [some (cF false f),some (.str w),some (.lst false ps),none,none] (iT (ds.map .str) ps)=.ok ((iT (ds.map .str) ps).map λ_=>.bl true):=by
  have:=kO (b:=eR (bE (aJ 3) (bE (aJ 4) eU))) (c:=cM) (d:=bJ 3 fO (aD (aB 0) (aD (aB 3) (aD (aB 4) aI)))) (ρ:=[some (cF false f),some (.str w),some (.lst false ps),none,none]) (g:=id) (f:=λ_=>T.bl true) (l:=iT (ds.map .str) ps) λa ha=>?_
  . rw[List.map_id]at this
    exact this
  obtain⟨i,t,u,h1,h2,rfl⟩:=bk9 ha
  rw[List.getElem?_map]at h1
  cases e:ds[i]? with
  |none=>rw[e]at h1;cases h1
  |some d=>
   rw[e]at h1
   cases h1
   have k:=h i d u e h2
   have nu:=bs5 hp h2
   have zu:=ao6 u nu
   simp only[id]
   clear h hk hp ha
   walk_at "ev"
 have hs:(kt_PARTS.lookup w).isSome=true:=by rw[hk];rfl
 have e1:(!((ps.length:Int)==(ds.length:Int)))=false:=by rw[hl];simp
 have hpl:(iT (ds.map .str) ps).length<=sizeLine:=by rw[wW,List.length_map];exact pE (by omega)
 have y:=λo=>pL o (iT (ds.map .str) ps)
 have nd:=kN ds
 clear h hl
 walk_at "ev"
theorem sD:∀d∈(["ink","reign","dark","place","year","later","gap"]:List Str),(d=="letter")=false:=by decide+kernel
theorem dv0:∀d∈(["reign","dark","place","year","later","gap"]:List Str),(d=="ink")=false:=by decide+kernel
theorem dm9:∀d∈(["dark","place","year","later","gap"]:List Str),(d=="reign")=false:=by decide+kernel
theorem fM{f:Fm}{n:Str}(h:n∈f.names):fO [cF false f,.str "letter",.str n]=.ok (.bl true):=by
 unfold fO nE
 have k:=cv2 h false
 have fl:=rH false f
 have e:(("letter":Str)=="letter")=true:=beq_self_eq_true _
 walk_at "ev"
theorem cm6{f:Fm}(g:Gd f){n:Str}(h:n∈f.inks.map (·.1)):fO [cF false f,.str "ink",.str n]=.ok (.bl true):=by
 unfold fO nE
 have fl:=br3 false f
 have e:(("ink":Str)=="ink")=true:=beq_self_eq_true _
 have e1:=sD "ink" (by decide+kernel)
 have k:=cv2 h true
 have b0:=@jR T
 have l6:f.inks.length<=100000:=by have:=g.i6;omega
 have n1:=kJ f.inks
 have hc:cE (aJ 3) cM (aQ (aG aY (aB 3) (dC (.int 0)))) [some (cF false f),some (.str "ink"),some (.str n),none,none] (f.inks.map (dN false))=.ok ((f.inks.map (·.1)).map .str):=by
  rw[List.map_map]
  exact eQ λp _=>by simp only[dN];walk_at "ev";rfl
 clear g h
 walk_at "ev"
theorem ah6{f:Fm}(g:Gd f){n:Str}(h:n∈f.reigns.map (·.1)):fO [cF false f,.str "reign",.str n]=.ok (.bl true):=by
 unfold fO nE
 have fl:=ak6 false f
 have e:(("reign":Str)=="reign")=true:=beq_self_eq_true _
 have e1:=sD "reign" (by decide+kernel)
 have e2:=dv0 "reign" (by decide+kernel)
 have k:=cv2 h true
 have b0:=@jR T
 have l6:f.reigns.length<=100000:=by have:=g.r8;omega
 have n1:=kA f.reigns
 have hc:cE (aJ 4) cM (aQ (aG aY (aB 4) (dC (.int 0)))) [some (cF false f),some (.str "reign"),some (.str n),none,none] (f.reigns.map eN)=.ok ((f.reigns.map (·.1)).map .str):=by
  rw[List.map_map]
  exact eQ λp _=>by simp only[eN];walk_at "ev";rfl
 clear g h
 walk_at "ev"
theorem nP{f:Fm}{d:Str}{lo hi i:Int}(hd:d∈(["dark","place","year","later","gap"]:List Str))(hk:kt_NUMBERS.lookup d=some (.tup [.int lo,.int hi]))(h1:lo<=i)(h2:i<=hi):fO [cF false f,.str d,.int i]=.ok (.bl true):=by
 unfold fO nE
 have e1:=sD d (List.mem_cons_of_mem _ (List.mem_cons_of_mem _ hd))
 have e2:=dv0 d (List.mem_cons_of_mem _ hd)
 have e3:=dm9 d hd
 have k:=mY h1 h2
 have b0:=@jR T
 have b1:=@iJ T
 walk_at "ev"
theorem bt4:kt_NUMBERS.lookup ("dark":Str)=some (.tup [.int 0,.int 1000000]):=by with_unfolding_all rfl
theorem co1:kt_NUMBERS.lookup ("place":Str)=some (.tup [.int 1,.int 100]):=by with_unfolding_all rfl
theorem bc4:kt_NUMBERS.lookup ("year":Str)=some (.tup [.int (-4000),.int 4000]):=by with_unfolding_all rfl
theorem cp4:kt_NUMBERS.lookup ("later":Str)=some (.tup [.int 0,.int 300]):=by with_unfolding_all rfl
theorem bi8:kt_NUMBERS.lookup ("gap":Str)=some (.tup [.int (-300),.int 300]):=by with_unfolding_all rfl
abbrev d_ink:List Str:=["letter","ink","dark","dark"]
abbrev d_reign:List Str:=["letter","reign","place"]
abbrev d_under:List Str:=["letter","reign"]
abbrev d_between:List Str:=["letter","year","year"]
abbrev d_two:List Str:=["letter","letter"]
abbrev d_within:List Str:=["letter","letter","later"]
abbrev d_apart:List Str:=["letter","letter","gap","gap"]
theorem dp2:kt_PARTS.lookup ("ink":Str)=some (.tup (d_ink.map .str)):=by with_unfolding_all rfl
theorem cz2:kt_PARTS.lookup ("reign":Str)=some (.tup (d_reign.map .str)):=by with_unfolding_all rfl
theorem cw3:kt_PARTS.lookup ("under":Str)=some (.tup (d_under.map .str)):=by with_unfolding_all rfl
theorem bb6:kt_PARTS.lookup ("between":Str)=some (.tup (d_between.map .str)):=by with_unfolding_all rfl
theorem cn1:kt_PARTS.lookup ("after":Str)=some (.tup (d_two.map .str)):=by with_unfolding_all rfl
theorem cg9:kt_PARTS.lookup ("same":Str)=some (.tup (d_two.map .str)):=by with_unfolding_all rfl
theorem bv8:kt_PARTS.lookup ("within":Str)=some (.tup (d_within.map .str)):=by with_unfolding_all rfl
theorem ch3:kt_PARTS.lookup ("apart":Str)=some (.tup (d_apart.map .str)):=by with_unfolding_all rfl
theorem dy4:tb_MAKERS.lookup ("ink":Str)=some oT:=by with_unfolding_all rfl
theorem cl2:tb_MAKERS.lookup ("reign":Str)=some lP:=by with_unfolding_all rfl
theorem cs2:tb_MAKERS.lookup ("under":Str)=some mB:=by with_unfolding_all rfl
theorem bo6:tb_MAKERS.lookup ("between":Str)=some jX:=by with_unfolding_all rfl
theorem co3:tb_MAKERS.lookup ("after":Str)=some lT:=by with_unfolding_all rfl
theorem cr6:tb_MAKERS.lookup ("same":Str)=some mS:=by with_unfolding_all rfl
theorem ch0:tb_MAKERS.lookup ("within":Str)=some kT:=by with_unfolding_all rfl
theorem cf4:tb_MAKERS.lookup ("apart":Str)=some mE:=by with_unfolding_all rfl
theorem ck1{f:Fm}{w d1:Str}{ps ds:List T}{F:List T->Res T}{r:T}(hk:kt_PARTS.lookup w=some (.tup ds))(hp:bA ps=true)(hds:bA ds=true)(hd:qG [cF false f,.str w,.lst false ps]=.ok (.bl true))(h1:atI ds 1=some (.str d1))
 (h2:(d1=="letter")=false\/((d1=="letter")=true/\∃a b:Str,atI ps 0=some (.str a)/\atI ps 1=some (.str b)/\(a==b)=false))(hm:tb_MAKERS.lookup w=some F)(hF:F [cF false f,.lst false ps]=.ok r)(hc:dX r=true):
 cP [cF false f,.str w,.lst false ps]=.ok r:=by
 unfold cP pX
 have na:=jE f
 have za:=jB false f
 have zp:=fJ ps hp
 rcases h2 with h2|⟨h2,a,b,h3,h4,h5⟩
 . walk_at "ev"
 . walk_at "ev"
def pB(xs:List Int)(d e:Int)(j:Nat):Bool:=decide ((if xs.getD (min j (xs.length-1)) 0-d<0 then -(xs.getD (min j (xs.length-1)) 0-d)else xs.getD (min j (xs.length-1)) 0-d)<=e)
def gE(xs:List Int)(d e:Int)(n:Nat):List Int:=((List.range n).filter (pB xs d e)).map λ(j:Nat)=>(j:Int)
def cj1:List Int->T
 |[]=>.non
 |a::l=>.tup [.int a,.int ((a::l).getD l.length 0)]
theorem nL(xs:List Int)(d e:Int)(n:Nat):gE xs d e (n+1)=gE xs d e n++(if pB xs d e n=true then [(n:Int)]else []):=by
 unfold gE
 rw[List.range_succ,List.filter_append,List.map_append]
 congr 1
 simp only[List.filter_cons,List.filter_nil]
 split<;>rfl
theorem cu4{l:List Int}{a:Int}:atI ((a::l).map T.int) (-1)=some (.int ((a::l).getD l.length 0)):=by
 have e0:sV ((a::l).map T.int).length (-1)=some l.length:=by
  unfold sV
  rw[if_neg (by decide),List.length_map,List.length_cons,if_pos (by omega)]
  congr 1
  omega
 unfold atI
 rw[e0]
 show((a::l).map T.int)[l.length]?=_
 rw[List.getElem?_map,List.getD_eq_getElem?_getD,List.getElem?_eq_getElem (by simp)]
 rfl
theorem vN(xs:List Int)(d e:Int)(n m:Nat)(h:∀j,n<=j->j<n+m->pB xs d e j=false):gE xs d e (n+m)=gE xs d e n:=by
 induction m with
 |zero=>rfl
 |succ m ih=>
  rw[<-Nat.add_assoc,nL,ih (λj h1 h2=>h j h1 (by omega)),h (n+m) (by omega) (by omega)]
  simp
theorem xO{xs:List Int}{d e:Int}{n:Nat}(h:pB xs d e n=true):∃l,gE xs d e (n+1)=l++[(n:Int)]:=⟨gE xs d e n,by rw[nL,if_pos h]⟩
theorem ac3(xs:List Int)(d e:Int)(n:Nat):∀x∈gE xs d e n,x<n:=by
 intro x hx
 unfold gE at hx
 obtain⟨j,hj,rfl⟩:=List.mem_map.mp hx
 have:=List.mem_range.mp (List.mem_filter.mp hj).1
 omega
theorem ae6(l:List Int)(z:Int):(l++[z]).getD l.length 0=z:=by
 rw[List.getD_eq_getElem?_getD,List.getElem?_append_right (Nat.le_refl _)]
 simp
theorem cy8(xs:List Int)(d e:Int)(G:Nat)(h0:0<xs.length)(a:Int)(l:List Int)(hh:gE xs d e (min (xs.length-1) G+1)=a::l):
 cj1 (gE xs d e (G+1))=.tup [.int a,.int (if(a::l).getD l.length 0=((xs.length-1:Nat):Int)then(G:Int)else(a::l).getD l.length 0)]:=by
 have hmem:(a::l).getD l.length 0∈a::l:=by
  rw[List.getD_eq_getElem?_getD,List.getElem?_eq_getElem (by simp)]
  exact List.getElem_mem _
 have hb:=ac3 xs d e (min (xs.length-1) G+1) _ (by rw[hh];exact hmem)
 rcases Nat.lt_or_ge (xs.length-1) G with hG|hG
 . rw[Nat.min_eq_left (by omega)]at hh hb
   have same:∀j,xs.length-1<=j->pB xs d e j=pB xs d e (xs.length-1):=by
    intro j hj
    unfold pB
    rw[Nat.min_eq_right hj,Nat.min_self]
   cases hp:pB xs d e (xs.length-1)with
   |true=>
    have hG':pB xs d e G=true:=by rw[same G (by omega),hp]
    obtain⟨l1,h1⟩:=xO hG'
    obtain⟨l2,h2⟩:=xO hp
    rw[hh]at h2
    have pre:∀m,∃r,gE xs d e (xs.length-1+1+m)=a::l++r:=by
     intro m
     induction m with
     |zero=>exact⟨[],by rw[Nat.add_zero,hh,List.append_nil]⟩
     |succ m ih=>
      obtain⟨r,hr⟩:=ih
      rw[<-Nat.add_assoc,nL,hr,List.append_assoc]
      exact⟨_,rfl⟩
    obtain⟨r,hr⟩:=pre (G+1-(xs.length-1+1))
    rw[show xs.length-1+1+(G+1-(xs.length-1+1))=G+1 by omega]at hr
    have last:(a::l).getD l.length 0=((xs.length-1:Nat):Int):=by
     have:l.length=l2.length:=by
      have:=congrArg List.length h2
      simp at this
      exact this
     rw[h2,this,ae6]
    rw[last,if_pos rfl,hr]
    rw[hr]at h1
    show T.tup [.int a,.int ((a::(l++r)).getD (l++r).length 0)]=_
    have h1':a::(l++r)=l1++[(G:Int)]:=h1
    have hlen:(l++r).length=l1.length:=by
     have:=congrArg List.length h1'
     simp at this⊢
     exact this
    rw[h1',hlen,ae6]
   |false=>
    have hs:=vN xs d e (xs.length-1+1) (G+1-(xs.length-1+1)) (λj h1 h2=>by rw[same j (by omega),hp])
    rw[show xs.length-1+1+(G+1-(xs.length-1+1))=G+1 by omega,hh]at hs
    rw[hs]
    have hz:gE xs d e (xs.length-1+1)=gE xs d e (xs.length-1):=vN xs d e (xs.length-1) 1 (λj h1 h2=>by rw[show j=xs.length-1 by omega,hp])
    have hb2:=ac3 xs d e (xs.length-1) _ (by rw[<-hz,hh];exact hmem)
    rw[if_neg (by omega)]
    rfl
 . rw[Nat.min_eq_right hG]at hh hb
   rw[hh]
   show T.tup [.int a,.int ((a::l).getD l.length 0)]=_
   have:(if(a::l).getD l.length 0=((xs.length-1:Nat):Int)then(G:Int)else(a::l).getD l.length 0)=(a::l).getD l.length 0:=by
    split
    . next h=>rw[h];rw[h]at hb;omega
    . rfl
   rw[this]
theorem cs0(xs:List Int)(d e:Int)(G:Nat)(h0:0<xs.length)(hh:gE xs d e (min (xs.length-1) G+1)=[]):gE xs d e (G+1)=[]:=by
 rcases Nat.lt_or_ge (xs.length-1) G with hG|hG
 . rw[Nat.min_eq_left (by omega)]at hh
   have hp:pB xs d e (xs.length-1)=false:=by
    cases hp:pB xs d e (xs.length-1)with
    |false=>rfl
    |true=>
     obtain⟨l,h⟩:=xO hp
     rw[hh]at h
     simp at h
   have hs:=vN xs d e (xs.length-1+1) (G+1-(xs.length-1+1)) (λj h1 h2=>by
    have:pB xs d e j=pB xs d e (xs.length-1):=by
     unfold pB
     rw[Nat.min_eq_right (by omega),Nat.min_self]
    rw[this,hp])
   rw[show xs.length-1+1+(G+1-(xs.length-1+1))=G+1 by omega,hh]at hs
   exact hs
 . rw[Nat.min_eq_right hG]at hh
   exact hh
theorem bp8(o:Bool)(xs:List Int)(d e:Int)(G:Nat)(h0:xs≠[])(hx:xs.length<=1000)(hG:G<=1000):qF [.lst o (xs.map .int),.int d,.int e,.int G]=.ok (cj1 (gE xs d e (G+1))):=by
 unfold qF tG
 have hl:0<xs.length:=List.length_pos_iff.mpr h0
 obtain⟨n,hn⟩:∃n,min (xs.length-1) G+1=n:=⟨_,rfl⟩
 have e1:(if(G:Int)<(xs.length:Int)-1 then(G:Int)else(xs.length:Int)-1)+1=(n:Int):=by
  split<;>omega
 have k1:-(2^62)<=(n:Int)/\(n:Int)<2^62:=by omega
 have k2:(iX 0 (n:Int).toNat).length<=sizeLine:=by rw[gM];exact pE (by omega)
 have hc:cE (aJ 7) (bK (aG oH (bZ af0 (aD (aG cY (aG aY (aB 0) (aB 7)) (aB 1)) aI)) (aB 2))) (aQ (aB 7)) [some (.lst o (xs.map .int)),some (.int d),some (.int e),some (.int G),some (.int ((xs.length:Int)-1)),none,none,none] (iX 0 (n:Int).toNat)=.ok ((gE xs d e n).map .int):=by
  unfold iX gE
  rw[Int.toNat_natCast,List.map_map]
  refine ap2 λi hi=>?_
  have hi:=List.mem_range.mp hi
  have a1:=sQ (xs:=xs) (i:=i) (by omega)
  have hp:pB xs d e i=decide ((if xs.getD i 0-d<0 then -(xs.getD i 0-d)else xs.getD i 0-d)<=e):=by
   unfold pB
   rw[Nat.min_eq_left (by omega)]
  have z:(0:Int)+(i:Int)=(i:Int):=Int.zero_add _
  refine⟨?_,λ_=>?_⟩
  . rw[hp]
    clear hp
    walk_at "ev"
  . clear hp
    walk_at "ev"
    rfl
 walk_at "ev"
 have hlast:((xs.length:Int)-1)=((xs.length-1:Nat):Int):=by omega
 cases hh:gE xs d e n with
 |nil=>
  rw[<-hn]at hh
  have z1:=cs0 xs d e G hl hh
  have z2:(((0:Nat):Int)==0)=true:=rfl
  rw[z1]
  clear hh hn e1 hc z1 hlast
  walk_at "ev"
  rfl
 |cons a l=>
  rw[<-hn]at hh
  rw[cy8 xs d e G hl a l hh]
  have q1:atI ((a::l).map T.int) 0=some (.int a):=eP (j:=0) rfl
  have q2:atI ((a::l).map T.int) ((((a::l).map T.int).length:Int)-1)=some (.int ((a::l).getD l.length 0)):=by
   have:=sQ (xs:=a::l) (i:=l.length) (by simp)
   rw[List.length_map,List.length_cons,show((l.length+1:Nat):Int)-1=(l.length:Int) by omega]
   exact this
  have q3:((((a::l).map T.int).length:Int)==0)=false:=by
   rw[List.length_map,List.length_cons,beq_eq_false_iff_ne]
   omega
  have q3':(((l.length+1:Nat):Int)==0)=false:=by
   rw[beq_eq_false_iff_ne]
   omega
  have q4:(2:Nat)<=sizeLine:=by decide
  have q5:bA ((a::l).map T.int)=true:=kL _
  clear hh hn e1 hc
  generalize(a::l).map T.int=X at q1 q2 q3 q5⊢
  generalize(a::l).getD l.length 0=z at q2⊢
  cases hz:(z==((xs.length-1:Nat):Int))with
  |true=>
   have hz':z=((xs.length-1:Nat):Int):=eq_of_beq hz
   rw[if_pos hz']
   clear hz'
   walk_at "ev"
  |false=>
   have hz':¬z=((xs.length-1:Nat):Int):=by rw[beq_eq_false_iff_ne]at hz;exact hz
   rw[if_neg hz']
   clear hz'
   walk_at "ev"
theorem wY{α:Type}{b:T->Fr->Option Fr}{body:Fr->bU}{g r:α->T}{key:α->Str}{n:Str}(Iv:Fr->Prop)
 (hs:∀a ρ,Iv ρ->∃ρ1,b (g a) ρ=some ρ1/\(((key a==n)=true/\body ρ1=.rt (r a))\/((key a==n)=false/\∃ρ2,body ρ1=.nx ρ2/\Iv ρ2))):
 ∀{l:List α}{ρ:Fr}{a0:α},Iv ρ->l.find? (λa=>key a==n)=some a0->eI b body (l.map g) ρ=.rt (r a0)
 |[],ρ,a0,_,h=>by simp at h
 |a::l,ρ,a0,hi,h=>by
  obtain⟨ρ1,h1,h2⟩:=hs a ρ hi
  rw[List.find?_cons]at h
  simp only[List.map_cons,eI,h1]
  rcases h2 with⟨k,h2⟩|⟨k,ρ2,h2,h3⟩
  . rw[k]at h
    cases h
    rw[h2]
  . rw[k]at h
    rw[h2]
    exact wY Iv hs h3 h
theorem ah4{α:Type}{key:α->Str}:∀{l:List α}{a:α},(l.map key).Nodup->a∈l->l.find? (λx=>key x==key a)=some a
 |[],a,_,h=>by cases h
 |x::l,a,nd,h=>by
  rw[List.map_cons,List.nodup_cons]at nd
  rw[List.find?_cons]
  rcases List.mem_cons.mp h with rfl|h
  . simp
  . have:(key x==key a)=false:=by
     simp
     intro e
     exact nd.1 (by rw[e];exact List.mem_map_of_mem h)
    rw[this]
    exact ah4 nd.2 h
theorem ch9{f:Fm}(g:Gd f){p:Str×List Int}(hp:p∈f.inks):eY [cF false f,.str p.1]=.ok (.lst true (p.2.map .int)):=by
 unfold eY jA
 have fl:=br3 false f
 have n1:=kJ f.inks
 have key:∀o2 o3:Option T,eI (eR (bE (aJ 2) (bE (aJ 3) eU))) (cW (bK (aG fN (aB 2) (aB 1))) (bM [] (bZ gS (aD (aB 3) aI))) bX) (f.inks.map (dN false)) [some (cF false f),some (.str p.1),o2,o3]=.rt (.lst true (p.2.map .int)):=λo2 o3=>by
  refine wY (key:=λq:Str×List Int=>q.1) (r:=λq:Str×List Int=>.lst true (q.2.map .int)) (λρ=>∃o2 o3,ρ=[some (cF false f),some (.str p.1),o2,o3]) ?_ ⟨o2,o3,rfl⟩ (ah4 (key:=λq:Str×List Int=>q.1) g.ind hp)
  rintro a ρ ⟨o2,o3,rfl⟩
  refine⟨[some (cF false f),some (.str p.1),some (.str a.1),some (.lst false (a.2.map .int))],rfl,?_⟩
  cases e:(a.1==p.1)with
  |true=>exact .inl ⟨rfl,by walk_at "ev"⟩
  |false=>exact .inr ⟨rfl,[some (cF false f),some (.str p.1),some (.str a.1),some (.lst false (a.2.map .int))],by walk_at "ev",_,_,rfl⟩
 clear g
 walk_at "ev"
theorem bs1{f:Fm}(g:Gd f){p:Str×Int×Int}(hp:p∈f.reigns):jI [cF false f,.str p.1]=.ok (eN p):=by
 unfold jI lV
 have fl:=ak6 false f
 have n1:=kA f.reigns
 have b0:=@jR T
 have key:∀o2:Option T,eI (aJ 2) (cW (bK (aG fN (aG aY (aB 2) (dC (.int 0))) (aB 1))) (bM [] (aQ (aB 2))) bX) (f.reigns.map eN) [some (cF false f),some (.str p.1),o2]=.rt (eN p):=λo2=>by
  refine wY (key:=λq:Str×Int×Int=>q.1) (r:=λq:Str×Int×Int=>eN q) (λρ=>∃o2,ρ=[some (cF false f),some (.str p.1),o2]) ?_ ⟨o2,rfl⟩ (ah4 (key:=λq:Str×Int×Int=>q.1) g.rnd hp)
  rintro a ρ ⟨o2,rfl⟩
  refine⟨[some (cF false f),some (.str p.1),some (eN a)],rfl,?_⟩
  simp only[eN]
  cases e:(a.1==p.1)with
  |true=>exact .inl ⟨rfl,by walk_at "ev"⟩
  |false=>exact .inr ⟨rfl,[some (cF false f),some (.str p.1),some (.tup [.str a.1,.int a.2.1,.int a.2.2])],by walk_at "ev",_,rfl⟩
 clear g
 walk_at "ev"
theorem wZ{b l k:Int}(h1:1<=k)(h2:k<=l):lC [.int b,.int l,.int k]=.ok (.int (b+k-1)):=by
 unfold lC pC
 have:=mY h1 h2
 walk_at "ev"
theorem qM{i:Int}(h1:-10000000<=i)(h2:i<=10000000):i.natAbs.log2<1920:=by
 by_cases e:i.natAbs=0
 . rw[e];decide
 . rw[Nat.log2_lt e]
   exact Nat.lt_of_lt_of_le (show i.natAbs<2^24 by omega) (Nat.pow_le_pow_right (by decide) (by decide))
theorem qP{i:Int}(h1:-1000000<=i)(h2:i<=1000000):(toString i:Str).length<=2000000:=by
 have:=PyProof.Rows.len_str_of_int i
 omega
theorem iN{f:Fm}(g:Gd f){l:Nat}{n:Str}(h:f.names[l]?=some n):n.length<=2000000:=by
 have:=xA (g.nn n (List.mem_of_getElem? h))
 omega
theorem ed0:∀w∈(["ink","reign","under","between","after","same","within","apart"]:List Str),w.length<=2000000:=by decide+kernel
theorem eL:(("letter":Str)=="letter")=true:=beq_self_eq_true _
def co2(f:Fm):List Str->List T->Prop
 |[],[]=>True
 |d::ds,p::ps=>fO [cF false f,.str d,p]=.ok (.bl true)/\co2 f ds ps
 |_,_=>False
theorem bh0{f:Fm}:∀{ds:List Str}{ps:List T},co2 f ds ps->∀(i:Nat)(d:Str)(p:T),ds[i]?=some d->ps[i]?=some p->fO [cF false f,.str d,p]=.ok (.bl true)
 |[],_,_,i,d,p,h,_=>by simp at h
 |_::_,[],h,_,_,_,_,_=>h.elim
 |d::ds,p::ps,h,0,_,_,e1,e2=>by cases e1;cases e2;exact h.1
 |d::ds,p::ps,h,i+1,_,_,e1,e2=>bh0 h.2 i _ _ e1 e2
theorem qH{f:Fm}(g:Gd f){c w d1:Str}{ps:List T}{ds:List Str}(nl:List (Str×Nat))(xs:List Str){lo:Int}{hi:Option Int}{F:List T->Res T}(hk:kt_PARTS.lookup w=some (.tup (ds.map .str)))(hm:tb_MAKERS.lookup w=some F)(hl:ps.length=ds.length)(h4:ds.length<=4/\nl.length<=4/\xs.length<=4)(hp:bA ps=true)(hd:co2 f ds ps)(hnl:∀p∈nl,f.names[p.2]?=some p.1)(hxb:∀y∈xs,y.length<=2000000)(h1:atI (ds.map .str) 1=some (T.str d1))
 (h2:(d1=="letter")=false\/((d1=="letter")=true/\∃a b:Str,atI ps 0=some (.str a)/\atI ps 1=some (.str b)/\(a==b)=false))
 (h7:∀a b d e h i:Option T,cE (eR (bE (aJ 7) (bE (aJ 8) eU))) (bK (aG fN (aB 8) (dC (.str "letter")))) (aQ (aB 7)) [a,b,d,e,h,i,none,none,none,none] (iT ps (ds.map .str))=.ok ((nl.map (·.1)).map .str))
 (hx:∀a:Option T,cE (aJ 1) cM (bZ tJ (aD (aB 1) aI)) [a,none] (.str w::ps)=.ok ((w::xs).map .str))
 (hF:∀x,iK (bQ (cG 10 [.ins true c [] [],cF false f,.str w,.lst false ps,.int lo,kW hi]))=.ok (fI true c (nl.map λp=>(p.2:Int)) lo hi x)->dX (fI true c (nl.map λp=>(p.2:Int)) lo hi x)=true->F [cF false f,.lst false ps]=.ok (fI true c (nl.map λp=>(p.2:Int)) lo hi x))
 (hc:c∈gW:=by decide+kernel)(hw:w.length<=2000000:=by decide+kernel):
 ∃x,cP [cF false f,.str w,.lst false ps]=.ok (fI true c (nl.map λp=>(p.2:Int)) lo hi x):=by
 obtain⟨x,e⟩:=dz0 g hc (lo:=lo) (hi:=hi) hp (by omega) hk (kN ds) h7 h4.2.1 hnl hx h4.2.2 (List.forall_mem_cons.mpr ⟨hw,hxb⟩)
 have k:=ax9 c (nl.map λp=>(p.2:Int)) lo hi x
 exact⟨x,ck1 hk hp (kN ds) (cj0 hk hp hl h4.1 (bh0 hd)) h1 h2 hm (hF x e k) k⟩
theorem al1{f:Fm}{l:Nat}{n:Str}(h:f.names[l]?=some n):∀p∈[(n,l)],f.names[p.2]?=some p.1:=List.forall_mem_cons.mpr ⟨h,nofun⟩
theorem al2{f:Fm}{l m:Nat}{n k:Str}(h:f.names[l]?=some n)(h':f.names[m]?=some k):∀p∈[(n,l),(k,m)],f.names[p.2]?=some p.1:=List.forall_mem_cons.mpr ⟨h,al1 h'⟩
theorem xl{a:Str}{xs:List Str}(h:a.length<=2000000)(k:∀y∈xs,y.length<=2000000):∀y∈a::xs,y.length<=2000000:=List.forall_mem_cons.mpr ⟨h,k⟩
theorem x0:∀y∈([]:List Str),y.length<=2000000:=nofun
theorem xn{f:Fm}(g:Gd f){n:Str}(h:lZ n=true):n.length<=2000000:=by
 have:=xA h
 omega
local macro_rules | `(tactic| walk_at "7") => `(tactic| (intros; simp only [List.map_cons, List.map_nil, iT, List.zipWith_cons_cons, List.zipWith_nil_left, cE]; walk_at "ev"))
local macro_rules | `(tactic| walk_at "x") => `(tactic| (intros; simp only [cE]; walk_at "ev"))
theorem ak2{f:Fm}(g:Gd f){l:Nat}{n:Str}(h:f.names[l]?=some n){lo hi:Int}(h1:-4000<=lo)(h2:lo<=hi)(h3:hi<=4000):
 ∃x,cP [cF false f,.str "between",.lst false [.str n,.int lo,.int hi]]=.ok (fI true "Between" [(l:Int)] lo (some hi) x):=by
 have e1:=eL
 have e2:=sD "year" (by decide+kernel)
 have g_lo:=qM (show -10000000<=lo by omega) (by omega)
 have g_hi:=qM (show -10000000<=hi by omega) (by omega)
 refine qH g (c:="Between") (d1:="year") [(n,l)] [n,toString lo,toString hi] bb6 bo6 rfl ⟨by decide,by simp,by simp⟩ rfl ⟨fM (List.mem_of_getElem? h),nP (by decide+kernel) bc4 (by omega) (by omega),nP (by decide+kernel) bc4 (by omega) (by omega),trivial⟩ (al1 h) (xl (iN g h)<|xl (qP (by omega) (by omega))<|xl (qP (by omega) (by omega))<|x0) (iJ _ _ _) (.inl e2) (by walk_at "7") (by walk_at "x") λx hx cs=>?_
 unfold jX jY
 have hm:sK [cF false f,.str "between",.lst false [.str n,.int lo,.int hi],.int lo,.int hi]=.ok (fI true "Between" [(l:Int)] lo (some hi) x):=hx
 have b0:=@jR T
 have b1:=@iJ T
 have b2:=@qI T
 have b3:=@uY T
 have na:=jE f
 have za:=jB false f
 have k1:decide (hi<lo)=false:=decide_eq_false (by omega)
 clear hx
 walk_at "ev"
theorem cb3{f:Fm}(g:Gd f){l m:Nat}{n k:Str}(h:f.names[l]?=some n)(h':f.names[m]?=some k)(hne:(n==k)=false):
 ∃x,cP [cF false f,.str "after",.lst false [.str n,.str k]]=.ok (fI true "After" [(l:Int),(m:Int)] 1 none x):=by
 have e1:=eL
 refine qH g (c:="After") (d1:="letter") [(n,l),(k,m)] [n,k] cn1 co3 rfl ⟨by decide,by simp,by simp⟩ rfl ⟨fM (List.mem_of_getElem? h),fM (List.mem_of_getElem? h'),trivial⟩ (al2 h h') (xl (iN g h)<|xl (iN g h')<|x0) (iJ _ _ _) (.inr ⟨e1,n,k,jR _ _,iJ _ _ _,hne⟩) (by walk_at "7") (by walk_at "x") λx hx cs=>?_
 unfold lT lU
 have hm:vZ [cF false f,.str "after",.lst false [.str n,.str k],.int 1,.non]=.ok (fI true "After" [(l:Int),(m:Int)] 1 none x):=hx
 have b0:=@jR T
 have b1:=@iJ T
 have b2:=@qI T
 have b3:=@uY T
 have na:=jE f
 have za:=jB false f
 clear hx
 walk_at "ev"
theorem ck7{f:Fm}(g:Gd f){l m:Nat}{n k:Str}(h:f.names[l]?=some n)(h':f.names[m]?=some k)(hne:(n==k)=false):
 ∃x,cP [cF false f,.str "same",.lst false [.str n,.str k]]=.ok (fI true "Same" [(l:Int),(m:Int)] 0 (some 0) x):=by
 have e1:=eL
 refine qH g (c:="Same") (d1:="letter") [(n,l),(k,m)] [n,k] cg9 cr6 rfl ⟨by decide,by simp,by simp⟩ rfl ⟨fM (List.mem_of_getElem? h),fM (List.mem_of_getElem? h'),trivial⟩ (al2 h h') (xl (iN g h)<|xl (iN g h')<|x0) (iJ _ _ _) (.inr ⟨e1,n,k,jR _ _,iJ _ _ _,hne⟩) (by walk_at "7") (by walk_at "x") λx hx cs=>?_
 unfold mS mW
 have hm:wR [cF false f,.str "same",.lst false [.str n,.str k],.int 0,.int 0]=.ok (fI true "Same" [(l:Int),(m:Int)] 0 (some 0) x):=hx
 have b0:=@jR T
 have b1:=@iJ T
 have b2:=@qI T
 have b3:=@uY T
 have na:=jE f
 have za:=jB false f
 clear hx
 walk_at "ev"
theorem ba8{f:Fm}(g:Gd f){l m:Nat}{n k:Str}(h:f.names[l]?=some n)(h':f.names[m]?=some k)(hne:(n==k)=false){hi:Int}(h1:0<=hi)(h2:hi<=300):
 ∃x,cP [cF false f,.str "within",.lst false [.str n,.str k,.int hi]]=.ok (fI true "Within" [(l:Int),(m:Int)] 0 (some hi) x):=by
 have e1:=eL
 have e2:=sD "later" (by decide+kernel)
 have g_hi:=qM (show -10000000<=hi by omega) (by omega)
 refine qH g (c:="Within") (d1:="letter") [(n,l),(k,m)] [n,k,toString hi] bv8 ch0 rfl ⟨by decide,by simp,by simp⟩ rfl ⟨fM (List.mem_of_getElem? h),fM (List.mem_of_getElem? h'),nP (by decide+kernel) cp4 h1 h2,trivial⟩ (al2 h h') (xl (iN g h)<|xl (iN g h')<|xl (qP (by omega) (by omega))<|x0) (iJ _ _ _) (.inr ⟨e1,n,k,jR _ _,iJ _ _ _,hne⟩) (by walk_at "7") (by walk_at "x") λx hx cs=>?_
 unfold kT kX
 have hm:tS [cF false f,.str "within",.lst false [.str n,.str k,.int hi],.int 0,.int hi]=.ok (fI true "Within" [(l:Int),(m:Int)] 0 (some hi) x):=hx
 have b0:=@jR T
 have b1:=@iJ T
 have b2:=@qI T
 have b3:=@uY T
 have na:=jE f
 have za:=jB false f
 clear hx
 walk_at "ev"
theorem bj1{f:Fm}(g:Gd f){l m:Nat}{n k:Str}(h:f.names[l]?=some n)(h':f.names[m]?=some k)(hne:(n==k)=false){lo hi:Int}(h1:-300<=lo)(h2:lo<=hi)(h3:hi<=300):
 ∃x,cP [cF false f,.str "apart",.lst false [.str n,.str k,.int lo,.int hi]]=.ok (fI true "Apart" [(l:Int),(m:Int)] lo (some hi) x):=by
 have e1:=eL
 have e2:=sD "gap" (by decide+kernel)
 have g_lo:=qM (show -10000000<=lo by omega) (by omega)
 have g_hi:=qM (show -10000000<=hi by omega) (by omega)
 refine qH g (c:="Apart") (d1:="letter") [(n,l),(k,m)] [n,k,toString lo,toString hi] ch3 cf4 rfl ⟨by decide,by simp,by simp⟩ rfl ⟨fM (List.mem_of_getElem? h),fM (List.mem_of_getElem? h'),nP (by decide+kernel) bi8 (by omega) (by omega),nP (by decide+kernel) bi8 (by omega) (by omega),trivial⟩ (al2 h h') (xl (iN g h)<|xl (iN g h')<|xl (qP (by omega) (by omega))<|xl (qP (by omega) (by omega))<|x0) (iJ _ _ _) (.inr ⟨e1,n,k,jR _ _,iJ _ _ _,hne⟩) (by walk_at "7") (by walk_at "x") λx hx cs=>?_
 unfold mE mF
 have hm:vS [cF false f,.str "apart",.lst false [.str n,.str k,.int lo,.int hi],.int lo,.int hi]=.ok (fI true "Apart" [(l:Int),(m:Int)] lo (some hi) x):=hx
 have b0:=@jR T
 have b1:=@iJ T
 have b2:=@qI T
 have b3:=@uY T
 have na:=jE f
 have za:=jB false f
 have k1:decide (hi<lo)=false:=decide_eq_false (by omega)
 clear hx
 walk_at "ev"
theorem cm2{f:Fm}(g:Gd f){l:Nat}{n:Str}(h:f.names[l]?=some n){p:Str×Int×Int}(hp:p∈f.reigns){k:Int}(h1:1<=k)(h2:k<=p.2.2):
 ∃x,cP [cF false f,.str "reign",.lst false [.str n,.str p.1,.int k]]=.ok (fI true "Reign" [(l:Int)] (p.2.1+k-1) (some (p.2.1+k-1)) x):=by
 have e1:=eL
 have h100:=(g.rn p hp).2.2.2.2
 have e2:=sD "reign" (by decide+kernel)
 have e3:=sD "place" (by decide+kernel)
 have g_k:=qM (show -10000000<=k by omega) (by omega)
 refine qH g (c:="Reign") (d1:="reign") [(n,l)] [n,p.1,toString k] cz2 cl2 rfl ⟨by decide,by simp,by simp⟩ rfl ⟨fM (List.mem_of_getElem? h),ah6 g (List.mem_map_of_mem hp),nP (by decide+kernel) co1 h1 (by omega),trivial⟩ (al1 h) (xl (iN g h)<|xl (xn g (g.rn p hp).1)<|xl (qP (by omega) (by omega))<|x0) (iJ _ _ _) (.inl e2) (by walk_at "7") (by walk_at "x") λx hx cs=>?_
 unfold lP mC
 have hm:wE [cF false f,.str "reign",.lst false [.str n,.str p.1,.int k],.int (p.2.1+k-1),.int (p.2.1+k-1)]=.ok (fI true "Reign" [(l:Int)] (p.2.1+k-1) (some (p.2.1+k-1)) x):=hx
 have b0:=@jR T
 have b1:=@iJ T
 have b2:=@qI T
 have b3:=@uY T
 have na:=jE f
 have za:=jB false f
 have k1:=bs1 g hp
 have k2:=wZ (b:=p.2.1) h1 h2
 simp only[eN]at k1
 clear hx
 walk_at "ev"
theorem cz3{f:Fm}(g:Gd f){l:Nat}{n:Str}(h:f.names[l]?=some n){p:Str×Int×Int}(hp:p∈f.reigns):
 ∃x,cP [cF false f,.str "under",.lst false [.str n,.str p.1]]=.ok (fI true "Under" [(l:Int)] p.2.1 (some (p.2.1+p.2.2-1)) x):=by
 have e1:=eL
 have e2:=sD "reign" (by decide+kernel)
 refine qH g (c:="Under") (d1:="reign") [(n,l)] [n,p.1] cw3 cs2 rfl ⟨by decide,by simp,by simp⟩ rfl ⟨fM (List.mem_of_getElem? h),ah6 g (List.mem_map_of_mem hp),trivial⟩ (al1 h) (xl (iN g h)<|xl (xn g (g.rn p hp).1)<|x0) (iJ _ _ _) (.inl e2) (by walk_at "7") (by walk_at "x") λx hx cs=>?_
 unfold mB lN
 have hm:vG [cF false f,.str "under",.lst false [.str n,.str p.1],.int p.2.1,.int (p.2.1+p.2.2-1)]=.ok (fI true "Under" [(l:Int)] p.2.1 (some (p.2.1+p.2.2-1)) x):=hx
 have b0:=@jR T
 have b1:=@iJ T
 have b2:=@qI T
 have b3:=@uY T
 have na:=jE f
 have za:=jB false f
 have k1:=bs1 g hp
 have k2:=wZ (b:=p.2.1) (l:=p.2.2) (k:=p.2.2) (g.rn p hp).2.2.2.1 (Int.le_refl _)
 simp only[eN]at k1
 clear hx
 walk_at "ev"
theorem cc1:fK "table" ["first","present","letters","inks","reigns"]=none:=by decide+kernel
theorem cl7:tm_table.lookup ("Archive":Str)=some eY:=by with_unfolding_all rfl
theorem bq6{b:Bool}{f:Fm}{o:Fr->Res T}{r:Fr->Res (List T)}{ρ:Fr}{ts:List T}(ho:o ρ=.ok (cF b f))(hr:r ρ=.ok ts):gU 2 "table" tm_table o r ρ=rE 2 eY (cF b f::ts):=by
 simp only[gU,ho,hr,mD,cF,cc1,cl7]
local macro_rules | `(tactic| walk_at "7") => `(tactic| (intros; simp only [List.map_cons, List.map_nil, iT, List.zipWith_cons_cons, List.zipWith_nil_left, cE]; walk_at "ev"))
local macro_rules | `(tactic| walk_at "x") => `(tactic| (intros; simp only [cE]; walk_at "ev"))
theorem dd0{f:Fm}(g:Gd f){l:Nat}{n:Str}(h:f.names[l]?=some n){p:Str×List Int}(hp:p∈f.inks){d e:Int}(h1:0<=d)(h2:d<=1000000)(h3:0<=e)(h4:e<=1000000){a z:Int}{r:List Int}(hh:gE p.2 d e (f.span.toNat+1)=a::r)(hz:(a::r).getD r.length 0=z):
 ∃x,cP [cF false f,.str "ink",.lst false [.str n,.str p.1,.int d,.int e]]=.ok (fI true "Ink" [(l:Int)] (f.first+f.span-z) (some (f.first+f.span-a)) x):=by
 have e1:=eL
 have e2:=sD "ink" (by decide+kernel)
 have e3:=sD "dark" (by decide+kernel)
 have g_d:=qM (show -10000000<=d by omega) (by omega)
 have g_e:=qM (show -10000000<=e by omega) (by omega)
 refine qH g (c:="Ink") (d1:="ink") [(n,l)] [n,p.1,toString d,toString e] dp2 dy4 rfl ⟨by decide,by simp,by simp⟩ rfl ⟨fM (List.mem_of_getElem? h),cm6 g (List.mem_map_of_mem hp),nP (by decide+kernel) bt4 (by omega) (by omega),nP (by decide+kernel) bt4 (by omega) (by omega),trivial⟩ (al1 h) (xl (iN g h)<|xl (xn g (g.inn p hp).1)<|xl (qP (by omega) (by omega))<|xl (qP (by omega) (by omega))<|x0) (iJ _ _ _) (.inl e2) (by clear hh hz;walk_at "7") (by clear hh hz;walk_at "x") λx hx cs=>?_
 unfold oT oU
 have hm:al0 [cF false f,.str "ink",.lst false [.str n,.str p.1,.int d,.int e],.int (f.first+f.span-z),.int (f.first+f.span-a)]=.ok (fI true "Ink" [(l:Int)] (f.first+f.span-z) (some (f.first+f.span-a)) x):=hx
 have b0:=@jR T
 have b1:=@iJ T
 have b2:=@qI T
 have b3:=@uY T
 have na:=jE f
 have za:=jB false f
 have fp:=ad2 false f
 have ff:=ae9 false f
 have ht:=ch9 g hp
 have hA:qF [.lst false (p.2.map .int),.int d,.int e,.int (f.first+f.span-f.first)]=.ok (.tup [.int a,.int z]):=by
  have:=bp8 false p.2 d e f.span.toNat (by have:=(g.inn p hp).2.l1;intro q;rw[q]at this;simp at this) (by have:=(g.inn p hp).2.l60;omega) (by have:=g.s1;omega)
  rw[hh]at this
  simp only[cj1,hz]at this
  rw[show f.first+f.span-f.first=(f.span.toNat:Int) by have:=g.s0;omega]
  exact this
 have hmt:gU 2 "table" tm_table (aB 0) (aD (aG aY (aB 1) (dC (.int 1))) aI) [some (cF false f),some (.lst false [.str n,.str p.1,.int d,.int e]),none]=.ok (.lst true (p.2.map .int)):=by
  rw[bq6 (b:=false) (f:=f) (ts:=[.str p.1]) rfl (by clear hA hm hx hh hz;walk_at "ev")]
  clear hA hm hx hh hz
  walk_at "ev"
 clear hh hz
 clear hx
 walk_at "ev"
theorem cg6(c:Int)(m:Nat)(hm:m<=8):∃xs:List Int,nN [.int c,.int m]=.ok (.lst true (xs.map .int))/\xs.length=m/\∀x∈xs,0<=x:=by
 unfold nN tM
 have ew:=bn3
 have h60:wA (.int 10) (.int 60)=.ok (.int 1000000000000000000000000000000000000000000000000000000000000):=by
  rw[ab3,vC (show xF 10 60 from⟨by decide,by decide,by decide⟩)]
  rfl
 have h18:wA (.int 10) (.int 18)=.ok (.int 1000000000000000000):=by
  rw[ab3,vC (show xF 10 18 from⟨by decide,by decide,by decide⟩)]
  rfl
 walk_at "ev"
 generalize hL:eI _ _ _ _=o
 obtain⟨ρ',rfl,xs,r,o4,rfl,xl,xb,hr⟩:=jO (λi ρ=>∃(xs:List Int)(r:Int)(o4:Option T),ρ=[some (.int c),some (.int m),some (.int r),some (.lst true (xs.map .int)),o4]/\xs.length=i/\(∀x∈xs,0<=x)/\0<=r) hL ⟨[],_,_,rfl,rfl,dR,Int.emod_nonneg _ (by decide)⟩ (by
  rintro i t ρ et ⟨xs,r,o4,rfl,xl,xb,hr⟩
  obtain⟨hi,rfl⟩:=jS et
  have hl:xs.length<=100000:=by omega
  clear hL et
  by_cases hA:c<0\/1000000000000000000<=c
  . have k:(decide (c<0)||decide (1000000000000000000<=c))=true:=by simpa using hA
    cases h1:decide (c<0)with
    |true=>
     walk_at "ev"
     exact⟨xs++[r%10007],_,_,by rw[List.map_append];rfl,by simp[xl],λx hx=>(List.mem_append.mp hx).elim (xb x) (λq=>by rw[List.mem_singleton.mp q];exact Int.emod_nonneg _ (by decide)),by omega⟩
    |false=>
     have h2:decide (1000000000000000000<=c)=true:=by rw[h1]at k;simpa using k
     walk_at "ev"
     exact⟨xs++[r%10007],_,_,by rw[List.map_append];rfl,by simp[xl],λx hx=>(List.mem_append.mp hx).elim (xb x) (λq=>by rw[List.mem_singleton.mp q];exact Int.emod_nonneg _ (by decide)),by omega⟩
  . have h1:decide (c<0)=false:=decide_eq_false (by omega)
    have h2:decide (1000000000000000000<=c)=false:=decide_eq_false (by omega)
    walk_at "ev"
    exact⟨xs++[gL (gL c (0+(i:Int))+c) (0+(i:Int))],_,_,by rw[List.map_append];rfl,by simp[xl],λx hx=>(List.mem_append.mp hx).elim (xb x) (λq=>by rw[List.mem_singleton.mp q];exact(ae5 _ _).1),hr⟩)
 rw[gM]at xl
 refine⟨xs,?_,by omega,xb⟩
 clear hL
 walk_at "ev"
theorem cz0(c:Int){f:Fm}(g:Gd f):∃ys:List Int,oM [.int c,fX false f]=.ok (.lst true (ys.map .int))/\ys.length=f.names.length/\∀y∈ys,f.first<=y/\y<=f.first+f.span:=by
 obtain⟨xs,h1,h2,h3⟩:=cg6 c f.names.length g.n8
 have hs:=g.s0
 have hm:0<f.first+f.span-f.first+1:=by omega
 refine⟨xs.map λx=>f.first+x%(f.first+f.span-f.first+1),?_,by simp[h2],λy hy=>?_⟩
 . unfold oM pA
   have hx:xs.length<=100000:=by have:=g.n8;omega
   have hc:cE (aJ 2) cM (aG bO (aG aY (aB 1) (dC (.int 0))) (aG bV (aB 2) (aG bO (aG cY (aG aY (aB 1) (dC (.int 1))) (aG aY (aB 1) (dC (.int 0)))) (dC (.int 1))))) [some (.int c),some (fX false f),none] (xs.map .int)=.ok ((xs.map λx=>f.first+x%(f.first+f.span-f.first+1)).map .int):=by
    rw[List.map_map]
    refine eQ λx _=>?_
    simp only[fX]
    have b0:=@jR T
    have b1:=@iJ T
    clear h1 h2 h3
    walk_at "ev"
    rfl
   have b2:=@qI T
   simp only[fX]at hc⊢
   clear h2 h3
   walk_at "ev"
 . obtain⟨x,_,rfl⟩:=List.mem_map.mp hy
   have:=Int.emod_nonneg x (show f.first+f.span-f.first+1≠0 by omega)
   have:=Int.emod_lt_of_pos x hm
   omega
structure Sd where
 word:Str
 cls:Str
 parts:List T
 ls:List Nat
 lo:Int
 hi:Option Int
def hV(o:Bool)(s:Sd):T:=.tup [.str s.word,.lst o s.parts,.tup (s.ls.map λ(l:Nat)=>T.int (l:Int)),.tup [.int s.lo,kW s.hi]]
structure SdOk (f:Fm) (s:Sd):Prop where
 np:bA s.parts=true
 cp:dL s.parts=true
 c8:s.cls∈gW
 l12:s.ls.length=1\/s.ls.length=2
 lb:∀l∈s.ls,l<f.names.length
 made:∃x,cP [cF false f,.str s.word,.lst false s.parts]=.ok (fI true s.cls (s.ls.map λ(l:Nat)=>(l:Int)) s.lo s.hi x)
theorem lb1{i n:Nat}(h:i<n):∀l∈[i],l<n:=λl q=>by rw[List.mem_singleton.mp q];exact h
theorem lb2{i j n:Nat}(h:i<n)(k:j<n):∀l∈[i,j],l<n:=λl q=>by
 rcases List.mem_cons.mp q with rfl|q
 . exact h
 . rw[List.mem_singleton.mp q];exact k
theorem dj2:("Ink":Str)∈gW:=by decide+kernel
theorem cl1:("Reign":Str)∈gW:=by decide+kernel
theorem cj4:("Under":Str)∈gW:=by decide+kernel
theorem am2:("Between":Str)∈gW:=by decide+kernel
theorem cu0:("After":Str)∈gW:=by decide+kernel
theorem ci8:("Same":Str)∈gW:=by decide+kernel
theorem bg8:("Within":Str)∈gW:=by decide+kernel
theorem bf0:("Apart":Str)∈gW:=by decide+kernel
theorem uM{f:Fm}{k:Nat}(h:k<f.names.length):∃n,f.names[k]?=some n/\atI (f.names.map T.str) (k:Int)=some (.str n):=
 ⟨f.names[k],List.getElem?_eq_getElem h,eP (by simp[h])⟩
theorem br7{xs:List Int}{k:Nat}(h:k<xs.length):∃v∈xs,atI (xs.map T.int) (k:Int)=some (.int v):=
 ⟨xs[k],List.getElem_mem h,eP (by simp[h])⟩
theorem di4{xs:List Int}(h:xs.length=6)(hb:∀x∈xs,0<=x):∃a b c d e g:Int,xs.map T.int=[.int a,.int b,.int c,.int d,.int e,.int g]/\0<=a/\0<=b/\0<=c/\0<=d/\0<=e/\0<=g:=by
 match xs,h with
 |[a,b,c,d,e,g],_=>exact⟨a,b,c,d,e,g,rfl,hb a (by simp),hb b (by simp),hb c (by simp),hb d (by simp),hb e (by simp),hb g (by simp)⟩
theorem cc6{f:Fm}(g:Gd f){i j:Nat}{n k:Str}(h1:f.names[i]?=some n)(h2:f.names[j]?=some k)(h:i≠j):(n==k)=false:=by
 simp
 rintro rfl
 obtain⟨a1,a2⟩:=List.getElem?_eq_some_iff.mp h1
 obtain⟨b1,b2⟩:=List.getElem?_eq_some_iff.mp h2
 exact h ((List.getElem_inj g.nd).mp (a2.trans b2.symm))
theorem bf9 {f : Fm} (g : Gd f) {a b c d e w : Int} (hc : 0 ≤ c) (hd : 0 ≤ d) (he : 0 ≤ e) {i j : Nat} (hi : i < f.names.length) (hj : j < f.names.length) : ∃ s, rB [.lst false [.int a, .int b, .int c, .int d, .int e, .int w], fX false f, .int i, .int j] = .ok (hV true s) ∧ SdOk f s := by
  obtain ⟨n, hn, an⟩ := uM hi
  obtain ⟨k, hk, ak⟩ := uM hj
  unfold rB qZ
  have b0 := @jR T
  have b1 := @iJ T
  have b2 := @qI T
  have b3 := @uY T
  have b4 := @ix4 T
  have s0 := g.s0
  have s1 := g.s1
  have f0 := g.f0
  have f1 := g.f1
  have m1 : 0 < f.first + f.span - f.first + 61 := by omega
  have m2 := Int.emod_nonneg d (show f.first + f.span - f.first + 61 ≠ 0 by omega)
  have m3 := Int.emod_lt_of_pos d m1
  simp only [fX]
  by_cases q : i = j ∨ c % 2 = 0
  · have k0 : (((i : Int) == (j : Int)) || (c % 2 == 0)) = true := by
      rcases q with q | q
      · subst q; simp
      · simp [q]
    obtain ⟨x, hx⟩ := ak2 g hn (lo := f.first - 30 + d % (f.first + f.span - f.first + 61)) (hi := f.first - 30 + d % (f.first + f.span - f.first + 61) + e % 40) (by omega) (by omega) (by omega)
    refine ⟨⟨"between", "Between", [.str n, .int (f.first - 30 + d % (f.first + f.span - f.first + 61)), .int (f.first - 30 + d % (f.first + f.span - f.first + 61) + e % 40)], [i], f.first - 30 + d % (f.first + f.span - f.first + 61), some (f.first - 30 + d % (f.first + f.span - f.first + 61) + e % 40)⟩, ?_, ⟨rfl, rfl, am2, .inl rfl, lb1 hi, x, hx⟩⟩
    have ct : eE [T.str n, T.str k] none (some 1) = [T.str n] := ai1 [T.str n, T.str k] 1
    clear hx hn hk
    cases h1 : ((i : Int) == (j : Int)) with
    | true =>
      walk_at "ev"
      rfl
    | false =>
      have h2 : (c % 2 == 0) = true := by rw [h1] at k0; simpa using k0
      walk_at "ev"
      rfl
  · have h1 : ((i : Int) == (j : Int)) = false := by simp; omega
    have h2 : (c % 2 == 0) = false := by simp; omega
    have hne := cc6 g hn hk (by omega)
    obtain ⟨x, hx⟩ := bj1 g hn hk hne (lo := d % 601 - 300) (hi := if d % 601 - 300 + e % 40 < 300 then d % 601 - 300 + e % 40 else 300) (by omega) (by split <;> omega) (by split <;> omega)
    refine ⟨⟨"apart", "Apart", [.str n, .str k, .int (d % 601 - 300), .int (if d % 601 - 300 + e % 40 < 300 then d % 601 - 300 + e % 40 else 300)], [i, j], d % 601 - 300, some (if d % 601 - 300 + e % 40 < 300 then d % 601 - 300 + e % 40 else 300)⟩, ?_, ⟨rfl, rfl, bf0, .inr rfl, lb2 hi hj, x, hx⟩⟩
    clear hx hn hk
    walk_at "ev"
    rfl
theorem ao0{f:Fm}(g:Gd f){num gap:Int}(hn0:0<=num){i j:Nat}(hi:i<f.names.length)(hj:j<f.names.length)(hij:i≠j)(g0:-300<=gap)(g1:gap<=300):∃s,oI [.int num,fX false f,.tup [.int i,.int j],.int gap]=.ok (hV true s)/\SdOk f s:=by
 obtain⟨n,hn,an⟩:=uM hi
 obtain⟨k,hk,ak⟩:=uM hj
 have hne:=cc6 g hn hk hij
 unfold oI nT
 have b2:=@qI T
 obtain⟨x1,hx1⟩:=ck7 g hn hk hne
 obtain⟨x2,hx2⟩:=cb3 g hn hk hne
 simp only[fX]
 have hc:∀q1 q2 q3 q4 q5:Option T,cE (aJ 9) cM (aQ (aG aY (aG aY (aB 1) (dC (.int 2))) (aB 9))) [some (.int num),some (.tup [.int f.first,.int (f.first+f.span),.lst false (f.names.map .str),.lst false (f.inks.map (dN false)),.lst false (f.reigns.map eN)]),some (.tup [.int i,.int j]),some (.int gap),q1,q2,q3,q4,q5,none] [.int i,.int j]=.ok [.str n,.str k]:=by
  intros
  simp only[cE]
  walk_at "ev"
 have z1:=Int.emod_nonneg (num/4) (show(4:Int)≠0 by decide)
 by_cases cA:gap=0/\num%4=0
 . refine⟨⟨"same","Same",[.str n,.str k],[i,j],0,some 0⟩,?_,⟨rfl,rfl,ci8,.inr rfl,lb2 hi hj,x1,hx1⟩⟩
   have h1:(gap==0)=true:=by simp[cA.1]
   have h2:(num%4==0)=true:=by simp[cA.2]
   clear hx1 hx2 hn hk cA
   walk_at "ev"
   rfl
 by_cases cB:0<gap/\num%4<2
 . refine⟨⟨"after","After",[.str n,.str k],[i,j],1,none⟩,?_,⟨rfl,rfl,cu0,.inr rfl,lb2 hi hj,x2,hx2⟩⟩
   have h1:(gap==0)=false:=by simp;omega
   have h3:decide (0<gap)=true:=decide_eq_true cB.1
   have h4:decide (num%4<2)=true:=decide_eq_true cB.2
   clear hx1 hx2 hn hk cA cB
   walk_at "ev"
   rfl
 have tA:(gap==0)=false\/((gap==0)=true/\(num%4==0)=false):=by
  by_cases q:gap=0
  . exact .inr ⟨by simp[q],by simp;omega⟩
  . exact .inl (by simp[q])
 have tB:decide (0<gap)=false\/(decide (0<gap)=true/\decide (num%4<2)=false):=by
  by_cases q:0<gap
  . exact .inr ⟨decide_eq_true q,decide_eq_false (by omega)⟩
  . exact .inl (decide_eq_false q)
 by_cases cC:0<=gap/\num%4=2
 . obtain⟨x3,hx3⟩:=ba8 g hn hk hne (hi:=if gap+num/4%4<300 then gap+num/4%4 else 300) (by split<;>omega) (by split<;>omega)
   refine⟨⟨"within","Within",[.str n,.str k,.int (if gap+num/4%4<300 then gap+num/4%4 else 300)],[i,j],0,some (if gap+num/4%4<300 then gap+num/4%4 else 300)⟩,?_,⟨rfl,rfl,bg8,.inr rfl,lb2 hi hj,x3,hx3⟩⟩
   have h5:decide (0<=gap)=true:=decide_eq_true cC.1
   have h6:(num%4==2)=true:=by simp[cC.2]
   clear hx1 hx2 hx3 hn hk cA cB cC
   rcases tA with h1|⟨h1,h2⟩<;>rcases tB with h3|⟨h3,h4⟩<;>(walk_at "ev";rfl)
 have tC:decide (0<=gap)=false\/(decide (0<=gap)=true/\(num%4==2)=false):=by
  by_cases q:0<=gap
  . exact .inr ⟨decide_eq_true q,by simp;omega⟩
  . exact .inl (decide_eq_false q)
 obtain⟨x4,hx4⟩:=bj1 g hn hk hne (lo:=if gap-num/4%6>-300 then gap-num/4%6 else -300) (hi:=if gap+num/4/6%6<300 then gap+num/4/6%6 else 300) (by split<;>omega) (by split<;>split<;>omega) (by split<;>omega)
 refine⟨⟨"apart","Apart",[.str n,.str k,.int (if gap-num/4%6>-300 then gap-num/4%6 else -300),.int (if gap+num/4/6%6<300 then gap+num/4/6%6 else 300)],[i,j],if gap-num/4%6>-300 then gap-num/4%6 else -300,some (if gap+num/4/6%6<300 then gap+num/4/6%6 else 300)⟩,?_,⟨rfl,rfl,bf0,.inr rfl,lb2 hi hj,x4,hx4⟩⟩
 clear hx1 hx2 hx4 hn hk cA cB cC
 rcases tA with h1|⟨h1,h2⟩<;>rcases tB with h3|⟨h3,h4⟩<;>rcases tC with h5|⟨h5,h6⟩<;>(walk_at "ev";rfl)
theorem yX{a:Int}{n:Nat}(h:0<n):0<=a%(n:Int)/\a%(n:Int)<n:=⟨Int.emod_nonneg _ (by omega),Int.emod_lt_of_pos _ (by omega)⟩
theorem dk0{α:Type}{g:α->T}{l:List α}(h:0<l.length)(a:Int):∃p∈l,atI (l.map g) (a%(l.length:Int))=some (g p):=by
 obtain⟨h0,h1⟩:=yX (a:=a) h
 obtain⟨k,hk⟩:=pG h0
 rw[hk]at h1⊢
 have hk':k<l.length:=by omega
 exact⟨l[k],List.getElem_mem hk',eP (by simp[hk'])⟩
theorem bg4{xs:List Int}(h:0<xs.length){a:Int}(ha:0<=a):atI (xs.map T.int) (if(xs.length:Int)-1<a then(xs.length:Int)-1 else a)=some (.int (xs.getD (min a.toNat (xs.length-1)) 0)):=by
 have e:(if(xs.length:Int)-1<a then(xs.length:Int)-1 else a)=((min a.toNat (xs.length-1):Nat):Int):=by split<;>omega
 rw[e]
 exact sQ (by omega)
theorem cf3{xs:List Int}{d e:Int}{n j:Nat}(hj:j<n)(h:pB xs d e j=true):(j:Int)∈gE xs d e n:=by
 unfold gE
 exact List.mem_map.mpr ⟨j,List.mem_filter.mpr ⟨List.mem_range.mpr hj,h⟩,rfl⟩
theorem pK{f:Fm}(g:Gd f){num y:Int}(hn0:0<=num){i:Nat}(hi:i<f.names.length)(y0:f.first<=y)(y1:y<=f.first+f.span):∃s,nV [.int num,fX false f,.int i,.int y]=.ok (hV true s)/\SdOk f s:=by
 obtain⟨n,hn,an⟩:=uM hi
 unfold nV oF
 have b0:=@jR T
 have b1:=@iJ T
 have b2:=@qI T
 have b3:=@uY T
 have b4:=@ix4 T
 have s0:=g.s0
 have s1:=g.s1
 have f0:=g.f0
 have f1:=g.f1
 simp only[fX]
 by_cases c0:num%4=0
 . have h0:(num%4==0)=true:=by simp[c0]
   clear c0
   obtain⟨p,hp,ap⟩:=dk0 (g:=dN false) (l:=f.inks) (by have:=g.i1;omega) (num/4)
   obtain⟨t1,t60,tb,tf⟩:=(g.inn p hp).2
   have hlen:0<(f.inks.length:Int):=by have:=g.i1;omega
   obtain⟨er,her⟩:∃er,num/4/2%5=er:=⟨_,rfl⟩
   have e0:0<=er/\er<5:=by omega
   have ix:=bg4 (xs:=p.2) t1 (a:=f.first+f.span-y) (by omega)
   have m1:0<2*er+1:=by omega
   have z1:=Int.emod_nonneg (num/4/10) (show 2*er+1≠0 by omega)
   have z2:=Int.emod_lt_of_pos (num/4/10) m1
   obtain⟨D,hD⟩:∃D,p.2.getD (min (f.first+f.span-y).toNat (p.2.length-1)) 0=D:=⟨_,rfl⟩
   have dB:0<=D/\D<=408:=by
    rw[<-hD,List.getD_eq_getElem?_getD,List.getElem?_eq_getElem (show min (f.first+f.span-y).toNat (p.2.length-1)<p.2.length by omega)]
    exact tb _ (List.getElem_mem _)
   obtain⟨dk,hdk⟩:∃dk,(if D+num/4/10%(2*er+1)-er>0 then D+num/4/10%(2*er+1)-er else 0)=dk:=⟨_,rfl⟩
   have dkB:0<=dk/\dk<=412/\D-dk<=er/\dk-D<=er:=by rw[<-hdk];split<;>omega
   rw[hD]at ix
   simp only[dN]at ap
   have pin:pB p.2 dk er (f.first+f.span-y).toNat=true:=by
    unfold pB
    rw[hD]
    exact decide_eq_true (by split<;>omega)
   have hmem:=cf3 (n:=f.span.toNat+1) (by omega) pin
   obtain⟨a,r,hh⟩:∃a r,gE p.2 dk er (f.span.toNat+1)=a::r:=by
    cases q:gE p.2 dk er (f.span.toNat+1)with
    |nil=>rw[q]at hmem;cases hmem
    |cons a r=>exact⟨a,r,rfl⟩
   have hdm:dk<=1000000:=by omega
   obtain⟨x,hx⟩:=dd0 g hn hp (d:=dk) (e:=er) (by omega) hdm (by omega) (by omega) hh rfl
   refine⟨⟨"ink","Ink",[.str n,.str p.1,.int dk,.int er],[i],f.first+f.span-(a::r).getD r.length 0,some (f.first+f.span-a)⟩,?_,⟨rfl,rfl,dj2,.inl rfl,lb1 hi,x,hx⟩⟩
   have rg:-(2^62)<=f.first+f.span-f.first+1/\f.first+f.span-f.first+1<2^62:=by omega
   clear hx hn hmem pin hD tb tf
   walk_at "ev"
   generalize hL:eI _ _ _ _=o
   obtain⟨ρ',rfl,o11,rfl⟩:=jO (λj ρ=>∃(o11:Option T),ρ=[some (.int num),some (.tup [.int f.first,.int (f.first+f.span),.lst false (f.names.map .str),.lst false (f.inks.map (dN false)),.lst false (f.reigns.map eN)]),some (.int i),some (.int y),some (.str n),some (.int (num/4)),some (.str p.1),some (.lst false (p.2.map .int)),some (.int er),some (.int dk),some (.lst true ((gE p.2 dk er j).map .int)),o11,none,none,none,none,none,none]) hL ⟨_,rfl⟩ (by
    rintro j t ρ et ⟨o11,rfl⟩
    obtain⟨hj,rfl⟩:=jS et
    have ixj:=bg4 (xs:=p.2) t1 (a:=0+(j:Int)) (by omega)
    rw[show(0+(j:Int)).toNat=j by omega]at ixj
    have hl:(gE p.2 dk er j).length<=100000:=by
     unfold gE
     rw[List.length_map]
     exact Nat.le_trans (List.length_filter_le _ _) (by rw[List.length_range];omega)
    have hsucc:=nL p.2 dk er j
    clear hL et hh hdk ix
    cases hB:pB p.2 dk er j with
    |true=>
     rw[if_pos hB]at hsucc
     unfold pB at hB
     clear hsucc
     walk_at "ev"
     refine⟨some (.int (0+(j:Int))),?_⟩
     rw[nL,if_pos (show pB p.2 dk er j=true from hB),List.map_append,show(0+(j:Int))=(j:Int) by omega]
     rfl
    |false=>
     unfold pB at hB
     clear hsucc
     walk_at "ev"
     refine⟨some (.int (0+(j:Int))),?_⟩
     rw[nL,if_neg (by rw[show pB p.2 dk er j=false from hB];decide),List.append_nil])
   rw[gM,show(f.first+f.span-f.first+1).toNat=f.span.toNat+1 by omega,hh]
   clear hL hh hdk
   have ae:=cu4 (a:=a) (l:=r)
   simp only[List.map_cons]at ae⊢
   walk_at "ev"
   rfl
 . have h0:(num%4==0)=false:=by simpa using c0
   clear c0
   have hlen:0<(f.reigns.length:Int):=by have:=g.r1;omega
   obtain⟨k0,k1⟩:=yX (a:=num/4/2) (n:=f.reigns.length) (by omega)
   obtain⟨kn,hkn⟩:=pG k0
   have hk':kn<=f.reigns.length:=by omega
   have c1:eE (f.reigns.map eN) (some (num/4/2%(f.reigns.length:Int))) none=(f.reigns.drop kn).map eN:=by rw[hkn,ay9 _ _ (by simpa using hk'),List.map_drop]
   have c2:eE (f.reigns.map eN) none (some (num/4/2%(f.reigns.length:Int)))=(f.reigns.take kn).map eN:=by rw[hkn,ai1,List.map_take]
   have n1:=kA
   have z1:=pH
   have l1:(f.reigns.drop kn).length+(f.reigns.take kn).length<=100000:=by have:=g.r8;simp;omega
   have mA:=(List.map_append (f:=eN) (l₁:=f.reigns.drop kn) (l₂:=f.reigns.take kn)).symm
   clear hkn k0 k1
   have hmem:∀q∈f.reigns.drop kn++f.reigns.take kn,q∈f.reigns:=λq hq=>(List.mem_append.mp hq).elim List.mem_of_mem_drop List.mem_of_mem_take
   walk_at "ev"
   generalize hL:eI _ _ _ _=o
   have hx:=cb0 (λ_ ρ=>∃(o13 o14 o15:Option T),ρ=[some (.int num),some (.tup [.int f.first,.int (f.first+f.span),.lst false (f.names.map .str),.lst false (f.inks.map (dN false)),.lst false (f.reigns.map eN)]),some (.int i),some (.int y),some (.str n),some (.int (num/4)),none,none,none,none,none,none,some (.int (num/4/2%(f.reigns.length:Int))),o13,o14,o15,none,none]) (λ_=>False) (λt=>∃s,t=hV true s/\SdOk f s) hL ⟨_,_,_,rfl⟩ (by
    rintro j t ρ et ⟨o13,o14,o15,rfl⟩
    rw[List.getElem?_map]at et
    cases eq:(f.reigns.drop kn++f.reigns.take kn)[j]? with
    |none=>rw[eq]at et;cases et
    |some q=>
     rw[eq]at et
     have et:=(Option.some.inj et).symm
     subst et
     have hq:=hmem q (List.mem_of_getElem? eq)
     obtain⟨_,r1,r2,r3,r4⟩:=g.rn q hq
     simp only[eN]
     clear hL c1 c2 mA n1 z1 l1 hmem eq
     by_cases t1:num%4=1
     . have e1:(num%4==1)=true:=by simp[t1]
       clear t1
       by_cases t2:q.2.1<=y/\y<q.2.1+q.2.2
       . have e2:decide (q.2.1<=y)=true:=decide_eq_true t2.1
         have e3:decide (y<q.2.1+q.2.2)=true:=decide_eq_true t2.2
         cases e4:(num/4%2==0)with
         |true=>
          obtain⟨x,hx⟩:=cm2 g hn hq (k:=y-q.2.1+1) (by omega) (by omega)
          rw[show q.2.1+(y-q.2.1+1)-1=y by omega]at hx
          clear t2 hn
          walk_at "ev"
          exact⟨⟨"reign","Reign",[.str n,.str q.1,.int (y-q.2.1+1)],[i],y,some y⟩,rfl,⟨rfl,rfl,cl1,.inl rfl,lb1 hi,x,hx⟩⟩
         |false=>
          obtain⟨x,hx⟩:=cz3 g hn hq
          clear t2 hn
          walk_at "ev"
          exact⟨⟨"under","Under",[.str n,.str q.1],[i],q.2.1,some (q.2.1+q.2.2-1)⟩,rfl,⟨rfl,rfl,cj4,.inl rfl,lb1 hi,x,hx⟩⟩
       . by_cases t3:q.2.1<=y
         . have e2:decide (q.2.1<=y)=true:=decide_eq_true t3
           have e3:decide (y<q.2.1+q.2.2)=false:=decide_eq_false (by omega)
           clear t2 t3 hn
           walk_at "ev"
           exact⟨_,_,_,rfl⟩
         . have e2:decide (q.2.1<=y)=false:=decide_eq_false t3
           clear t2 t3 hn
           walk_at "ev"
           exact⟨_,_,_,rfl⟩
     . have e1:(num%4==1)=false:=by simpa using t1
       clear t1 hn
       walk_at "ev"
       exact⟨_,_,_,rfl⟩)
   rcases hx with⟨ρ',rfl,(⟨o13,o14,o15,rfl⟩|h)⟩|⟨t,rfl,s,rfl,hs⟩
   . obtain⟨x,hx⟩:=ak2 g hn (lo:=if y-num/4%9>-4000 then y-num/4%9 else -4000) (hi:=if y+num/4/9%9<4000 then y+num/4/9%9 else 4000) (by split<;>omega) (by split<;>split<;>omega) (by split<;>omega)
     refine⟨⟨"between","Between",[.str n,.int (if y-num/4%9>-4000 then y-num/4%9 else -4000),.int (if y+num/4/9%9<4000 then y+num/4/9%9 else 4000)],[i],if y-num/4%9>-4000 then y-num/4%9 else -4000,some (if y+num/4/9%9<4000 then y+num/4/9%9 else 4000)⟩,?_,⟨rfl,rfl,am2,.inl rfl,lb1 hi,x,hx⟩⟩
     clear hL c1 c2 mA n1 z1 l1 hmem hx hn
     walk_at "ev"
     rfl
   . exact h.elim
   . exact⟨s,rfl,hs⟩
theorem ix5{α:Type}(a b c d e g:α)(l:List α):atI (a::b::c::d::e::g::l) 5=some g:=eP (j:=5) rfl
theorem gX{f:Fm}{s:Sd}(h:SdOk f s):dX (hV true s)=true:=by
 have q:dL (s.ls.map λ(l:Nat)=>T.int (l:Int))=true:=kB (λ_=>rfl) _
 simp only[hV,dX,dL,h.cp,q,ak0,Bool.and_self]
theorem br9{f:Fm}(g:Gd f)(cs:List Int)(hcs:cs.length<=100)(fl:Bool)(hid:List Int)(hl:hid.length=f.names.length)(hb:∀y∈hid,f.first<=y/\y<=f.first+f.span):
 ∃ss:List Sd,mQ [.lst false (cs.map .int),fX false f,.bl fl,.lst false (hid.map .int)]=.ok (.lst true (ss.map (hV true)))/\ss.length=cs.length/\∀s∈ss,SdOk f s:=by
 unfold mQ mU
 have b0:=@jR T
 have b1:=@iJ T
 have b2:=@qI T
 have b3:=@uY T
 have b4:=@ix4 T
 have b5:=@ix5 T
 have z1:=nO false f.inks
 have z2:=pH f.reigns
 have s0:=g.s0
 have s1:=g.s1
 have n1:=g.n1
 have n8:=g.n8
 simp only[fX]
 walk_at "ev"
 generalize hL:eI _ _ _ _=o
 obtain⟨ρ',rfl,ss,o7,o8,o9,o10,o11,o12,rfl,sl,sb⟩:=jO (λj ρ=>∃(ss:List Sd)(o7 o8 o9 o10 o11 o12:Option T),ρ=[some (.lst false (cs.map .int)),some (.tup [.int f.first,.int (f.first+f.span),.lst false (f.names.map .str),.lst false (f.inks.map (dN false)),.lst false (f.reigns.map eN)]),some (.bl fl),some (.lst false (hid.map .int)),some (.int f.names.length),some (.int (f.first+f.span-f.first)),some (.lst true (ss.map (hV true))),o7,o8,o9,o10,o11,o12]/\ss.length=j/\∀s∈ss,SdOk f s) hL ⟨[],_,_,_,_,_,_,rfl,rfl,dR⟩ (by
  rintro j0 t ρ et ⟨ss,o7,o8,o9,o10,o11,o12,rfl,sl,sb⟩
  rw[List.getElem?_map]at et
  cases eq:cs[j0]? with
  |none=>rw[eq]at et;cases et
  |some cell=>
   rw[eq]at et
   have et:=(Option.some.inj et).symm
   subst et
   have hj0:j0<cs.length:=(List.getElem?_eq_some_iff.mp eq).1
   have hsl:ss.length<=100000:=by omega
   clear hL eq
   obtain⟨xs,hr,hxl,hxb⟩:=cg6 cell 6 (by decide)
   obtain⟨a,b,c,d,e,w,hx6,ha0,hb0,hc0,hd0,he0,hw0⟩:=di4 hxl hxb
   rw[hx6]at hr
   have hr:nN [.int cell,.int 6]=.ok (.lst true [.int a,.int b,.int c,.int d,.int e,.int w]):=hr
   clear hx6 hxl hxb
   obtain⟨i0,i1⟩:=yX (a:=a) (n:=f.names.length) (by omega)
   obtain⟨i,hie⟩:=pG i0
   have hi:i<f.names.length:=by omega
   have mx:0<(if(f.names.length:Int)-1>1 then(f.names.length:Int)-1 else 1):=by split<;>omega
   have mx1:=Int.emod_nonneg (b/3) (show(if(f.names.length:Int)-1>1 then(f.names.length:Int)-1 else 1)≠0 by omega)
   have mx2:=Int.emod_lt_of_pos (b/3) mx
   have mp:0<(f.names.length:Int):=by omega
   obtain⟨j1,j2⟩:=yX (a:=(i:Int)+1+b/3%(if(f.names.length:Int)-1>1 then(f.names.length:Int)-1 else 1)) (n:=f.names.length) (by omega)
   obtain⟨j,hje⟩:=pG j1
   have hj:j<f.names.length:=by omega
   have hij:¬f.names.length=1->i≠j:=by
    intro hm hq
    subst hq
    generalize b/3%(if(f.names.length:Int)-1>1 then(f.names.length:Int)-1 else 1)=v at*
    have hv:v<(f.names.length:Int)-1:=by split at mx2<;>omega
    by_cases q:(i:Int)+1+v<f.names.length
    . rw[Int.emod_eq_of_lt (by omega) q]at hje
      omega
    . rw[show(i:Int)+1+v=((i:Int)+1+v-f.names.length)+(f.names.length:Int)*1 by omega,Int.add_mul_emod_self_left,Int.emod_eq_of_lt (by omega) (by omega)]at hje
      omega
   clear i0 i1 j1 j2
   have goal:∀ys:List Int,ys.length=f.names.length->(∀y∈ys,f.first<=y/\y<=f.first+f.span)->∃yi∈ys,∃yj∈ys,atI (ys.map T.int) (i:Int)=some (.int yi)/\atI (ys.map T.int) (j:Int)=some (.int yj):=λys hy _=>by
    obtain⟨yi,h1,h2⟩:=br7 (xs:=ys) (k:=i) (by omega)
    obtain⟨yj,h3,h4⟩:=br7 (xs:=ys) (k:=j) (by omega)
    exact⟨yi,h1,yj,h3,h2,h4⟩
   cases fl with
   |false=>
    obtain⟨yi,hyi,yj,hyj,ai,aj⟩:=goal hid hl hb
    have yb:=hb
    clear goal
    by_cases hm1:f.names.length=1
    . have t1:((f.names.length:Int)==1)=true:=by simp[hm1]
      clear hm1 hij
      obtain⟨s,hF,hs⟩:=pK g hd0 hi (yb yi hyi).1 (yb yi hyi).2
      simp only[fX]at hF
      have ccs:=gX hs
      walk_at "ev"
      exact⟨ss++[s],_,_,_,_,_,_,by rw[List.map_append];rfl,by simp[sl],λq hq=>(List.mem_append.mp hq).elim (sb q) (λz=>by rw[List.mem_singleton.mp z];exact hs)⟩
    . have t1:((f.names.length:Int)==1)=false:=by simp;omega
      cases t2:decide (c%5<2)with
      |true=>
       obtain⟨s,hF,hs⟩:=pK g hd0 hi (yb yi hyi).1 (yb yi hyi).2
       simp only[fX]at hF
       have ccs:=gX hs
       walk_at "ev"
       exact⟨ss++[s],_,_,_,_,_,_,by rw[List.map_append];rfl,by simp[sl],λq hq=>(List.mem_append.mp hq).elim (sb q) (λz=>by rw[List.mem_singleton.mp z];exact hs)⟩
      |false=>
       obtain⟨s,hF,hs⟩:=ao0 g (gap:=yi-yj) hd0 hi hj (hij hm1) (by have:=yb yi hyi;have:=yb yj hyj;omega) (by have:=yb yi hyi;have:=yb yj hyj;omega)
       simp only[fX]at hF
       have ccs:=gX hs
       walk_at "ev"
       exact⟨ss++[s],_,_,_,_,_,_,by rw[List.map_append];rfl,by simp[sl],λq hq=>(List.mem_append.mp hq).elim (sb q) (λz=>by rw[List.mem_singleton.mp z];exact hs)⟩
   |true=>
    cases h3:(b%3==0)with
    |false=>
     obtain⟨yi,hyi,yj,hyj,ai,aj⟩:=goal hid hl hb
     have yb:=hb
     clear goal
     cases h8:(w%8==5)with
     |true=>
      obtain⟨s,hF,hs⟩:=bf9 g (a:=a) (b:=b) (w:=w) hc0 hd0 he0 hi hj
      simp only[fX]at hF
      have ccs:=gX hs
      walk_at "ev"
      exact⟨ss++[s],_,_,_,_,_,_,by rw[List.map_append];rfl,by simp[sl],λq hq=>(List.mem_append.mp hq).elim (sb q) (λz=>by rw[List.mem_singleton.mp z];exact hs)⟩
     |false=>
      by_cases hm1:f.names.length=1
      . have t1:((f.names.length:Int)==1)=true:=by simp[hm1]
        clear hm1 hij
        obtain⟨s,hF,hs⟩:=pK g hd0 hi (yb yi hyi).1 (yb yi hyi).2
        simp only[fX]at hF
        have ccs:=gX hs
        walk_at "ev"
        exact⟨ss++[s],_,_,_,_,_,_,by rw[List.map_append];rfl,by simp[sl],λq hq=>(List.mem_append.mp hq).elim (sb q) (λz=>by rw[List.mem_singleton.mp z];exact hs)⟩
      . have t1:((f.names.length:Int)==1)=false:=by simp;omega
        cases t2:decide (c%5<2)with
        |true=>
         obtain⟨s,hF,hs⟩:=pK g hd0 hi (yb yi hyi).1 (yb yi hyi).2
         simp only[fX]at hF
         have ccs:=gX hs
         walk_at "ev"
         exact⟨ss++[s],_,_,_,_,_,_,by rw[List.map_append];rfl,by simp[sl],λq hq=>(List.mem_append.mp hq).elim (sb q) (λz=>by rw[List.mem_singleton.mp z];exact hs)⟩
        |false=>
         obtain⟨s,hF,hs⟩:=ao0 g (gap:=yi-yj) hd0 hi hj (hij hm1) (by have:=yb yi hyi;have:=yb yj hyj;omega) (by have:=yb yi hyi;have:=yb yj hyj;omega)
         simp only[fX]at hF
         have ccs:=gX hs
         walk_at "ev"
         exact⟨ss++[s],_,_,_,_,_,_,by rw[List.map_append];rfl,by simp[sl],λq hq=>(List.mem_append.mp hq).elim (sb q) (λz=>by rw[List.mem_singleton.mp z];exact hs)⟩
    |true=>
     have rg:-(2^62)<=(f.names.length:Int)/\(f.names.length:Int)<2^62:=by omega
     have mspan:0<f.first+f.span-f.first+1:=by omega
     obtain⟨ys,hys,hyl,yb⟩:∃ys:List Int,(∀q:Option T,cE (aJ 12) cM (aG bO (aG aY (aB 1) (dC (.int 0))) (aG bV (aG bO (aG aY (aB 8) (dC (.int 4))) (aG mI (aG mI (dC (.int 7)) (aG aY (aB 8) (dC (.int 5)))) (aB 12))) (aG bO (aB 5) (dC (.int 1))))) [some (.lst false (cs.map .int)),some (.tup [.int f.first,.int (f.first+f.span),.lst false (f.names.map .str),.lst false (f.inks.map (dN false)),.lst false (f.reigns.map eN)]),some (.bl true),some (.lst false (hid.map .int)),some (.int f.names.length),some (.int (f.first+f.span-f.first)),some (.lst true (ss.map (hV true))),some (.int cell),some (.lst true [.int a,.int b,.int c,.int d,.int e,.int w]),some (.int i),some (.lst true (hid.map .int)),q,none] (iX 0 (f.names.length:Int).toNat)=.ok (ys.map .int))/\ys.length=f.names.length/\∀y∈ys,f.first<=y/\y<=f.first+f.span:=by
      refine⟨(List.range f.names.length).map λ(k:Nat)=>f.first+(e+7*w*(0+(k:Int)))%(f.first+f.span-f.first+1),λq=>?_,by simp,λy hy=>?_⟩
      . unfold iX
        rw[List.map_map,Int.toNat_natCast]
        refine eQ λk hk=>?_
        have hk:=List.mem_range.mp hk
        have mk:mulOk (7*w) (0+(k:Int)):=bj5 (by omega) (by omega)
        clear hr hie hje
        walk_at "ev"
        rfl
      . obtain⟨k,_,rfl⟩:=List.mem_map.mp hy
        have:=Int.emod_nonneg (e+7*w*(0+(k:Int))) (show f.first+f.span-f.first+1≠0 by omega)
        have:=Int.emod_lt_of_pos (e+7*w*(0+(k:Int))) mspan
        omega
     have ity:(iX 0 (f.names.length:Int).toNat).length<=sizeLine:=by rw[gM];exact pE (by omega)
     obtain⟨yi,hyi,yj,hyj,ai,aj⟩:=goal ys hyl yb
     clear goal
     cases h8:(w%8==5)with
     |true=>
      obtain⟨s,hF,hs⟩:=bf9 g (a:=a) (b:=b) (w:=w) hc0 hd0 he0 hi hj
      simp only[fX]at hF
      have ccs:=gX hs
      walk_at "ev"
      exact⟨ss++[s],_,_,_,_,_,_,by rw[List.map_append];rfl,by simp[sl],λq hq=>(List.mem_append.mp hq).elim (sb q) (λz=>by rw[List.mem_singleton.mp z];exact hs)⟩
     |false=>
      by_cases hm1:f.names.length=1
      . have t1:((f.names.length:Int)==1)=true:=by simp[hm1]
        clear hm1 hij
        obtain⟨s,hF,hs⟩:=pK g hd0 hi (yb yi hyi).1 (yb yi hyi).2
        simp only[fX]at hF
        have ccs:=gX hs
        walk_at "ev"
        exact⟨ss++[s],_,_,_,_,_,_,by rw[List.map_append];rfl,by simp[sl],λq hq=>(List.mem_append.mp hq).elim (sb q) (λz=>by rw[List.mem_singleton.mp z];exact hs)⟩
      . have t1:((f.names.length:Int)==1)=false:=by simp;omega
        cases t2:decide (c%5<2)with
        |true=>
         obtain⟨s,hF,hs⟩:=pK g hd0 hi (yb yi hyi).1 (yb yi hyi).2
         simp only[fX]at hF
         have ccs:=gX hs
         walk_at "ev"
         exact⟨ss++[s],_,_,_,_,_,_,by rw[List.map_append];rfl,by simp[sl],λq hq=>(List.mem_append.mp hq).elim (sb q) (λz=>by rw[List.mem_singleton.mp z];exact hs)⟩
        |false=>
         obtain⟨s,hF,hs⟩:=ao0 g (gap:=yi-yj) hd0 hi hj (hij hm1) (by have:=yb yi hyi;have:=yb yj hyj;omega) (by have:=yb yi hyi;have:=yb yj hyj;omega)
         simp only[fX]at hF
         have ccs:=gX hs
         walk_at "ev"
         exact⟨ss++[s],_,_,_,_,_,_,by rw[List.map_append];rfl,by simp[sl],λq hq=>(List.mem_append.mp hq).elim (sb q) (λz=>by rw[List.mem_singleton.mp z];exact hs)⟩)
 clear hL
 rw[List.length_map]at sl
 refine⟨ss,?_,sl,sb⟩
 walk_at "ev"
open Classical in
noncomputable def wT(f:Fm)(s:Sd):Str:=if h:∃x,cP [cF false f,.str s.word,.lst false s.parts]=.ok (fI true s.cls (s.ls.map λ(l:Nat)=>(l:Int)) s.lo s.hi x)then Classical.choose h else ""
noncomputable def eT(o:Bool)(f:Fm)(s:Sd):T:=fI o s.cls (s.ls.map λ(l:Nat)=>(l:Int)) s.lo s.hi (wT f s)
theorem cp6{f:Fm}{s:Sd}(h:SdOk f s):cP [cF false f,.str s.word,.lst false s.parts]=.ok (eT true f s):=by
 unfold eT wT
 rw[dif_pos h.made]
 exact Classical.choose_spec h.made
theorem xI(o:Bool)(f:Fm)(s:Sd):frz (eT o f s)=eT false f s:=dh1 _ _ _ _ _ _
theorem bb0(f:Fm)(s:Sd):dX (eT true f s)=true:=ax9 _ _ _ _ _
theorem cd3(f:Fm)(s:Sd):dS (eT false f s)=true:=cc2 _ _ _ _ _
theorem sC(o:Bool)(f:Fm):∀ss:List Sd,frzs (ss.map (eT o f))=ss.map (eT false f)
 |[]=>rfl
 |s::ss=>by simp only[List.map_cons,frzs,xI,sC o f ss]
theorem br6(f:Fm)(ss:List Sd):dL (ss.map (eT true f))=true:=kB (bb0 f) ss
theorem rF(f:Fm)(ss:List Sd):bA (ss.map (eT false f))=true:=jV (cd3 f) ss
theorem dt0{f:Fm}{s:Sd}(h:SdOk f s)(o:Bool):frz (hV o s)=hV false s:=by
 have q:frzs (s.ls.map λ(l:Nat)=>T.int (l:Int))=s.ls.map λ(l:Nat)=>T.int (l:Int):=sP (λ_=>rfl) _
 simp only[hV,frz,frzs,fJ _ h.np,q,bw8]
theorem cn2{f:Fm}{s:Sd}(h:SdOk f s):dS (hV false s)=true:=by
 have q:bA (s.ls.map λ(l:Nat)=>T.int (l:Int))=true:=jV (λ_=>rfl) _
 simp only[hV,dS,bA,h.np,q,vL,Bool.not_false,Bool.and_self]
theorem vJ{f:Fm}(o:Bool):∀{ss:List Sd},(∀s∈ss,SdOk f s)->frzs (ss.map (hV o))=ss.map (hV false)
 |[],_=>rfl
 |s::ss,h=>by simp only[List.map_cons,frzs,dt0 (h s List.mem_cons_self),vJ o λt ht=>h t (List.mem_cons_of_mem _ ht)]
theorem nU{f:Fm}:∀{ss:List Sd},(∀s∈ss,SdOk f s)->bA (ss.map (hV false))=true
 |[],_=>rfl
 |s::ss,h=>by simp only[List.map_cons,bA,cn2 (h s List.mem_cons_self),nU λt ht=>h t (List.mem_cons_of_mem _ ht),Bool.and_self]
theorem aj2{f:Fm}:∀{ss:List Sd},(∀s∈ss,SdOk f s)->dL (ss.map (hV true))=true
 |[],_=>rfl
 |s::ss,h=>by simp only[List.map_cons,dL,gX (h s List.mem_cons_self),aj2 λt ht=>h t (List.mem_cons_of_mem _ ht),Bool.and_self]
theorem dz4{f:Fm}{ss:List Sd}(h:∀s∈ss,SdOk f s)(hl:ss.length<=1000):rM [cF false f,.lst false (ss.map (hV false))]=.ok (.lst true (ss.map (eT true f))):=by
 unfold rM rP
 have hc:cE (eR (bE (aJ 2) (bE (aJ 3) (bE (aJ 4) (bE (aJ 5) eU))))) cM (bJ 3 cP (aD (aB 0) (aD (aB 2) (aD (bZ gS (aD (aB 3) aI)) aI)))) [some (cF false f),some (.lst false (ss.map (hV false))),none,none,none,none] (ss.map (hV false))=.ok (ss.map (eT true f)):=by
  refine kO λs hs=>?_
  have k:=cp6 (h s hs)
  have np:=(h s hs).np
  have zp:=fJ _ np
  have za:=jB false f
  have co:=bb0 f s
  simp only[hV]
  clear h
  walk_at "ev"
 have nn:=nU h
 have l1:ss.length<=100000:=by omega
 clear h
 walk_at "ev"
def zQ(s:Sd):T:=match s.ls with
 |[_,b]=>.int b
 |_=>.non
def fst(s:Sd):Int:=match s.ls with
 |a::_=>a
 |_=>0
def st(s:Sd)(k:Int):List T:=(match s.hi with
 |some h=>[.tup [zQ s,.int (fst s),.int h,.int k]]
 |none=>[])++[.tup [.int (fst s),zQ s,.int (0-s.lo),.int k]]
def sp(f:Fm)(l:Int):List T:=[.tup [.non,.int l,.int (f.first+f.span),.non],.tup [.int l,.non,.int (0-f.first),.non]]
theorem bq7(c:Str)(hc:c∈gW)(o:Bool)(ls:List Int)(lo:Int)(hi:Option Int)(x:Str):eS ["Ink","Reign","Under","Between","After","Same","Within","Apart"] "spoken" (fI o c ls lo hi x)=.ok (.lst o (ls.map .int)):=by
 have:=ct8 c hc
 simp only[eS,fI,this,if_true]
 with_unfolding_all rfl
theorem dq0(c:Str)(hc:c∈gW)(o:Bool)(ls:List Int)(lo:Int)(hi:Option Int)(x:Str):eS ["Ink","Reign","Under","Between","After","Same","Within","Apart"] "low" (fI o c ls lo hi x)=.ok (.int lo):=by
 have:=ct8 c hc
 simp only[eS,fI,this,if_true]
 with_unfolding_all rfl
theorem cc9(c:Str)(hc:c∈gW)(o:Bool)(ls:List Int)(lo:Int)(hi:Option Int)(x:Str):eS ["Ink","Reign","Under","Between","After","Same","Within","Apart"] "high" (fI o c ls lo hi x)=.ok (kW hi):=by
 have:=ct8 c hc
 simp only[eS,fI,this,if_true]
 with_unfolding_all rfl
theorem ct4:fK "about" ["spoken","low","high","text"]=none:=by decide+kernel
theorem bo8:fK "bounds" ["spoken","low","high","text"]=none:=by decide+kernel
theorem cb8{c:Str}(h:c∈gW):tm_about.lookup c=some aU:=by
 simp only[gW,List.mem_cons,List.not_mem_nil,or_false]at h
 rcases h with rfl|rfl|rfl|rfl|rfl|rfl|rfl|rfl<;>with_unfolding_all rfl
theorem ct9{c:Str}(h:c∈gW):tm_bounds.lookup c=some aP:=by
 simp only[gW,List.mem_cons,List.not_mem_nil,or_false]at h
 rcases h with rfl|rfl|rfl|rfl|rfl|rfl|rfl|rfl<;>with_unfolding_all rfl
theorem cb7{s:Sd}(c8:s.cls∈gW)(f:Fm){ρ:Fr}(h:aB 0 ρ=.ok (eT false f s)):gU 1 "about" tm_about (aB 0) aI ρ=.ok (.lst true ((s.ls.map λ(l:Nat)=>(l:Int)).map .int)):=by
 have k:aU [eT false f s]=.ok (.lst true ((s.ls.map λ(l:Nat)=>(l:Int)).map .int)):=by
  unfold aU dA eT
  have:=bq7 s.cls c8 false (s.ls.map λ(l:Nat)=>(l:Int)) s.lo s.hi (wT f s)
  walk_at "ev"
 have zo:=xI false f s
 have e:gU 1 "about" tm_about (aB 0) aI ρ=rE 1 aU [eT false f s]:=by
  simp only[gU,h,mD,aI,eT,fI,ct4,cb8 c8]
 rw[e]
 clear h
 walk_at "ev"
theorem co4{s:Sd}(c8:s.cls∈gW)(f:Fm){ρ:Fr}(h:aB 0 ρ=.ok (eT false f s)):gU 1 "bounds" tm_bounds (aB 0) aI ρ=.ok (.tup [.int s.lo,kW s.hi]):=by
 have ch:=ak0 s.hi
 have nh:=vL s.hi
 have k:aP [eT false f s]=.ok (.tup [.int s.lo,kW s.hi]):=by
  unfold aP cT eT
  have:=dq0 s.cls c8 false (s.ls.map λ(l:Nat)=>(l:Int)) s.lo s.hi (wT f s)
  have:=cc9 s.cls c8 false (s.ls.map λ(l:Nat)=>(l:Int)) s.lo s.hi (wT f s)
  walk_at "ev"
 have zo:=xI false f s
 have e:gU 1 "bounds" tm_bounds (aB 0) aI ρ=rE 1 aP [eT false f s]:=by
  simp only[gU,h,mD,aI,eT,fI,bo8,ct9 c8]
 rw[e]
 clear h
 walk_at "ev"
theorem ak4{f:Fm}{s:Sd}(ok:SdOk f s)(k:Int):lR [eT false f s,.int k]=.ok (.lst true (st s k)):=by
 unfold lR lW
 have ha:=cb7 ok.c8 f (ρ:=[some (eT false f s),some (.int k),none,none,none,none]) rfl
 have hb:=λq=>co4 ok.c8 f (ρ:=[some (eT false f s),some (.int k),some q,none,none,none]) rfl
 have b0:=@jR T
 have b1:=@iJ T
 obtain⟨word,cls,parts,ls,lo,hi⟩:=s
 have l12:=ok.l12
 simp only at l12 ha hb
 clear ok
 have t2:((2:Nat):Int)=2:=rfl
 have q3:((2:Int)==2)=true:=rfl
 have q1:(((0+1:Nat):Int)==2)=false:=rfl
 have q2:(((0+1+1:Nat):Int)==2)=true:=rfl
 rcases ls with _|⟨a,_|⟨b,_|⟨c,r⟩⟩⟩
 . simp at l12
 . simp only[List.map_cons,List.map_nil]at ha
   cases hi with
   |none=>simp only[kW]at hb;walk_at "ev";rfl
   |some h=>simp only[kW]at hb;walk_at "ev";rfl
 . simp only[List.map_cons,List.map_nil]at ha
   cases hi with
   |none=>simp only[kW]at hb;walk_at "ev";rfl
   |some h=>simp only[kW]at hb;walk_at "ev";rfl
 . simp at l12
theorem bl0(f:Fm)(l:Int):oB [cF false f,.int l]=.ok (.lst true (sp f l)):=by
 unfold oB oX sp
 have f1:=ae9 false f
 have f2:=ad2 false f
 walk_at "ev"
def ai4(ss:List Sd)(k:Nat):List T:=match ss[k]? with
 |some s=>st s k
 |none=>[]
def nJ(ss:List Sd)(n:Nat):List T:=(List.range n).flatMap (ai4 ss)
def sF(f:Fm)(n:Nat):List T:=(List.range n).flatMap λ(l:Nat)=>sp f (l:Int)
def kS(f:Fm)(ss:List Sd):List T:=nJ ss ss.length++sF f f.names.length
theorem bu0{ss:List Sd}{n:Nat}{s:Sd}(h:ss[n]?=some s):nJ ss (n+1)=nJ ss n++st s n:=by
 unfold nJ
 rw[List.range_succ,List.flatMap_append]
 simp[ai4,h]
theorem am0(f:Fm)(n:Nat):sF f (n+1)=sF f n++sp f n:=by
 unfold sF
 rw[List.range_succ,List.flatMap_append]
 simp
def rK(t:T):Prop:=∃a b c d,t=.tup [a,b,.int c,d]/\(a=.non\/∃i,a=.int i)/\(b=.non\/∃i,b=.int i)/\(d=.non\/∃i,d=.int i)
theorem bl7(s:Sd):zQ s=.non\/∃i,zQ s=.int i:=by
 unfold zQ
 split
 . exact .inr ⟨_,rfl⟩
 . exact .inl rfl
theorem am4(s:Sd)(k:Int):∀t∈st s k,rK t:=by
 intro t ht
 unfold st at ht
 rcases List.mem_append.mp ht with ht|ht
 . split at ht
   . rw[List.mem_singleton.mp ht]
     exact⟨_,_,_,_,rfl,bl7 s,.inr ⟨_,rfl⟩,.inr ⟨_,rfl⟩⟩
   . cases ht
 . rw[List.mem_singleton.mp ht]
   exact⟨_,_,_,_,rfl,.inr ⟨_,rfl⟩,bl7 s,.inr ⟨_,rfl⟩⟩
theorem cb4(ss:List Sd)(n:Nat):∀t∈nJ ss n,rK t:=by
 intro t ht
 obtain⟨k,_,h⟩:=List.mem_flatMap.mp ht
 unfold ai4 at h
 split at h
 . exact am4 _ _ t h
 . cases h
theorem ch1(f:Fm)(n:Nat):∀t∈sF f n,rK t:=by
 intro t ht
 obtain⟨k,_,h⟩:=List.mem_flatMap.mp ht
 simp only[sp,List.mem_cons,List.not_mem_nil,or_false]at h
 rcases h with rfl|rfl
 . exact⟨_,_,_,_,rfl,.inl rfl,.inr ⟨_,rfl⟩,.inl rfl⟩
 . exact⟨_,_,_,_,rfl,.inr ⟨_,rfl⟩,.inl rfl,.inl rfl⟩
theorem qL(f:Fm)(ss:List Sd):∀t∈kS f ss,rK t:=λt ht=>(List.mem_append.mp ht).elim (cb4 _ _ t) (ch1 _ _ t)
theorem xT{t:T}(h:rK t):dS t=true/\dX t=true/\frz t=t:=by
 obtain⟨a,b,c,d,rfl,ha,hb,hd⟩:=h
 rcases ha with rfl|⟨i,rfl⟩<;>rcases hb with rfl|⟨j,rfl⟩<;>rcases hd with rfl|⟨k,rfl⟩<;>exact⟨rfl,rfl,rfl⟩
theorem wX{ts:List T}(h:∀t∈ts,rK t):bA ts=true:=by
 rw[nM,List.all_eq_true]
 exact λt ht=>(xT (h t ht)).1
theorem tQ{ts:List T}(h:∀t∈ts,rK t):dL ts=true:=by
 rw[ai7,List.all_eq_true]
 exact λt ht=>(xT (h t ht)).2.1
theorem yO{ts:List T}(h:∀t∈ts,rK t):frzs ts=ts:=fJ ts (wX h)
theorem bt8(s:Sd)(k:Int):(st s k).length<=2:=by
 unfold st
 split<;>simp
theorem rX(ss:List Sd):∀n,(nJ ss n).length<=2*n
 |0=>by simp[nJ]
 |n+1=>by
  have ih:=rX ss n
  unfold nJ at ih⊢
  rw[List.range_succ,List.flatMap_append,List.length_append]
  have:(([n]:List Nat).flatMap (ai4 ss)).length<=2:=by
   simp only[List.flatMap_cons,List.flatMap_nil,List.append_nil,ai4]
   split
   . exact bt8 _ _
   . simp
  omega
theorem yR(f:Fm):∀n,(sF f n).length=2*n
 |0=>by simp[sF]
 |n+1=>by rw[am0,List.length_append,yR f n];simp[sp];omega
theorem an1{f:Fm}(g:Gd f){ss:List Sd}(h:∀s∈ss,SdOk f s)(hl:ss.length<=1000):qX [cF false f,.lst false (ss.map (eT false f))]=.ok (.lst true (kS f ss)):=by
 unfold qX rG
 have fl:=rH false f
 have no:=rF f ss
 have n8:=g.n8
 walk_at "ev"
 generalize hL:eI _ _ _ _=o
 obtain⟨ρ',rfl,o3,o4,rfl⟩:=jO (λj ρ=>∃(o3 o4:Option T),ρ=[some (cF false f),some (.lst false (ss.map (eT false f))),some (.lst true (nJ ss j)),o3,o4,none]) hL ⟨_,_,rfl⟩ (by
  rintro j t ρ et ⟨o3,o4,rfl⟩
  obtain⟨t2,e2,rfl⟩:=aa7 et
  rw[List.getElem?_map]at e2
  cases eq:ss[j]? with
  |none=>rw[eq]at e2;cases e2
  |some s=>
   rw[eq]at e2
   have e2:=(Option.some.inj e2).symm
   subst e2
   have hs:=h s (List.mem_of_getElem? eq)
   have k:=ak4 hs (j:Int)
   have zo:=xI false f s
   have cs:=tQ (am4 s j)
   have zs:=yO (am4 s j)
   have hj:j<ss.length:=(List.getElem?_eq_some_iff.mp eq).1
   have l1:=rX ss j
   have l2:=bt8 s j
   have l3:(nJ ss j).length+(st s j).length<=100000:=by omega
   have sc:=bu0 eq
   clear hL et eq h
   walk_at "ev"
   exact⟨_,_,rfl⟩)
 rw[af6,List.length_map]
 clear hL
 walk_at "ev"
 generalize hL:eI _ _ _ _=o
 obtain⟨ρ',rfl,o5,rfl⟩:=jO (λj ρ=>∃(o5:Option T),ρ=[some (cF false f),some (.lst false (ss.map (eT false f))),some (.lst true (nJ ss ss.length++sF f j)),o3,o4,o5]) hL ⟨none,by simp[sF]⟩ (by
  rintro j t ρ et ⟨o5,rfl⟩
  obtain⟨hj,rfl⟩:=jS et
  have k:=bl0 f (0+(j:Int))
  have za:=jB false f
  have l1:=rX ss ss.length
  have l2:=yR f j
  have l3:(nJ ss ss.length++sF f j).length+(sp f (0+(j:Int))).length<=100000:=by rw[List.length_append];simp[sp];omega
  have cs:dL (sp f (0+(j:Int)))=true:=rfl
  clear hL et h l1 l2
  walk_at "ev"
  refine⟨some (.int (0+(j:Int))),?_⟩
  rw[am0,List.append_assoc,show(0+(j:Int))=(j:Int) by omega])
 rw[gM]
 clear hL
 simp only[Int.toNat_natCast]
 walk_at "ev"
 rfl
theorem zO{f:Fm}(g:Gd f){ss:List Sd}(h:∀s∈ss,SdOk f s)(hl:ss.length<=1000):mL [fX false f,.lst false (ss.map (hV false))]=.ok (.lst true (kS f ss)):=by
 unfold mL qB
 have b0:=@jR T
 have b1:=@iJ T
 have b2:=@qI T
 have b3:=@uY T
 have n8:=g.n8
 simp only[fX]
 have rg:-(2^62)<=(ss.length:Int)/\(ss.length:Int)<2^62:=by omega
 walk_at "ev"
 generalize hL:eI _ _ _ _=o
 obtain⟨ρ',rfl,o3,o4,o5,o6,o7,rfl⟩:=jO (λj ρ=>∃(o3 o4 o5 o6 o7:Option T),ρ=[some (.tup [.int f.first,.int (f.first+f.span),.lst false (f.names.map .str),.lst false (f.inks.map (dN false)),.lst false (f.reigns.map eN)]),some (.lst false (ss.map (hV false))),some (.lst true (nJ ss j)),o3,o4,o5,o6,o7,none]) hL ⟨_,_,_,_,_,rfl⟩ (by
  rintro j t ρ et ⟨o3,o4,o5,o6,o7,rfl⟩
  obtain⟨hj,rfl⟩:=jS et
  have hj:j<ss.length:=by simpa using hj
  obtain⟨s,eq⟩:∃s,ss[j]?=some s:=⟨ss[j],List.getElem?_eq_getElem hj⟩
  have hs:=h s (List.mem_of_getElem? eq)
  have at1:atI (ss.map (hV false)) (j:Int)=some (hV false s):=by
   exact eP (by rw[List.getElem?_map,eq];rfl)
  have l1:=rX ss j
  have l3:(nJ ss j).length<=100000:=by omega
  have l4:∀x:T,(nJ ss j++[x]).length<sizeLine:=λx=>Nat.lt_of_le_of_lt (show(nJ ss j++[x]).length<=100000 by rw[List.length_append];simp;omega) (by decide)
  have sc:=bu0 eq
  obtain⟨word,cls,parts,ls,lo,hi⟩:=s
  have l12:=hs.l12
  simp only[hV]at at1 l12
  clear hL et eq h hs l1
  have zz:(0+(j:Int))=(j:Int):=Int.zero_add _
  rcases ls with _|⟨a,_|⟨b,_|⟨c,r⟩⟩⟩
  . simp at l12
  . simp only[List.map_cons,List.map_nil]at at1
    cases hi with
    |none=>
     simp only[kW]at at1
     clear l12
     walk_at "ev"
     exact⟨_,_,_,_,_,by simp only[st,zQ,fst,List.nil_append];rfl⟩
    |some hh=>
     simp only[kW]at at1
     clear l12
     walk_at "ev"
     exact⟨_,_,_,_,_,by simp only[st,zQ,fst,List.append_assoc,List.cons_append,List.nil_append];rfl⟩
  . simp only[List.map_cons,List.map_nil]at at1
    cases hi with
    |none=>
     simp only[kW]at at1
     clear l12
     walk_at "ev"
     exact⟨_,_,_,_,_,by simp only[st,zQ,fst,List.nil_append];rfl⟩
    |some hh=>
     simp only[kW]at at1
     clear l12
     walk_at "ev"
     exact⟨_,_,_,_,_,by simp only[st,zQ,fst,List.append_assoc,List.cons_append,List.nil_append];rfl⟩
  . simp at l12)
 rw[gM]
 clear hL
 simp only[Int.toNat_natCast]
 walk_at "ev"
 generalize hL:eI _ _ _ _=o
 obtain⟨ρ',rfl,o8,rfl⟩:=jO (λj ρ=>∃(o8:Option T),ρ=[some (.tup [.int f.first,.int (f.first+f.span),.lst false (f.names.map .str),.lst false (f.inks.map (dN false)),.lst false (f.reigns.map eN)]),some (.lst false (ss.map (hV false))),some (.lst true (nJ ss ss.length++sF f j)),o3,o4,o5,o6,o7,o8]) hL ⟨none,by simp[sF]⟩ (by
  rintro j t ρ et ⟨o8,rfl⟩
  obtain⟨hj,rfl⟩:=jS et
  have l1:=rX ss ss.length
  have l2:=yR f j
  have l3:(nJ ss ss.length++sF f j).length<=100000:=by rw[List.length_append];omega
  have l4:∀x:T,(nJ ss ss.length++sF f j++[x]).length<sizeLine:=λx=>Nat.lt_of_le_of_lt (show(nJ ss ss.length++sF f j++[x]).length<=100000 by rw[List.length_append,List.length_append];simp;omega) (by decide)
  clear hL et h l1 l2
  walk_at "ev"
  refine⟨some (.int (0+(j:Int))),?_⟩
  rw[am0,show(0+(j:Int))=(j:Int) by omega]
  simp[sp])
 rw[gM]
 clear hL
 simp only[Int.toNat_natCast]
 walk_at "ev"
 rfl
def oW(ys:List Int):T->Int
 |.int i=>ys.getD i.toNat 0
 |_=>0
def kept(ys:List Int):T->Bool
 |.tup [a,b,.int c,_]=>decide (oW ys b<=oW ys a+c)
 |_=>true
def Pl(n:Nat)(a:T):Prop:=a=.non\/∃i:Nat,i<n/\a=.int i
def StepN(n:Nat)(t:T):Prop:=∃a b c d,t=.tup [a,b,.int c,d]/\Pl n a/\Pl n b/\(d=.non\/∃i,d=.int i)
theorem StepN.st{n:Nat}{t:T}(h:StepN n t):rK t:=by
 obtain⟨a,b,c,d,rfl,ha,hb,hd⟩:=h
 exact⟨a,b,c,d,rfl,ha.imp_right λ⟨i,_,e⟩=>⟨_,e⟩,hb.imp_right λ⟨i,_,e⟩=>⟨_,e⟩,hd⟩
theorem bc8(g:Int):iZ [.non,.int g]=.ok (.int g):=by
 unfold iZ oR
 walk_at "ev"
theorem ci0(i g:Int):iZ [.int i,.int g]=.ok (.int i):=by
 unfold iZ oR
 walk_at "ev"
theorem bo1{ys:List Int}{a:T}(h:Pl ys.length a):∃i:Int,iZ [a,.int (ys.length:Int)]=.ok (.int i)/\atI (ys.map T.int++[.int 0]) i=some (.int (oW ys a))/\dS a=true/\frz a=a:=by
 rcases h with rfl|⟨i,hi,rfl⟩
 . refine⟨_,bc8 _,?_,rfl,rfl⟩
   exact eP (by simp[oW])
 . refine⟨_,ci0 _ _,?_,rfl,rfl⟩
   refine eP ?_
   rw[List.getElem?_append_left (by simpa using hi),List.getElem?_map,List.getElem?_eq_getElem hi]
   simp[oW,List.getD_eq_getElem?_getD,List.getElem?_eq_getElem hi]
theorem by9{ys:List Int}{t:T}(h:StepN ys.length t):nK [t,.lst false (ys.map T.int++[.int 0])]=.ok (.bl (kept ys t)):=by
 obtain⟨a,b,c,d,rfl,ha,hb,hd⟩:=h
 obtain⟨i,pa,qa,na,za⟩:=bo1 ha
 obtain⟨j,pb,qb,nb,zb⟩:=bo1 hb
 unfold nK tH
 have el:(((ys.map T.int++[T.int 0]).length:Nat):Int)-1=(ys.length:Int):=by simp
 have b0:=@jR T
 have b1:=@iJ T
 have b2:=@qI T
 clear ha hb hd
 simp only[kept]
 generalize oW ys a=A at*
 generalize oW ys b=B at*
 generalize ys.map T.int++[.int 0]=L at*
 walk_at "ev"
theorem by4(x:Int):jC [.int x]=.ok (.bl true):=by
 unfold jC oY
 walk_at "ev"
theorem dk2{f:Fm}{s:Sd}(h:SdOk f s):Pl f.names.length (.int (fst s))/\Pl f.names.length (zQ s):=by
 have l12:=h.l12
 have lb:=h.lb
 obtain⟨w,c,p,ls,lo,hi⟩:=s
 simp only at l12 lb
 rcases ls with _|⟨a,_|⟨b,_|⟨c',r⟩⟩⟩
 . simp at l12
 . exact⟨.inr ⟨a,lb a (by simp),rfl⟩,.inl rfl⟩
 . exact⟨.inr ⟨a,lb a (by simp),rfl⟩,.inr ⟨b,lb b (by simp),rfl⟩⟩
 . simp at l12
theorem cu2{f:Fm}{s:Sd}(h:SdOk f s)(k:Int):∀t∈st s k,StepN f.names.length t:=by
 intro t ht
 obtain⟨h1,h2⟩:=dk2 h
 unfold st at ht
 rcases List.mem_append.mp ht with ht|ht
 . split at ht
   . rw[List.mem_singleton.mp ht]
     exact⟨_,_,_,_,rfl,h2,h1,.inr ⟨_,rfl⟩⟩
   . cases ht
 . rw[List.mem_singleton.mp ht]
   exact⟨_,_,_,_,rfl,h1,h2,.inr ⟨_,rfl⟩⟩
theorem vM{f:Fm}{ss:List Sd}(h:∀s∈ss,SdOk f s):∀t∈kS f ss,StepN f.names.length t:=by
 intro t ht
 rcases List.mem_append.mp ht with ht|ht
 . obtain⟨k,_,q⟩:=List.mem_flatMap.mp ht
   unfold ai4 at q
   split at q
   . next s es=>exact cu2 (h s (List.mem_of_getElem? es)) _ t q
   . cases q
 . obtain⟨k,hk,q⟩:=List.mem_flatMap.mp ht
   have hk:=List.mem_range.mp hk
   simp only[sp,List.mem_cons,List.not_mem_nil,or_false]at q
   rcases q with rfl|rfl
   . exact⟨_,_,_,_,rfl,.inl rfl,.inr ⟨k,hk,rfl⟩,.inl rfl⟩
   . exact⟨_,_,_,_,rfl,.inr ⟨k,hk,rfl⟩,.inl rfl,.inl rfl⟩
theorem ci7{f:Fm}(g:Gd f){ss:List Sd}(h:ss.length<=1000):(kS f ss).length<=10000:=by
 unfold kS
 have:=rX ss ss.length
 have:=yR f f.names.length
 have:=g.n8
 rw[List.length_append]
 omega
theorem cr2(ys:List Int)(ts:List T):mX false [.lst true (ts.map λt=>T.bl (kept ys t))]=.ok (.bl (ts.all (kept ys))):=by
 have e:(ts.map λt=>T.bl (kept ys t))=(ts.map (kept ys)).map T.bl:=by simp
 rw[e,bn6,List.all_map]
 rfl
theorem bd4{f:Fm}(g:Gd f){ss:List Sd}(h:∀s∈ss,SdOk f s)(hl:ss.length<=1000)(ys:List Int)(yl:ys.length<=100):uR [cF false f,.lst false (ss.map (eT false f)),.lst false (ys.map .int)]=.ok (.bl (decide (ys.length=f.names.length)&&(kS f ss).all (kept ys))):=by
 unfold uR yP
 have fl:=rH false f
 have k:=an1 g h hl
 have za:=jB false f
 have zo:=sC false f ss
 have aS:=vM h
 have aT:=qL f ss
 have zS:=yO aT
 have nS:=wX aT
 have cS:=tQ aT
 have lS:=ci7 g hl
 by_cases e:ys.length=f.names.length
 . have t1:(!((ys.length:Int)==(f.names.length:Int)))=false:=by simp[e]
   have al:=pL true ys
   have ak:=cr2 ys (kS f ss)
   have ll:ys.length<=100000:=by omega
   have lz:ys.length+1<=sizeLine:=by have:=sizeLine_eq;omega
   have d1:decide (ys.length=f.names.length)=true:=decide_eq_true e
   have lS2:(kS f ss).length<=100000:=by omega
   have hc1:cE (aJ 4) cM (bJ 1 jC (aD (aB 4) aI)) [some (cF false f),some (.lst false (ss.map (eT false f))),some (.lst false (ys.map .int)),none,none,none] (ys.map .int)=.ok (ys.map λ_=>T.bl true):=by
    refine eQ λy _=>?_
    have kw:=by4 y
    clear k aS aT e
    walk_at "ev"
   have hc2:cE (aJ 5) cM (bJ 2 nK (aD (aB 5) (aD (aB 3) aI))) [some (cF false f),some (.lst false (ss.map (eT false f))),some (.lst false (ys.map .int)),some (.lst true (ys.map T.int++[.int 0])),none,none] (kS f ss)=.ok ((kS f ss).map λt=>T.bl (kept ys t)):=by
    have q:=eQ (k:=5) (d:=(bJ 2 nK (aD (aB 5) (aD (aB 3) aI)))) (ρ:=[some (cF false f),some (.lst false (ss.map (eT false f))),some (.lst false (ys.map .int)),some (.lst true (ys.map T.int++[.int 0])),none,none]) (g:=id) (f:=λt=>T.bl (kept ys t)) (l:=kS f ss) (λt ht=>by
     have kk:=by9 (ys:=ys) (t:=t) (by rw[e];exact aS t ht)
     obtain⟨n1,c1,z1⟩:=xT (aT t ht)
     have zy:frzs (ys.map T.int++[.int 0])=ys.map T.int++[.int 0]:=fJ _ (by rw[nM];simp[dS])
     simp only[id]
     clear k aS aT e hc1 ht
     walk_at "ev")
    rwa[List.map_id]at q
   clear k
   have k:=an1 g h hl
   clear aS aT e h g hl yl lS
   walk_at "ev"
 . have t1:(!((ys.length:Int)==(f.names.length:Int)))=true:=by
    rw[Bool.not_eq_true',beq_eq_false_iff_ne]
    omega
   have d1:decide (ys.length=f.names.length)=false:=decide_eq_false e
   clear k aS aT e h g
   walk_at "ev"
theorem au9{b:T->Fr->Option Fr}{body:Fr->bU}{r:T}{p:T->Bool}(Iv:Fr->Prop):∀{ts:List T}{ρ:Fr},(∀t∈ts,∀ρ,Iv ρ->∃ρ1,b t ρ=some ρ1/\((p t=false/\body ρ1=.rt r)\/(p t=true/\∃ρ2,body ρ1=.nx ρ2/\Iv ρ2)))->Iv ρ->
 (ts.all p=true/\∃ρ',eI b body ts ρ=.nx ρ'/\Iv ρ')\/(ts.all p=false/\eI b body ts ρ=.rt r)
 |[],ρ,_,hi=>.inl ⟨rfl,ρ,rfl,hi⟩
 |t::ts,ρ,hs,hi=>by
  obtain⟨ρ1,h1,h2⟩:=hs t List.mem_cons_self ρ hi
  rcases h2 with⟨hp,hb⟩|⟨hp,ρ2,hb,hi2⟩
  . refine .inr ⟨by simp[hp],?_⟩
    simp only[eI,h1,hb]
  . rcases au9 (p:=p) (r:=r) Iv (λu hu=>hs u (List.mem_cons_of_mem _ hu)) hi2 with⟨ha,ρ',e,i'⟩|⟨ha,e⟩
    . refine .inl ⟨by simp[hp,ha],ρ',?_,i'⟩
      simp only[eI,h1,hb]
      exact e
    . refine .inr ⟨by simp[hp,ha],?_⟩
      simp only[eI,h1,hb]
      exact e
theorem cf6{ys:List Int}{i:Nat}(hi:i<ys.length):atI (ys.map T.int) (i:Int)=some (.int (oW ys (.int i))):=by
 refine eP ?_
 rw[List.getElem?_map,List.getElem?_eq_getElem hi]
 simp[oW,List.getD_eq_getElem?_getD,List.getElem?_eq_getElem hi]
theorem zZ{ys:List Int}{ts:List T}(h:∀t∈ts,StepN ys.length t):jF [.lst false (ys.map .int),.lst false ts]=.ok (.bl (ts.all (kept ys))):=by
 unfold jF pW
 have no:=wX λt ht=>(h t ht).st
 have key:=au9 (b:=eR (bE (aJ 2) (bE (aJ 3) (bE (aJ 4) (bE (aJ 5) eU))))) (body:=(sSeq (bF [] (dC (.int 0)) (aJ 6)) (sSeq (bF [] (dC (.int 0)) (aJ 7)) (sSeq (cW (bK (aG iG (aB 2) (dC .non))) (bF [] (aQ (aG aY (aB 0) (aB 2))) (aJ 6)) bX) (sSeq (cW (bK (aG iG (aB 3) (dC .non))) (bF [] (aQ (aG aY (aB 0) (aB 3))) (aJ 7)) bX) (cW (bK (aG gtT (aB 7) (aG bO (aB 6) (aB 4)))) (bM [] (dC (.bl false))) bX)))))) (r:=.bl false) (p:=kept ys) (λρ=>∃o2 o3 o4 o5 o6 o7:Option T,ρ=[some (.lst false (ys.map .int)),some (.lst false ts),o2,o3,o4,o5,o6,o7]) (ts:=ts) (ρ:=[some (.lst false (ys.map .int)),some (.lst false ts),none,none,none,none,none,none]) (by
  rintro t ht ρ ⟨o2,o3,o4,o5,o6,o7,rfl⟩
  obtain⟨a,b,c,d,rfl,ha,hb,hd⟩:=h t ht
  refine⟨[some (.lst false (ys.map .int)),some (.lst false ts),some a,some b,some (.int c),some d,o6,o7],rfl,?_⟩
  have kp:∀x:Bool,decide (oW ys a+c<oW ys b)=x->kept ys (.tup [a,b,.int c,d])=!x:=by
   intro x hx
   subst hx
   simp only[kept]
   by_cases q:oW ys b<=oW ys a+c
   . rw[decide_eq_true q,decide_eq_false (by omega)];rfl
   . rw[decide_eq_false q,decide_eq_true (by omega)];rfl
  have fA:∀i:Nat,i<ys.length->a=.int i->atI (ys.map T.int) (i:Int)=some (.int (oW ys a)):=λi hi e=>by rw[e];exact cf6 hi
  have fB:∀i:Nat,i<ys.length->b=.int i->atI (ys.map T.int) (i:Int)=some (.int (oW ys b)):=λi hi e=>by rw[e];exact cf6 hi
  have nA:a=.non->oW ys a=0:=λe=>by rw[e];rfl
  have nB:b=.non->oW ys b=0:=λe=>by rw[e];rfl
  have out:∃A B:Int,oW ys a=A/\oW ys b=B/\((a=.non/\A=0)\/∃i:Nat,a=.int i/\atI (ys.map T.int) (i:Int)=some (.int A))/\((b=.non/\B=0)\/∃i:Nat,b=.int i/\atI (ys.map T.int) (i:Int)=some (.int B)):=by
   refine⟨_,_,rfl,rfl,?_,?_⟩
   . rcases ha with e|⟨i,hi,e⟩
     . exact .inl ⟨e,nA e⟩
     . exact .inr ⟨i,e,fA i hi e⟩
   . rcases hb with e|⟨i,hi,e⟩
     . exact .inl ⟨e,nB e⟩
     . exact .inr ⟨i,e,fB i hi e⟩
  obtain⟨A,B,eA,eB,ca,cb⟩:=out
  rw[eA,eB]at kp
  clear fA fB nA nB ha hb hd h ht no eA eB
  cases e:decide (A+c<B)with
  |true=>
   refine .inl ⟨kp true e,?_⟩
   clear kp
   rcases ca with⟨rfl,rfl⟩|⟨i,rfl,qa⟩<;>rcases cb with⟨rfl,rfl⟩|⟨j,rfl,qb⟩<;>walk_at "ev"
  |false=>
   refine .inr ⟨kp false e,[some (.lst false (ys.map .int)),some (.lst false ts),some a,some b,some (.int c),some d,some (.int A),some (.int B)],?_,_,_,_,_,_,_,rfl⟩
   clear kp
   rcases ca with⟨rfl,rfl⟩|⟨i,rfl,qa⟩<;>rcases cb with⟨rfl,rfl⟩|⟨j,rfl,qb⟩<;>walk_at "ev") ⟨_,_,_,_,_,_,rfl⟩
 clear h
 rcases key with⟨ha,ρ',e,o2,o3,o4,o5,o6,o7,rfl⟩|⟨ha,e⟩
 . walk_at "ev"
 . walk_at "ev"
theorem bm2{f:Fm}(g:Gd f)(c:Int){hid:List Int}(hl:hid.length=f.names.length):∃ys:List Int,qD [.int c,fX false f,.lst false (hid.map .int)]=.ok (.lst true (ys.map .int))/\ys.length<=100:=by
 unfold qD pO
 have n1:=g.n1
 have n8:=g.n8
 have s0:=g.s0
 have b0:=@jR T
 have b1:=@iJ T
 have hk:∃m,c%1000000000000=m:=⟨_,rfl⟩
 obtain⟨m,hm⟩:=hk
 have m0:0<=m:=by omega
 have m1:m<1000000000000:=by omega
 have hn:(hid.length:Int)≠0:=by omega
 obtain⟨at',ha⟩:∃a,m/8%(hid.length:Int)=a:=⟨_,rfl⟩
 have a0:0<=at':=by rw[<-ha];exact Int.emod_nonneg _ hn
 have a1:at'<(hid.length:Int):=by rw[<-ha];exact Int.emod_lt_of_pos _ (by omega)
 have ak:at'.toNat<hid.length:=by omega
 have at1:atI (hid.map T.int) at'=some (.int (hid.getD at'.toNat 0)):=by
  have q:atI (hid.map T.int) ((at'.toNat:Nat):Int)=some (.int (hid.getD at'.toNat 0)):=eP (by rw[List.getElem?_map,List.getElem?_eq_getElem ak];simp[List.getD_eq_getElem?_getD,List.getElem?_eq_getElem ak])
  rwa[Int.toNat_of_nonneg a0]at q
 have ix:sV hid.length at'=some at'.toNat:=by
  unfold sV
  rw[if_pos a0,if_pos a1]
 have p12:(10:Int)^(12:Int).toNat=1000000000000:=by decide
 have ll:hid.length<=100000:=by omega
 have r1:-(2^62)<=(hid.length:Int)/\(hid.length:Int)<2^62:=by omega
 generalize hid.getD at'.toNat 0=v0 at*
 simp only[fX]
 have c8:m%8<3\/m%8=3\/m%8=4\/m%8=5\/m%8=6\/m%8=7:=by omega
 rcases c8 with q|q|q|q|q|q
 . refine⟨hid.set at'.toNat (v0+m/64%7-3),?_,by simp;omega⟩
   rw[List.map_set]
   have t1:decide (m%8<3)=true:=decide_eq_true q
   clear q hl g
   walk_at "ev"
 . have w0:0<f.first+f.span-(f.first-2)+3:=by omega
   refine⟨hid.set at'.toNat (f.first-2+m/64%(f.first+f.span-(f.first-2)+3)),?_,by simp;omega⟩
   rw[List.map_set]
   have t1:decide (m%8<3)=false:=decide_eq_false (by omega)
   have t2:(m%8==3)=true:=by rw[q];rfl
   have w1:f.first+f.span-(f.first-2)+3≠0:=by omega
   clear q hl g
   walk_at "ev"
 . have w0:m/64%2=0\/m/64%2=1:=by omega
   have t1:decide (m%8<3)=false:=decide_eq_false (by omega)
   have t2:(m%8==3)=false:=by rw[q];rfl
   have t3:(m%8==4)=true:=by rw[q];rfl
   have e:∀x:Int,(List.replicate hid.length [T.int x]).flatten=(List.replicate hid.length x).map T.int:=by
    intro x
    simp
   have e2:(hid.length:Int).toNat=hid.length:=Int.toNat_natCast _
   have l1:∀x:T,[x].length*hid.length<=2^24:=λx=>by simp;omega
   rcases w0 with w|w
   . refine⟨List.replicate hid.length f.first,?_,by simp;omega⟩
     rw[<-e]
     clear q hl g e
     walk_at "ev"
   . refine⟨List.replicate hid.length (f.first+f.span),?_,by simp;omega⟩
     rw[<-e]
     clear q hl g e
     walk_at "ev"
 . have t1:decide (m%8<3)=false:=decide_eq_false (by omega)
   have t2:(m%8==3)=false:=by rw[q];rfl
   have t3:(m%8==4)=false:=by rw[q];rfl
   have t4:(m%8==5)=true:=by rw[q];rfl
   refine⟨hid++[v0],?_,by simp;omega⟩
   rw[List.map_append]
   have lz:hid.length+1<=sizeLine:=by have:=sizeLine_eq;omega
   simp only[List.map_cons,List.map_nil]
   clear q hl g
   walk_at "ev"
 . have t1:decide (m%8<3)=false:=decide_eq_false (by omega)
   have t2:(m%8==3)=false:=by rw[q];rfl
   have t3:(m%8==4)=false:=by rw[q];rfl
   have t4:(m%8==5)=false:=by rw[q];rfl
   have t5:(m%8==6)=true:=by rw[q];rfl
   have pp:(0<=at'/\at'.toNat<hid.length/\hid.length<=sizeLine):=⟨a0,ak,by have:=sizeLine_eq;omega⟩
   refine⟨hid.eraseIdx at'.toNat,?_,by rw[List.length_eraseIdx];split<;>omega⟩
   have me:∀(l:List Int)(k:Nat),(l.eraseIdx k).map T.int=(l.map T.int).eraseIdx k:=by
    intro l
    induction l with
    |nil=>intro k;rfl
    |cons x l ih=>intro k;cases k with
     |zero=>rfl
     |succ k=>simp only[List.eraseIdx_cons_succ,List.map_cons,ih]
   rw[me]
   clear me
   clear q hl g
   walk_at "ev"
 . have t1:decide (m%8<3)=false:=decide_eq_false (by omega)
   have t2:(m%8==3)=false:=by rw[q];rfl
   have t3:(m%8==4)=false:=by rw[q];rfl
   have t4:(m%8==5)=false:=by rw[q];rfl
   have t5:(m%8==6)=false:=by rw[q];rfl
   refine⟨hid,?_,by omega⟩
   clear q hl g
   walk_at "ev"
theorem cq7(c:Str)(hc:c∈gW)(o:Bool)(ls:List Int)(lo:Int)(hi:Option Int)(x:Str):eS ["Ink","Reign","Under","Between","After","Same","Within","Apart"] "text" (fI o c ls lo hi x)=.ok (.str x):=by
 have:=ct8 c hc
 simp only[eS,fI,this,if_true]
 with_unfolding_all rfl
theorem cn3:fK "shown" ["spoken","low","high","text"]=none:=by decide+kernel
theorem cq6{c:Str}(h:c∈gW):tm_shown.lookup c=some aR:=by
 simp only[gW,List.mem_cons,List.not_mem_nil,or_false]at h
 rcases h with rfl|rfl|rfl|rfl|rfl|rfl|rfl|rfl<;>with_unfolding_all rfl
theorem cf9{s:Sd}(c8:s.cls∈gW)(f:Fm){ρ:Fr}(h:aB 18 ρ=.ok (eT false f s)):gU 1 "shown" tm_shown (aB 18) aI ρ=.ok (.str (wT f s)):=by
 have k:aR [eT false f s]=.ok (.str (wT f s)):=by
  unfold aR dD eT
  have:=cq7 s.cls c8 false (s.ls.map λ(l:Nat)=>(l:Int)) s.lo s.hi (wT f s)
  walk_at "ev"
 have zo:=xI false f s
 have e:gU 1 "shown" tm_shown (aB 18) aI ρ=rE 1 aR [eT false f s]:=by
  simp only[gU,h,mD,aI,eT,fI,cn3,cq6 c8]
 rw[e]
 clear h
 walk_at "ev"
theorem ac7(n:Nat):∀{ts:List T},(∀t∈ts,pD n t t=some true)->∃es,wC n ts ts=some es/\es.all id=true
 |[],_=>⟨[],rfl,rfl⟩
 |t::ts,h=>by
  obtain⟨es,h1,h2⟩:=ac7 n (ts:=ts) λu hu=>h u (List.mem_cons_of_mem _ hu)
  refine⟨true::es,by simp only[wC,h t List.mem_cons_self,h1,Option.bind_some,Option.map_some],?_⟩
  simp[h2]
theorem bj4{o o':Bool}{ts:List T}(h:∀t∈ts,pD 5 t t=some true):pD dO (.lst o ts) (.lst o' ts)=some true:=by
 show pD (5+1) (.lst o ts) (.lst o' ts)=_
 obtain⟨es,h1,h2⟩:=ac7 5 h
 rw[pD,if_pos rfl,h1,Option.map_some,h2]
theorem cj8(o o':Bool)(ys:List Int):wM (.lst o (ys.map .int)) (.lst o' (ys.map .int))=.ok (.bl false):=by
 have q:pD dO (.lst o (ys.map .int)) (.lst o' (ys.map .int))=some true:=bj4 λt ht=>by
  obtain⟨i,_,rfl⟩:=List.mem_map.mp ht
  show some (i==i)=_
  simp
 simp only[wM,rL,and_self,if_true,q,Bool.not_true]
theorem cq9{α:Type}(o o':Bool)(g:α->Str)(l:List α):fN (.lst o (l.map λa=>T.str (g a))) (.lst o' (l.map λa=>T.str (g a)))=.ok (.bl true):=by
 have q:pD dO (.lst o (l.map λa=>T.str (g a))) (.lst o' (l.map λa=>T.str (g a)))=some true:=bj4 λt ht=>by
  obtain⟨i,_,rfl⟩:=List.mem_map.mp ht
  show some (g i==g i)=_
  simp
 simp only[fN,eqB,rL,and_self,if_true,q]
theorem dw4(o:Bool)(f:Fm):frz (fX o f)=fX false f:=by simp only[fX,frz,frzs,xM,nO,pH]
theorem cj3(f:Fm):dX (fX true f)=true:=by simp only[fX,dX,dL,uC,tX,at2,Bool.and_self]
theorem db9(o:Bool)(f:Fm):aY (fX o f) (.int 2)=.ok (.lst o (f.names.map .str)):=by
 simp only[fX,ct5,qI]
theorem rY{α β:Type}(g:α->β)(xs:List α)(lo hi:Option Int):eE (xs.map g) lo hi=(eE xs lo hi).map g:=by
 unfold eE
 rw[List.length_map,List.map_take,List.map_drop]
theorem yU{α:Type}(xs:List α)(lo hi:Option Int):(eE xs lo hi).length<=xs.length:=by
 unfold eE
 rw[List.length_take,List.length_drop]
 omega
theorem bb4{α:Type}{xs:List α}{lo hi:Option Int}{x:α}(h:x∈eE xs lo hi):x∈xs:=by
 unfold eE at h
 exact List.mem_of_mem_drop (List.mem_of_mem_take h)
theorem main(ns:List Int)(h63:ns.length<=63)(hb:∀n∈ns,Builtin.Int.intBits n<=1048576):ay8 [.lst false (ns.map .int)]=.ok (.bl true):=by
 unfold ay8 at8
 obtain⟨f,hf,g⟩:=cx9 ns
 have ec:iA [.lst false (ns.map .int),.int 1]=.ok (.int (ns.getD 1 0)):=by7 false ns 1
 obtain⟨hid,hh,hl,hhb⟩:=cz0 (ns.getD 1 0/32) g
 have ct:=rY T.int ns (some 2) (some 18)
 have ctl:=yU ns (some 2) (some 18)
 obtain⟨ss,hs,sl,sok⟩:=br9 g (eE ns (some 2) (some 18)) (by omega) (ns.getD 1 0%2==1) hid hl hhb
 have ka:=ao7 g
 have kh:=dz4 sok (by omega)
 have k1:=zO g sok (by omega)
 have fm:=dw4 true f
 have cf:=cj3 f
 have f2:=db9 true f
 have ar:=jB true f
 have ca:=bm1 f
 have zs:=vJ (f:=f) true sok
 have zs0:=vJ (f:=f) false sok
 have cs:=aj2 sok
 have co:=br6 f ss
 have zo:=sC true f ss
 have zo0:=sC false f ss
 have ns1:=nU sok
 have no:=rF f ss
 have nn:=kL ns
 have zh:=tE hid
 have c1:=tQ (qL f ss)
 have z1:=yO (qL f ss)
 have hc:∀x0 x1 x2 x3 x4 x5 x6 x7 x8 x9 y0 y1 y2 y3 y4 y5 y6 y7:Option T,cE (aJ 18) cM (gU 1 "shown" tm_shown (aB 18) aI) [x0,x1,x2,x3,x4,x5,x6,x7,x8,x9,y0,y1,y2,y3,y4,y5,y6,y7,none] (ss.map (eT false f))=.ok (ss.map λs=>T.str (wT f s)):=by
  intro x0 x1 x2 x3 x4 x5 x6 x7 x8 x9 y0 y1 y2 y3 y4 y5 y6 y7
  exact eQ λs hs=>cf9 (sok s hs).c8 f rfl
 have eqt:=cq9 true true (wT f) ss
 obtain⟨a,ha⟩:∃a,ns.getD 1 0/2%((ss.length:Int)+1)=a:=⟨_,rfl⟩
 obtain⟨A,hA⟩:∃A,eE ss none (some a)=A:=⟨_,rfl⟩
 obtain⟨B,hB⟩:∃B,eE ss (some (a+1)) none=B:=⟨_,rfl⟩
 have cA1:eE (ss.map (hV false)) none (some a)=A.map (hV false):=by rw[rY,hA]
 have cB1:eE (ss.map (hV false)) (some (a+1)) none=B.map (hV false):=by rw[rY,hB]
 have cA2:eE (ss.map (eT false f)) none (some a)=A.map (eT false f):=by rw[rY,hA]
 have cB2:eE (ss.map (eT false f)) (some (a+1)) none=B.map (eT false f):=by rw[rY,hB]
 have lA:A.length<=ss.length:=by rw[<-hA];exact yU _ _ _
 have lB:B.length<=ss.length:=by rw[<-hB];exact yU _ _ _
 have okA:∀s∈A,SdOk f s:=λs h=>sok s (bb4 (by rw[hA];exact h))
 have okB:∀s∈B,SdOk f s:=λs h=>sok s (bb4 (by rw[hB];exact h))
 have sok2:∀s∈A++B,SdOk f s:=λs h=>(List.mem_append.mp h).elim (okA s) (okB s)
 have k2:=zO g sok2 (by simp;omega)
 have c2:=tQ (qL f (A++B))
 have z2:=yO (qL f (A++B))
 have nA1:=nU okA
 have nB1:=nU okB
 have nA2:=rF f A
 have nB2:=rF f B
 have zz1:=vJ (f:=f) false sok2
 have zz2:=sC false f (A++B)
 have aN:(ss.length:Int)+1≠0:=by omega
 have h1:=λys yl=>bd4 g sok (by omega) ys yl
 have h2:=λys yl=>bd4 g sok2 (by simp;omega) ys yl
 have l1:∀ys:List Int,ys.length=f.names.length->jF [.lst false (ys.map .int),.lst false (kS f ss)]=.ok (.bl ((kS f ss).all (kept ys))):=λys e=>zZ (by rw[e];exact vM sok)
 have l2:∀ys:List Int,ys.length=f.names.length->jF [.lst false (ys.map .int),.lst false (kS f (A++B))]=.ok (.bl ((kS f (A++B)).all (kept ys))):=λys e=>zZ (by rw[e];exact vM sok2)
 rw[List.map_append]at k2 zz1 zz2
 simp only[List.map_append]at h2
 have ll0:A.length+B.length<=sizeLine:=by have:=sizeLine_eq;omega
 have ll2:ss.length<=100000:=by omega
 have ct3:=rY T.int ns (some 18) (some 63)
 have ctl3:=yU ns (some 18) (some 63)
 have ll3:(eE ns (some 18) (some 63)).length+(0+1+1)<=sizeLine:=by have:=sizeLine_eq;omega
 have ll4:(eE ns (some 18) (some 63)).length+2<=sizeLine:=by have:=sizeLine_eq;omega
 generalize eE ns (some 18) (some 63)=C at*
 have nC:=kL C
 have zC:frzs (C.map T.int++[.int 7,.int 0])=C.map T.int++[.int 7,.int 0]:=fJ _ (by rw[nM];simp[dS])
 have nC2:bA (C.map T.int++[.int 7,.int 0])=true:=by rw[nM];simp[dS]
 have yrs:=λc=>bm2 g c hl
 clear sok sok2 okA okB hb sl ctl hhb g lA lB hA hB ctl3 hl
 generalize kS f ss=S1 at*
 generalize kS f (A++B)=S2 at*
 have fl1:=f2
 walk_at "ev"
 generalize hL:eI _ _ _ _=o
 obtain⟨ρ',rfl,o13,o14,o15,o16,o17,rfl⟩:=jO (λ_ ρ=>∃o13 o14 o15 o16 o17:Option T,ρ=[some (.lst false (ns.map .int)),some (fX true f),some (.lst true ((eE ns (some 2) (some 18)).map .int)),some (.lst true (hid.map .int)),some (.lst true (ss.map (hV false))),some (cF true f),some (.lst true (ss.map (eT false f))),some (.lst true S1),some (.lst true (ss.map λs=>T.str (wT f s))),some (.int a),some (.lst true (A.map (eT false f)++B.map (eT false f))),some (.lst true S2),some (.int f.names.length),o13,o14,o15,o16,o17,none]) hL ⟨_,_,_,_,_,rfl⟩ (by
  rintro i t ρ et ⟨o13,o14,o15,o16,o17,rfl⟩
  have tm:∃c,t=.int c:=by
   rcases List.mem_append.mp (List.mem_of_getElem? et)with q|q
   . obtain⟨c,_,e⟩:=List.mem_map.mp q
     exact⟨c,e.symm⟩
   . simp only[List.mem_cons,List.not_mem_nil,or_false]at q
     rcases q with e|e
     . exact⟨7,e⟩
     . exact⟨0,e⟩
  obtain⟨c,rfl⟩:=tm
  obtain⟨ys,ky,yl⟩:=yrs c
  have p1:=h1 ys yl
  have p2:=h2 ys yl
  have nes:=cj8 true true ys
  have lly:ys.length<=100000:=by omega
  have bt:(!((true:Bool)==true))=false:=rfl
  have bf:(!((false:Bool)==false))=false:=rfl
  by_cases D:ys.length=f.names.length
  . have q1:=l1 ys D
    have q2:=l2 ys D
    have tD:((ys.length:Int)==(f.names.length:Int))=true:=by rw[D];simp
    rw[decide_eq_true D,Bool.true_and]at p1 p2
    clear hL et D h1 h2 l1 l2 yrs hc eqt hf hh hs ka kh k1 k2 ha
    generalize S1.all (kept ys)=x1 at*
    generalize S2.all (kept ys)=x2 at*
    cases x1<;>cases x2<;>(walk_at "ev";exact⟨_,_,_,_,_,rfl⟩)
  . have tD:((ys.length:Int)==(f.names.length:Int))=false:=by
     rw[beq_eq_false_iff_ne]
     omega
    rw[decide_eq_false D,Bool.false_and]at p1 p2
    clear hL et D h1 h2 l1 l2 yrs hc eqt hf hh hs ka kh k1 k2 ha
    walk_at "ev"
    exact⟨_,_,_,_,_,rfl⟩)
 clear hL
 walk_at "ev"
end Nk22
namespace PySem.W.Fast
def tw10010685145664917703:=0
def tw10023917604267442355:=0
def tw10079430733048659658:=0
def tw10102881529870284763:=0
def tw10173469857167472100:=0
def tw10230618626532269420:=0
def tw10245161206195846522:=0
def tw10248808238602254461:=0
def tw10273328760744564933:=0
def tw10328863704443233838:=0
def tw1035492498515301613:=0
def tw10386900730921141832:=0
def tw1039620527598045071:=0
def tw10399581388464218382:=0
def tw10409782402021756227:=0
def tw10427407584860832165:=0
def tw10434521947262448075:=0
def tw10444131049573444248:=0
def tw10456749949578690635:=0
def tw10469430605941231776:=0
def tw10500567075196706277:=0
def tw1050513104106437360:=0
def tw10506445586706913276:=0
def tw10516214660424491146:=0
def tw105251559685049056:=0
def tw10543233597023177784:=0
def tw10557464494689655584:=0
def tw10585156404271419147:=0
def tw10600010050413230563:=0
def tw10707845845611678012:=0
def tw1074177363376695266:=0
def tw10768186229795767024:=0
def tw10787651207160113681:=0
def tw1087041147839721405:=0
def tw10919297934447625776:=0
def tw10934646932274964480:=0
def tw10984249295784326736:=0
def tw10993165015298275893:=0
def tw1101290597120965467:=0
def tw11013620784204878710:=0
def tw11023301539080801345:=0
def tw11041544626422332037:=0
def tw11078804243455690598:=0
def tw1110469960916322401:=0
def tw11107986047032830669:=0
def tw11109762088766676674:=0
def tw11133599731820658534:=0
def tw11134738251025138228:=0
def tw11168031985081133346:=0
def tw11172234986720362147:=0
def tw11175336495240618417:=0
def tw11229520585675828443:=0
def tw11266369996539288140:=0
def tw11278987697036328286:=0
def tw11279198918588150481:=0
def tw11332986750882365425:=0
def tw11355331662205690798:=0
def tw11409254494455765220:=0
def tw11455492922551011956:=0
def tw1148149211565041067:=0
def tw11583866589768094807:=0
def tw11673530435112859259:=0
def tw1177247437708310132:=0
def tw11835716806379777498:=0
def tw11868563808676635310:=0
def tw11914232441468226500:=0
def tw11916752505208719219:=0
def tw11917573280209723939:=0
def tw11985429554534375005:=0
def tw12022778838968867567:=0
def tw12028534915437641960:=0
def tw1205937326120773059:=0
def tw12073182910262480195:=0
def tw12149834021520965563:=0
def tw12172691497159677125:=0
def tw12201503170637562357:=0
def tw12211989091208365608:=0
def tw12265842857578576819:=0
def tw12294610858058534548:=0
def tw12295871818390066968:=0
def tw12305258244333193262:=0
def tw12344094687788117085:=0
def tw12375143945324925689:=0
def tw12443769787693992286:=0
def tw12489645482235387669:=0
def tw12544796066357313763:=0
def tw12623116674165182001:=0
def tw1262731454716759760:=0
def tw12644467555837170364:=0
def tw12681148297053371139:=0
def tw12727445008366654507:=0
def tw12861089955621948633:=0
def tw1288580030321789016:=0
def tw12889902902693270982:=0
def tw1292110459899417155:=0
def tw12931665250695330778:=0
def tw12985611739780119503:=0
def tw13034030878607876040:=0
def tw13045149282179462940:=0
def tw1307401409515486835:=0
def tw13096726114217634844:=0
def tw13115993322055110207:=0
def tw13184081426609895747:=0
def tw13204774560454388159:=0
def tw13355211663835014954:=0
def tw13363508482275373307:=0
def tw13436188337726308345:=0
def tw13475112975683392774:=0
def tw13506238503832319465:=0
def tw13508079862004941886:=0
def tw13531283893393487612:=0
def tw13541828074045436834:=0
def tw13545748951327386400:=0
def tw13644815753354223185:=0
def tw1376397005879115058:=0
def tw13768904611603931019:=0
def tw13780987980127873089:=0
def tw13790070743804994705:=0
def tw13805558299021880949:=0
def tw1384805886039876233:=0
def tw13887216464117304885:=0
def tw13897425204981236885:=0
def tw13915624918499466604:=0
def tw13915670795835706410:=0
def tw13965370008390752284:=0
def tw14008595669336466486:=0
def tw14058183468765511087:=0
def tw14062083630155572505:=0
def tw14069071252169993113:=0
def tw14125794117484737950:=0
def tw14184081879651045184:=0
def tw14195177339785328761:=0
def tw14255345642384357791:=0
def tw14266486223240188259:=0
def tw14267768069323261910:=0
def tw14360675236399665422:=0
def tw14365169772368465131:=0
def tw14365949970922318534:=0
def tw14396829301750974976:=0
def tw14400947725225972767:=0
def tw14506778357329564229:=0
def tw14577491100259141411:=0
def tw14661665743473061774:=0
def tw14666222346650208173:=0
def tw1469369051571293429:=0
def tw14703447317485445532:=0
def tw14717677259003372473:=0
def tw14737805373981044419:=0
def tw14806064416341675252:=0
def tw14808971635404756272:=0
def tw14828211390819405354:=0
def tw14831835688763319886:=0
def tw14864448493954015923:=0
def tw14905538515042998020:=0
def tw14907504563814859480:=0
def tw14965438641896895715:=0
def tw14972041413834842480:=0
def tw15017559553527400360:=0
def tw15061609847333066045:=0
def tw15072486534167350808:=0
def tw15183602841303719500:=0
def tw1519401578953856583:=0
def tw15206182483959801232:=0
def tw15321931040819732880:=0
def tw15417926524796291751:=0
def tw15471276428265186544:=0
def tw15473983108857300578:=0
def tw15482915406297956102:=0
def tw15485814590432654253:=0
def tw15493575390986545395:=0
def tw15502044877657504126:=0
def tw15649447303218344638:=0
def tw15662012799256639185:=0
def tw15776397432381556107:=0
def tw15787203499909083653:=0
def tw15804458819602532657:=0
def tw15836152092066040819:=0
def tw15837920317644873894:=0
def tw15846381233814294769:=0
def tw15892135047048717984:=0
def tw15902311269078538088:=0
def tw15912219667046207798:=0
def tw15953155843068243222:=0
def tw15954903383034586883:=0
def tw1604166610980491715:=0
def tw16058308606456704466:=0
def tw16059801350847912420:=0
def tw16088846256213059543:=0
def tw16094327566908531801:=0
def tw16098873517824458657:=0
def tw16110333208983452062:=0
def tw16117892828433903920:=0
def tw16163195561280904538:=0
def tw16165988931260806217:=0
def tw16188908460131720745:=0
def tw16258267952863169140:=0
def tw1626732633111163330:=0
def tw16276987033811091858:=0
def tw16353718209447723517:=0
def tw16369582293718854527:=0
def tw16391085947848054474:=0
def tw16418105156903837752:=0
def tw16487739532689162373:=0
def tw16571720496710373758:=0
def tw16573957561665794351:=0
def tw1659561196991393602:=0
def tw16670162472966518801:=0
def tw16674496883542530224:=0
def tw16686594193880145148:=0
def tw16704164179190966492:=0
def tw16705796058873698829:=0
def tw16719743824870628986:=0
def tw16725620867165531061:=0
def tw16781534948648303158:=0
def tw1681764385763469452:=0
def tw16875611414902375032:=0
def tw16927798559283561580:=0
def tw16932396661508275211:=0
def tw1694989252023003924:=0
def tw16980847413710205167:=0
def tw17013240293617995971:=0
def tw17055707134255847794:=0
def tw17060711955001449792:=0
def tw17085154628189418814:=0
def tw17138928352850194112:=0
def tw17193493141249017804:=0
def tw17229922600415021049:=0
def tw17317649525840981686:=0
def tw17329359276347797277:=0
def tw17362536301593525652:=0
def tw17366613482228928475:=0
def tw17420848024777636837:=0
def tw17484401538430988216:=0
def tw17497579298250337505:=0
def tw1754055665566505185:=0
def tw17553695580430448716:=0
def tw17577895988135304536:=0
def tw1759195718001523222:=0
def tw17593912220091158974:=0
def tw17615320942894570430:=0
def tw17658431066703843674:=0
def tw17666705840467126165:=0
def tw17720951758841173419:=0
def tw17721137727333579825:=0
def tw17732154526047534245:=0
def tw17814651123925188399:=0
def tw17826268919048852611:=0
def tw17844847998221922170:=0
def tw17860999497937882935:=0
def tw17886687508740228446:=0
def tw17896486003379945384:=0
def tw17915200540770983727:=0
def tw17915478489173568450:=0
def tw17933651240639539863:=0
def tw18003223159206628958:=0
def tw18034592243809309334:=0
def tw1805261447825520607:=0
def tw18059208417692159074:=0
def tw18074705225129362990:=0
def tw18219401397833967547:=0
def tw1830527344695759036:=0
def tw18346993815835853256:=0
def tw1877730344748668447:=0
def tw1902980812679462672:=0
def tw1921162094643853265:=0
def tw1970836555927603341:=0
def tw1982956911152036957:=0
def tw2029671553675984415:=0
def tw2045511591773126170:=0
def tw2070553209021103858:=0
def tw2070786089773710726:=0
def tw2137169115065539126:=0
def tw2189607444811153613:=0
def tw2195313674864521100:=0
def tw2201728561073269792:=0
def tw2206864494369183694:=0
def tw2210936388176968758:=0
def tw2229707410893203132:=0
def tw2236922536556783461:=0
def tw2244854700356471233:=0
def tw2252366099491938380:=0
def tw2281502712460724771:=0
def tw2338346233665590477:=0
def tw2364849633326726731:=0
def tw2407548855874797396:=0
def tw2490553355354154518:=0
def tw2508480766177392990:=0
def tw2508949425886281893:=0
def tw2537566833524473099:=0
def tw2539197702717552890:=0
def tw2551629409979450122:=0
def tw2583732288049319468:=0
def tw2587589128258806204:=0
def tw2589787894656174291:=0
def tw2598633806651367477:=0
def tw2607090215672523838:=0
def tw2665288813471786195:=0
def tw2672133349843096237:=0
def tw2759704611666913389:=0
def tw2805773511891601845:=0
def tw2843631350590978050:=0
def tw2866936845507127451:=0
def tw2948554669380376687:=0
def tw2963986425441537114:=0
def tw3001164061717399956:=0
def tw3047104087533649379:=0
def tw3175325989993386077:=0
def tw3199239349582800525:=0
def tw3244551323171909969:=0
def tw3251219932458080271:=0
def tw32784463334890114:=0
def tw3293907434560939811:=0
def tw3299841000519492092:=0
def tw3302786773222207914:=0
def tw3304965401101790544:=0
def tw3313002676607888687:=0
def tw3340225826858690388:=0
def tw3392771482361187013:=0
def tw341001335875556864:=0
def tw3412681896082540493:=0
def tw3445108860658417934:=0
def tw3446210833659978945:=0
def tw3464557827837521300:=0
def tw3495520540266817802:=0
def tw3511342960495604586:=0
def tw3562976438034449853:=0
def tw3572110578140037303:=0
def tw3591493481248947473:=0
def tw3699903837083257845:=0
def tw3752286833415064098:=0
def tw3763832055758973067:=0
def tw3792295063432254652:=0
def tw3812152818152508067:=0
def tw3886313224765603629:=0
def tw3913059828721675063:=0
def tw3925388236317162799:=0
def tw4012273464748214551:=0
def tw4073140181212970980:=0
def tw40760296042472929:=0
def tw4099814562950963782:=0
def tw4099871009102520082:=0
def tw4130995897470387333:=0
def tw4174538890389639043:=0
def tw41818034928293255:=0
def tw4223534316808591797:=0
def tw422739022547705001:=0
def tw4270482750150297975:=0
def tw4370472578407415386:=0
def tw4416431342562583050:=0
def tw442254186136825458:=0
def tw448604141661346154:=0
def tw453092900504250886:=0
def tw4574914076235978410:=0
def tw4630035617328308175:=0
def tw4642588943991126076:=0
def tw4790379888946161989:=0
def tw4796880285489996061:=0
def tw4800196300577665320:=0
def tw480820683166439422:=0
def tw484333099616875283:=0
def tw4854460122871297061:=0
def tw4866691857631080736:=0
def tw4871292011304491779:=0
def tw4929646054378634653:=0
def tw4954505410441244690:=0
def tw4960954517595883643:=0
def tw4993402859442145402:=0
def tw5068109839262112235:=0
def tw5083479040338491625:=0
def tw5129846964579148457:=0
def tw5160502893285508753:=0
def tw5210336834855069184:=0
def tw5257748448674268919:=0
def tw5267108751245190066:=0
def tw5289249828647731245:=0
def tw5336840480676550299:=0
def tw5356464468548871335:=0
def tw5375545019787449807:=0
def tw5401801700856614576:=0
def tw5411277876594731586:=0
def tw5428323839143239034:=0
def tw54448559713011386:=0
def tw5476182496872755690:=0
def tw5520968253703400390:=0
def tw5575395449692140106:=0
def tw5599658521070056115:=0
def tw5603989098220378997:=0
def tw5723908938814719440:=0
def tw5733714627272025286:=0
def tw5755452260628121099:=0
def tw5824657026967813995:=0
def tw5852205194973744399:=0
def tw586107510002937428:=0
def tw5863868866507724424:=0
def tw5880987769462067095:=0
def tw590048836751822117:=0
def tw5901539798761649198:=0
def tw5914441473958693013:=0
def tw5957189008066565550:=0
def tw5976437555283016378:=0
def tw5991705542909257736:=0
def tw6007394734188921774:=0
def tw6079467235045620462:=0
def tw6107547746507836987:=0
def tw6122026966135758225:=0
def tw613785116592088688:=0
def tw6183347870886304478:=0
def tw6187584997016616931:=0
def tw6194310892975161168:=0
def tw6274732176464237335:=0
def tw628391354800438200:=0
def tw6286524037110093505:=0
def tw6291101150808815343:=0
def tw6298430686271163956:=0
def tw6344347710806901557:=0
def tw6361221083276768178:=0
def tw6365245675769953739:=0
def tw6367250860975240603:=0
def tw6367469153213466227:=0
def tw6375575177200154760:=0
def tw6449641893112823500:=0
def tw6463045096669157187:=0
def tw6532045544085828491:=0
def tw6598757484994181083:=0
def tw6606616662323110355:=0
def tw6648158753833549898:=0
def tw6832013267170383806:=0
def tw6854402200559801741:=0
def tw6875246523897741202:=0
def tw6891734610466596323:=0
def tw6932533401750030814:=0
def tw6960426168962514610:=0
def tw697384908776989979:=0
def tw6994174122540924826:=0
def tw7019240045607647354:=0
def tw7021190476282249503:=0
def tw7154039787734032580:=0
def tw7161945163587757386:=0
def tw7200430557950156945:=0
def tw7207645245377309201:=0
def tw722445508455007133:=0
def tw7226220747196237330:=0
def tw7233176800111335732:=0
def tw7263722559939683534:=0
def tw7267551785902447615:=0
def tw7281719950484599718:=0
def tw7288937417524965364:=0
def tw733909161320997228:=0
def tw7355539889417456648:=0
def tw7385782672890805096:=0
def tw7408105268641494954:=0
def tw742390211048426909:=0
def tw743728384172207696:=0
def tw7469796827902617368:=0
def tw7525161386480529875:=0
def tw7562660114324617501:=0
def tw7582969642420219279:=0
def tw7688018390740266564:=0
def tw7721436377362260110:=0
def tw773191321861739234:=0
def tw7793816163501733076:=0
def tw7831329616725798841:=0
def tw7837306603412340392:=0
def tw7903601554220122769:=0
def tw8011137155445671188:=0
def tw8028320929739001993:=0
def tw8032272960522920110:=0
def tw8072554180040009883:=0
def tw8158380388408362291:=0
def tw8171434439329465111:=0
def tw8194286880741310663:=0
def tw8197833229555049048:=0
def tw8286024409564381173:=0
def tw8289366254820266147:=0
def tw829985229388113367:=0
def tw8322162948873882759:=0
def tw8343759403791433787:=0
def tw836331334517404750:=0
def tw8400454148345374743:=0
def tw8423494758072032464:=0
def tw8443111862760186157:=0
def tw8455938773181080506:=0
def tw8462277493468992815:=0
def tw8480616790583773132:=0
def tw8519988888585565806:=0
def tw8521993557035830268:=0
def tw8538690074878285322:=0
def tw8540709010502228849:=0
def tw8543074971760288460:=0
def tw8588035604487726266:=0
def tw8589675080250641868:=0
def tw8614799683808172409:=0
def tw862942179794890289:=0
def tw8639656822218828977:=0
def tw8677862915781947360:=0
def tw8711940616028996307:=0
def tw8716824262210947319:=0
def tw8744567957807321409:=0
def tw8777741595687457782:=0
def tw8820321546722357704:=0
def tw8850016915399260908:=0
def tw88791506549702891:=0
def tw8892996882838941166:=0
def tw8938558445464954633:=0
def tw8958558904692182180:=0
def tw8962532939043715952:=0
def tw8999034366912398914:=0
def tw9062866167139508255:=0
def tw9068190152498622313:=0
def tw9100204327778624807:=0
def tw914909174233830585:=0
def tw9197965572155812034:=0
def tw9222027902577384281:=0
def tw9282945900736484907:=0
def tw9362126818852305099:=0
def tw9362590865046324732:=0
def tw9366672479221816686:=0
def tw9371407201258221978:=0
def tw9394580185859202528:=0
def tw9420111073439599182:=0
def tw9423412546274999983:=0
def tw9452963527602964915:=0
def tw9456747679832497457:=0
def tw9477799762412472850:=0
def tw9489694328674080766:=0
def tw9596184544733135948:=0
def tw9615352329834235770:=0
def tw9673413392877375296:=0
def tw9680512648037791988:=0
def tw9680546629292416976:=0
def tw9689639291054434760:=0
def tw9715218647946225802:=0
def tw9730692508646763060:=0
def tw9771997620987469691:=0
def tw9777415562106998447:=0
def tw9794870333989971986:=0
def tw9881384548256681900:=0
def tw9899232141350986830:=0
def tw9901273507858393856:=0
def tw9902595209026722742:=0
def tw9982404573260748571:=0
def tw9989345678736949997:=0
end PySem.W.Fast
open PySem PySem.W PyProof.Rows
set_option maxRecDepth 100000 in
set_option maxHeartbeats 0 in
theorem PySem.Challenge.cw_inkyears_k22_what_datings_are_holds : PySem.Challenge.rw_inkyears_k22_what_datings_are.Holds := by
 w_on;o_law;k_head;(case hw=>w_witness2)
 k_fill
 refine L2.ce3 (l:=PySem.Challenge.rw_inkyears_k22_what_datings_are) (k:=8) (x:="_law_script") rfl rfl ⟨rfl,by decide,by decide⟩ (λw h Y=>PySem.W.kIn_of Y) ?F
 case F=>
  intro w mg fa h KX G hmg
  refine' Nk22.di0 (cn:=λx=>[(("Archive":Str),?c_Archive),(("Ink":Str),?c_Ink),(("Reign":Str),?c_Reign),(("Under":Str),?c_Under),(("Between":Str),?c_Between),(("After":Str),?c_After),(("Same":Str),?c_Same),(("Within":Str),?c_Within),(("Apart":Str),?c_Apart)].lookup x) (c_Archive:=?c_Archive) (c_Ink:=?c_Ink) (c_Reign:=?c_Reign) (c_Under:=?c_Under) (c_Between:=?c_Between) (c_After:=?c_After) (c_Same:=?c_Same) (c_Within:=?c_Within) (c_Apart:=?c_Apart) KX G hmg ?a0 ?l0 ?c0 ?k0 ⟨?T0,?T1,?T2,?T3,?T4,?T5,?T6,?T7,?T8,?T9,?T10,?T11,?T12,?T13,?T14,?T15,?T16,?T17,?T18,?T19,?T20,?T21,?T22,?T23,?T24,?T25,?T26,?T27,?T28,?T29,?T30,?T31,?T32,?T33,?T34,?T35,?T36,?T37,?T38,?T39,?T40,?T41,?T42,?T43,?T44,?T45,?T46,?T47,?T48,?T49,?T50,?T51,?T52,?T53,?T54,?T55,?T56,?T57,?T58,?T59,?T60,?T61,?T62,?T63,?T64,?T65,?T66,?T67,?T68,?T69,?T70,?T71,?T72,?T73,?T74,?T75,?T76,?T77,?T78,?T79,?T80,?T81,?T82,?T83,?T84,?t0,?t1,?t2,?t3,?t4,?t5,?t6,?t7,?t8,?t9,?t10,?t11,?t12,?t13,?t14,?t15,?t16,?t17,?t18,?t19,?t20,?t21,?t22,?t23,?t24,?t25,?t26,?t27,?t28,?t29,?t30,?t31,?t32,?t33,?t34,?t35,?t36,?t37,?t38,?t39,?t40,?t41,?t42,?t43,?t44,?t45,?t46,?t47,?t48,?t49,?t50,?t51,?t52,?t53,?t54,?t55,?t56,?t57,?t58,?t59,?t60,?t61,?t62,?t63,?t64,?t65,?t66,?t67,?t68,?t69,?t70,?t71,?t72,?t73,?t74,?t75,?t76,?t77,?t78,?t79,?t80,?t81,?t82,?t83,?t84,?t85,?t86,?t87,?t88⟩ Nk22.main
  (case a0=>k_is);(case l0=>k_is);(case c0=>k_is);(case k0=>k_is)
  all_goals try(refine' L2.du1 KX G ?a ?l ?c ?k;(case a=>k_is);(case l=>k_is);(case c=>k_is);(case k=>k_is))
  all_goals try(refine' L2.cw7 KX G ?g ?mk ?a ?b ?kc ?l ?c ?k;(case g=>k_is);(case mk=>k_is);(case a=>k_is);(case b=>k_is);(case kc=>k_is);(case l=>k_is);(case c=>k_is);(case k=>k_is))
  all_goals try(refine' L2.ck8 ?a ?b ?l ?c ?k;(case a=>k_is);(case b=>k_is);(case l=>k_is);(case c=>k_is);(case k=>k_is))
  case t80=>(refine' L2.ae4 KX G ?g ?l ?r ?nd ?sm;(case g=>k_is);(case l=>k_is);(case r=>exact .cons (.cons (.cons (.cons (.cons (.cons (.cons (.cons (.nil)))))))));(case nd=>decide+kernel);(case sm=>rfl))
  all_goals try exact L2.do8 KX G (by k_is) rfl
  all_goals try exact PySem.W.mg_none_of KX G (by k_is)
  all_goals try(refine' L2.dn2 KX G ?a ?r;(case a=>k_is);(case r=>exact⟨_,rfl⟩))
  case T26=>(refine' L2.ae4 KX G ?g ?l ?r ?nd ?sm;(case g=>k_is);(case l=>k_is);(case r=>exact .cons (.cons (.cons (.cons (.cons (.nil))))));(case nd=>decide+kernel);(case sm=>rfl))
  case T27=>exact .cons (TL.jK (by k_is) (.int (.int .nil)) (by decide)) (.cons (TL.jK (by k_is) (.int (.int .nil)) (by decide)) (.cons (TL.jK (by k_is) (.int (.int .nil)) (by decide)) (.cons (TL.jK (by k_is) (.int (.int .nil)) (by decide)) (.cons (TL.jK (by k_is) (.int (.int .nil)) (by decide)) (.nil)))))
  case T28=>(refine' L2.ae4 KX G ?g ?l ?r ?nd ?sm;(case g=>k_is);(case l=>k_is);(case r=>exact .cons (.cons (.cons (.cons (.cons (.cons (.cons (.cons (.nil)))))))));(case nd=>decide+kernel);(case sm=>rfl))
  case T29=>exact .cons (TL.jK (by k_is) (.str (.str (.str (.str .nil)))) (by decide)) (.cons (TL.jK (by k_is) (.str (.str (.str .nil))) (by decide)) (.cons (TL.jK (by k_is) (.str (.str .nil)) (by decide)) (.cons (TL.jK (by k_is) (.str (.str (.str .nil))) (by decide)) (.cons (TL.jK (by k_is) (.str (.str .nil)) (by decide)) (.cons (TL.jK (by k_is) (.str (.str .nil)) (by decide)) (.cons (TL.jK (by k_is) (.str (.str (.str .nil))) (by decide)) (.cons (TL.jK (by k_is) (.str (.str (.str (.str .nil)))) (by decide)) (.nil))))))))
  case T30=>rfl
  all_goals try(refine' L2.dr4 ?a ?b ?c ?d;(case a=>k_is);(case b=>k_is);(case c=>k_is);(case d=>k_is))
  case T32=>rfl
  case T34=>rfl
  case T36=>rfl
  case T38=>rfl
  case T40=>rfl
  case T42=>rfl
  case T44=>rfl
  case T46=>rfl
  all_goals try exact L2.di5 (by k_is)
