import PyProof.Rows.All
import Wide.All
import OpenK.AllK
import Wide.FinOn
import Lean
import PyProof.EqAt
import PyProof.EqKinds
import PyProof.TupleCall
import PySem.Challenge.RW_rootcourt_k34_what_is_a_form
set_option maxHeartbeats 4000000
set_option Elab.async false
set_option linter.all false
set_option maxRecDepth 100000
namespace L2
open PySem PySem.Spec PyProof.Rows
abbrev Key:=Sum Int Str
def Kq:Key->Value->Bool
  | .inl k,v=>Value.isInt k v
  | .inr x,v=>Value.isStrOf x v
def Wm (w:World):Key->Int
  | .inl k=>hashInt k
  | .inr x=>hashStr w x
theorem Av:∀ {k:Key}{v:Value},Kq k v=true->(∃i t,k=Sum.inl i/\v=Value.int i t)\/(∃x t,k=Sum.inr x/\v=Value.str x t)
  | .inl i,v,h=>by
    obtain⟨t,e⟩:=Value.isInt_shape (k:=i) (v:=v) h
    exact .inl ⟨i,t,rfl,e⟩
  | .inr x,v,h=>by
    obtain⟨t,e⟩:=Value.isStrOf_shape (x:=x) (v:=v) h
    exact .inr ⟨x,t,rfl,e⟩
theorem Ky (i:Int) (t:Tok):Kq (.inl i) (.int i t)=true:=by simp [Kq,Value.isInt]
theorem Ln (x:Str) (t:Tok):Kq (.inr x) (.str x t)=true:=by simp [Kq,Value.isStrOf]
theorem R3 (a b:Int):decide ((Sum.inl a:Key)=Sum.inl b)=(a==b):=by
  by_cases e:a=b
  . subst e;simp
  . have h:¬(Sum.inl a:Key)=Sum.inl b:=fun q=>e (Sum.inl.inj q)
    rw [decide_eq_false h]
    exact(beq_eq_false_iff_ne.mpr e).symm
theorem Ua (a b:Str):decide ((Sum.inr a:Key)=Sum.inr b)=decide (a=b):=by
  by_cases e:a=b
  . subst e;simp
  . have h:¬(Sum.inr a:Key)=Sum.inr b:=fun q=>e (Sum.inr.inj q)
    rw [decide_eq_false h,decide_eq_false e]
theorem T5 (a:Int) (b:Str):decide ((Sum.inl a:Key)=Sum.inr b)=false:=decide_eq_false (fun q=>nomatch q)
theorem Sv (a:Str) (b:Int):decide ((Sum.inr a:Key)=Sum.inl b)=false:=decide_eq_false (fun q=>nomatch q)
def Bb (prog:Program) (w:World):PySem.KeyKind prog w Key where
  is:=Kq
  hash:=Wm w
  inj:=fun v a b ha hb=>by
    rcases Av ha with⟨i,t,rfl,rfl⟩ | ⟨x,t,rfl,rfl⟩
    . rcases Av hb with⟨j,u,rfl,e⟩ | ⟨y,u,rfl,e⟩
      . injection e with e1 _;rw [e1]
      . exact nomatch e
    . rcases Av hb with⟨j,u,rfl,e⟩ | ⟨y,u,rfl,e⟩
      . exact nomatch e
      . injection e with e1 _;rw [e1]
  byValue:=fun k v h=>by
    rcases Av h with⟨i,t,rfl,rfl⟩ | ⟨x,t,rfl,rfl⟩<;>rfl
  pyHash:=fun hv h=>by
    rcases Av hv with⟨i,t,rfl,rfl⟩ | ⟨x,t,rfl,rfl⟩
    . exact wpAny_pyHash_int h
    . exact wpAny_pyHash_str h
  eqBool:=fun hu hv h=>by
    rcases Av hu with⟨i,t,rfl,rfl⟩ | ⟨x,t,rfl,rfl⟩
    . rcases Av hv with⟨j,u,rfl,rfl⟩ | ⟨y,u,rfl,rfl⟩
      . rw [R3]at h;exact wpAny_eqBool_int h
      . rw [T5]at h;exact SeqAt.EqAt.int_str i t y u _ _ _ _ h
    . rcases Av hv with⟨j,u,rfl,rfl⟩ | ⟨y,u,rfl,rfl⟩
      . rw [Sv]at h;exact SeqAt.EqAt.str_int x t j u _ _ _ _ h
      . rw [Ua]at h;exact wpAny_eqBool_str h
  «strs» :=fun k x t v h=>by
    rcases Av h with⟨i,u,rfl,e⟩ | ⟨y,u,rfl,e⟩
    . exact nomatch e
    . injection e with e1 _
      subst e1
      cases v<;>rfl
theorem Jg (prog:Program) (w:World) (i:Int) (t:Tok):(Bb prog w).is (.inl i) (.int i t)=true:=Ky i t
theorem Jf (prog:Program) (w:World) (x:Str) (t:Tok):(Bb prog w).is (.inr x) (.str x t)=true:=Ln x t
end L2
namespace L2
open PySem PySem.Spec PyProof.Rows
inductive V where
  | non | bl (b:Bool) | int (i:Int) | str (x:Str) | byt (b:Array UInt8) | flt (b:UInt64) | ref (a:Addr) | ty (n:String)
  deriving DecidableEq
def RelV:V->Value->Prop
  | .non,u=>u=Value.none
  | .bl b,u=>u=Value.bool b
  | .int i,u=>∃t,u=Value.int i t
  | .str x,u=>∃t,u=Value.str x t
  | .byt b,u=>∃t,u=Value.bytes b t
  | .flt b,u=>∃t,u=Value.float b t
  | .ref a,u=>u=Value.ref a
  | .ty n,u=>u=Value.type n
abbrev Vals:List V->List Value->Prop:=Paired RelV
theorem Vals.length {xs:List V}{us:List Value} (r:Vals xs us):xs.length=us.length:=Paired.length r
theorem Vals.get:∀ {xs:List V}{us:List Value}{i:Nat}{x:V},Vals xs us->xs[i]? =some x->∃u,us[i]? =some u/\RelV x u
  | _,_,_,_,.nil,e=>by simp at e
  | _,_,0,_,.cons r _,e=>by simp at e;subst e;exact⟨_,rfl,r⟩
  | _,_,i+1,x,.cons _ t,e=>by
    obtain⟨u,h1,h2⟩:=Vals.get (i:=i) (x:=x) t (by simpa using e)
    exact⟨u,by simpa using h1,h2⟩
theorem Vals.set {x:V}{u:Value} (r:RelV x u):∀ {xs:List V}{us:List Value} (i:Nat),Vals xs us->Vals (xs.set i x) (us.set i u)
  | _,_,_,.nil=> .nil
  | _,_,0,.cons _ t=> .cons r t
  | _,_,i+1,.cons q t=> .cons q (Vals.set r i t)
theorem Vals.append:∀ {xs ys:List V}{us ws:List Value},Vals xs us->Vals ys ws->Vals (xs++ys) (us++ws)
  | _,_,_,_,.nil,s=>s
  | _,_,_,_,.cons r t,s=> .cons r (Vals.append t s)
theorem Vals.take:∀ {xs:List V}{us:List Value} (n:Nat),Vals xs us->Vals (xs.take n) (us.take n)
  | _,_,0,_=> .nil
  | _,_,_+1,.nil=> .nil
  | _,_,n+1,.cons r t=> .cons r (Vals.take n t)
theorem Vals.drop:∀ {xs:List V}{us:List Value} (n:Nat),Vals xs us->Vals (xs.drop n) (us.drop n)
  | _,_,0,r=>r
  | _,_,_+1,.nil=> .nil
  | _,_,n+1,.cons _ t=>Vals.drop n t
def Ng:Option V->Option Value->Prop
  | some v,some u=>RelV v u
  | none,none=>True
  | _,_=>False
def KV {κ:Type}:List (κ × V)->List (κ × Value)->Prop:=Paired fun(p:κ × V) (q:κ × Value)=>p.1=q.1/\RelV p.2 q.2
def kV:Key->V
  | .inl i=> .int i
  | .inr x=> .str x
inductive HO where
  | lst (xs:List V)
  | tup (xs:List V)
  | dK (kvs:List (Key × V)) | dT (kvs:List (List Key × V))
  | set (S:Int->Bool) (n:Nat)
  | ins (C dx:Addr) (fs:List (Str × V))
  | own (x:Addr)
  | xd (fs:List (Str × V))
  | met (f x:Addr)
  | rng (lo hi:Int)
  | frz (o:Obj) (u:HO)
  | tbl (ps:Array Value)
  | ext (φ:Heap->Prop)
abbrev Hp:=Addr->Option HO
def upd (H:Hp) (a:Addr) (o:HO):Hp:=fun b=>if b=a then some o else H b
theorem Ad {H:Hp}{a:Addr}{o:HO}:upd H a o a=some o:=by unfold upd;rw [if_pos rfl]
theorem Al {H:Hp}{a b:Addr}{o:HO} (h:b≠a):upd H a o b=H b:=by unfold upd;rw [if_neg h]
theorem Ka {H:Hp}{a b:Addr}{o u:HO} (h:H a=some o) (h':H b=some u) (d:o≠u):a≠b:=by
  intro e;subst e;rw [h]at h';exact d (Option.some.inj h')
theorem Ai {H:Hp}{a b:Addr}{o:HO} (h:H a=some o) (h':H b=none):a≠b:=by
  intro e;subst e;rw [h]at h';cases h'
section
variable (P:Program) (w:World)
def Bd (H:Hp) (h:Heap) (a:Addr):HO->Prop
  | .lst xs=>xs.length<=sizeLine/\∃(its:List Value) (n:Nat),Vals xs its/\h.get? a=some { cls:= .type "list",data:= .seq its.toArray n}
  | .tup xs=>xs.length<=sizeLine/\∃its:List Value,Vals xs its/\IsTup h a its.toArray
  | .dK kvs=>kvs.length<=sizeLine/\(a==sysModules)=false/\∃vs,KV kvs vs/\h.DictOf (Bb P w) a vs
  | .dT kvs=>kvs.length<=sizeLine/\(a==sysModules)=false/\∃xs:List (List Key × Addr × Value),
      Paired (fun(p:List Key × V) (q:List Key × Addr × Value)=>p.1=q.1/\H q.2.1=some (.tup (p.1.map kV))/\RelV p.2 q.2.2) kvs xs/\
      ∃o es ep,h.get? a=some o/\o.ExactDict/\o.data= .dict es ep/\es.toList=xs.map (entryOfKey (tupleKind (Bb P w)))/\(xs.map (·.1)).Nodup
  | .set S n=>h.SetOf (intKind P w) a S n
  | .ins C dx fs=>H dx=some (.own a)/\fs.length<=1000/\dx≠a/\h.get? a=some (PySem.W.instObj C dx)/\
      ∃mA,h.Ns1 dx mA/\(∀f,Ng (fs.lookup f) (mA f))/\PySem.Within mA (fs.map (·.1))
  | .own _=>∃o,h.get? a=some o
  | .xd fs=>∃mA,h.Ns1 a mA/\∀f,Ng (fs.lookup f) (mA f)
  | .rng lo hi=>∃t u v,h.get? a=some { cls:= .type "range",data:= .fields #[.int lo t,.int hi u,.int 1 v]}
  | .frz o u=>h.get? a=some o/\Bd H h a u
  | .tbl ps=>h.get? a=some { cls:= .none,data:= .fields ps}
  | .met f x=>h.get? a=some (PySem.W.methodObj (.ref f) (.ref x))
  | .ext φ=>φ h/\(∃o,h.get? a=some o)/\∀h1 h2:Heap,φ h1->(∀o,h1.get? a=some o->h2.get? a=some o)->φ h2
def HOk (H:Hp) (h:Heap):Prop:=∀a o,H a=some o->Bd P w H h a o
end
section
variable {P:Program}{w:World}{H H':Hp}{h h':Heap}{a:Addr}{o:HO}
theorem Bd.lt (x:Bd P w H h a o):a<h.objs.size:=by
  cases o with
  | lst xs=>obtain⟨_,_,_,_,e⟩:=x;exact Heap.lt_size e
  | tup xs=>obtain⟨_,_,_,p⟩:=x;exact p.lt
  | dK kvs=>obtain⟨_,_,_,_,o,_,_,e,_⟩:=x;exact Heap.lt_size e
  | dT kvs=>obtain⟨_,_,_,_,o,_,_,e,_⟩:=x;exact Heap.lt_size e
  | set S n=>obtain⟨o,_,_,_,e,_⟩:=x;exact Heap.lt_size e
  | ins C dx fs=>obtain⟨_,_,_,e,_⟩:=x;exact Heap.lt_size e
  | own y=>obtain⟨_,e⟩:=x;exact Heap.lt_size e
  | xd fs=>obtain⟨_,⟨_,_,_,e,_⟩,_⟩:=x;exact Heap.lt_size e
  | rng lo hi=>obtain⟨_,_,_,e⟩:=x;exact Heap.lt_size e
  | frz ob u=>obtain⟨e,_⟩:=x;exact Heap.lt_size e
  | tbl ps=>exact Heap.lt_size (show h.get? a=some _ from x)
  | met f y=>exact Heap.lt_size (show h.get? a=some _ from x)
  | ext φ=>obtain⟨_,⟨_,e⟩,_⟩:=x;exact Heap.lt_size e
theorem Paired.mapP {α β:Type}{F G:α->β->Prop}:∀ {l₁:List α}{l₂:List β},Paired F l₁ l₂->(∀a b,F a b->G a b)->Paired G l₁ l₂
  | _,_,.nil,_=> .nil
  | _,_,.cons r t,f=> .cons (f _ _ r) (Paired.mapP t f)
theorem Bd.stay (x:Bd P w H h a o) (k:∀b u,(b=a\/H b=some (.own a))->h.get? b=some u->h'.get? b=some u)
    (ho:∀b,H b=some (.own a)->H' b=some (.own a)) (ht:∀b xs,H b=some (.tup xs)->H' b=some (.tup xs)):Bd P w H' h' a o:=by
  induction o with
  | lst xs=>obtain⟨z,its,n,r,e⟩:=x;exact⟨z,its,n,r,k _ _ (.inl rfl) e⟩
  | tup xs=>obtain⟨z,its,r,ob,e,c⟩:=x;exact⟨z,its,r,ob,k _ _ (.inl rfl) e,c⟩
  | dK kvs=>obtain⟨z,y,vs,r,ob,es,ep,e,c⟩:=x;exact⟨z,y,vs,r,ob,es,ep,k _ _ (.inl rfl) e,c⟩
  | dT kvs=>
    obtain⟨z,y,xs,r,ob,es,ep,e,c⟩:=x
    exact⟨z,y,xs,Paired.mapP r fun p q z=>⟨z.1,ht _ _ z.2.1,z.2.2⟩,ob,es,ep,k _ _ (.inl rfl) e,c⟩
  | set S n=>obtain⟨ob,es,ep,t,e,c⟩:=x;exact⟨ob,es,ep,t,k _ _ (.inl rfl) e,c⟩
  | ins C dx fs=>
    obtain⟨d,z,ne,e,mA,⟨od,es,ep,e2,c⟩,r⟩:=x
    exact⟨ho _ d,z,ne,k _ _ (.inl rfl) e,mA,⟨od,es,ep,k _ _ (.inr d) e2,c⟩,r⟩
  | own y=>obtain⟨ob,e⟩:=x;exact⟨ob,k _ _ (.inl rfl) e⟩
  | xd fs=>obtain⟨mA,⟨od,es,ep,e,c⟩,r⟩:=x;exact⟨mA,⟨od,es,ep,k _ _ (.inl rfl) e,c⟩,r⟩
  | rng lo hi=>obtain⟨t,u,v,e⟩:=x;exact⟨t,u,v,k _ _ (.inl rfl) e⟩
  | frz ob u ih=>obtain⟨e,q⟩:=x;exact⟨k _ _ (.inl rfl) e,ih q⟩
  | tbl ps=>
    have e:h.get? a=some { cls:= .none,data:= .fields ps}:=x
    show h'.get? a=some { cls:= .none,data:= .fields ps}
    exact k a _ (.inl rfl) e
  | met f y=>
    have e:h.get? a=some (PySem.W.methodObj (.ref f) (.ref y)):=x
    show h'.get? a=some (PySem.W.methodObj (.ref f) (.ref y))
    exact k a _ (.inl rfl) e
  | ext φ=>obtain⟨p,⟨o,e⟩,st⟩:=x;exact⟨st _ _ p fun o q=>k _ _ (.inl rfl) q,⟨o,k _ _ (.inl rfl) e⟩,st⟩
theorem HOk.lt (x:HOk P w H h) (e:H a=some o):a<h.objs.size:=(x a o e).lt
theorem HOk.fresh (x:HOk P w H h) (e:h.objs.size<=a):H a=none:=by
  cases q:H a with
  | none=>rfl
  | some u=>exact absurd (Nat.lt_of_lt_of_le (x.lt q) e) (Nat.lt_irrefl _)
theorem HOk.kept (x:HOk P w H h) (k:∀b u,h.get? b=some u->h'.get? b=some u):HOk P w H h':=fun a o e=>
  (x a o e).stay (fun b u _ q=>k b u q) (fun _ q=>q) fun _ _ q=>q
theorem HOk.laid (x:HOk P w H h) (k:∀b u,h.get? b=some u->h'.get? b=some u) (hp:h.objs.size<=a) (new:Bd P w (upd H a o) h' a o):HOk P w (upd H a o) h':=fun b u e=>by
  have hn:=x.fresh hp
  by_cases hb:b=a
  . subst hb;rw [Ad]at e;cases e;exact new
  . rw [Al hb]at e
    exact(x b u e).stay (fun c v _ q=>k c v q) (fun c q=>by rw [Al (Ai q hn)];exact q) fun c xs q=>by rw [Al (Ai q hn)];exact q
end
def Rd (H:Hp) (a:Addr) (u:HO):Prop:=H a=some u\/∃o,H a=some (.frz o u)
theorem Rd.of {H:Hp}{a:Addr}{u:HO} (h:H a=some u):Rd H a u:= .inl h
theorem Rd.ok {P:Program}{w:World}{H:Hp}{h:Heap}{a:Addr}{u:HO} (r:Rd H a u) (x:HOk P w H h):Bd P w H h a u:=by
  rcases r with r | ⟨o,r⟩
  . exact x a u r
  . obtain⟨_,q⟩:=x a _ r
    exact q
def Mut:Option HO->Prop
  | some (.lst _)=>True
  | some (.dK _)=>True
  | some (.dT _)=>True
  | some (.set _ _)=>True
  | some (.ins _ _ _)=>True
  | some (.ext _)=>True
  | _=>False
section
variable {P:Program}{w:World}{H:Hp}{h h':Heap}{x e:Addr}{o':HO}
theorem HOk.write (ok:HOk P w H h) (mu:Mut (H x)) (he:e=x\/H e=some (.own x)) (k:∀b u,b≠e->h.get? b=some u->h'.get? b=some u) (heo:∃u,h'.get? e=some u)
    (new:Bd P w (upd H x o') h' x o'):HOk P w (upd H x o') h':=fun b u q=>by
  have nown:∀c y,H c=some (.own y)->c≠x:=fun c y r z=>by subst z;rw [r]at mu;exact mu
  have ntup:∀c xs,H c=some (.tup xs)->c≠x:=fun c xs r z=>by subst z;rw [r]at mu;exact mu
  by_cases hb:b=x
  . subst hb;rw [Ad]at q;cases q;exact new
  . rw [Al hb]at q
    by_cases hbe:b=e
    . have q':H b=some (.own x):=by
        rcases he with z | z
        . exact absurd (hbe.trans z) hb
        . rw [hbe];exact z
      rw [q]at q';cases q'
      obtain⟨v,hv⟩:=heo
      exact⟨v,by rw [hbe];exact hv⟩
    . refine(ok b u q).stay (fun c v hc r=>k c v ?_ r) (fun c r=>by rw [Al (nown c b r)];exact r) fun c xs r=>by rw [Al (ntup c xs r)];exact r
      rcases hc with rfl | hc
      . exact hbe
      . rintro rfl
        rcases he with z | z
        . exact nown c b hc z
        . rw [hc]at z;cases z;exact hb rfl
end
structure Un (fs ex:List Addr) (H H':Hp) (h h':Heap):Prop where
  keep:∀b o,h.get? b=some o->H b=none->b∉fs->b∉ex->h'.get? b=some o
  slot:∀b o,h.get? b=some o->H b=none->b∈fs->b∉ex->∃sl,h'.get? b=some { o with slots:=sl}
  free:∀b o,h.get? b=some o->H b=none->b∉ex->H' b=none
  there:∀b o,h.get? b=some o->b∉ex->∃o',h'.get? b=some o'
  tups:∀b xs,H b=some (.tup xs)->H' b=some (.tup xs)
  frzs:∀b o u,H b=some (.frz o u)->H' b=some (.frz o u)
  tbls:∀b ps,H b=some (.tbl ps)->∃more,H' b=some (.tbl (ps++more))
section
variable {fs fs' ex ex':List Addr}{H H1 H2:Hp}{h h1 h2 h':Heap}{a x e:Addr}{o:HO}
theorem Un.any (u:Un fs ex H H1 h h1) {b:Addr}{ob:Obj} (q:h.get? b=some ob) (n:H b=none) (hx:b∉ex):∃sl,h1.get? b=some { ob with slots:=sl}:=by
  by_cases hb:b∈fs
  . exact u.slot b ob q n hb hx
  . exact⟨ob.slots,u.keep b ob q n hb hx⟩
theorem Un.trans (a:Un fs ex H H1 h h1) (b:Un fs ex H1 H2 h1 h2):Un fs ex H H2 h h2 where
  keep:=fun c ob q n hc hx=>b.keep c ob (a.keep c ob q n hc hx) (a.free c ob q n hx) hc hx
  slot:=fun c ob q n hc hx=>by
    obtain⟨sl,e1⟩:=a.slot c ob q n hc hx
    obtain⟨sl',e2⟩:=b.slot c _ e1 (a.free c ob q n hx) hc hx
    exact⟨sl',e2⟩
  free:=fun c ob q n hx=>by
    obtain⟨o',e1⟩:=a.there c ob q hx
    exact b.free c o' e1 (a.free c ob q n hx) hx
  there:=fun c ob q hx=>by
    obtain⟨o',e1⟩:=a.there c ob q hx
    exact b.there c o' e1 hx
  tups:=fun c xs q=>b.tups c xs (a.tups c xs q)
  frzs:=fun c ob xs q=>b.frzs c ob xs (a.frzs c ob xs q)
  tbls:=fun c ps q=>by
    obtain⟨m1,e1⟩:=a.tbls c ps q
    obtain⟨m2,e2⟩:=b.tbls c _ e1
    exact⟨m1++m2,by rw [e2,Array.append_assoc]⟩
theorem Un.kept (k:∀b u,h.get? b=some u->h'.get? b=some u):Un fs ex H H h h':=
  ⟨fun b ob q _ _ _=>k b ob q,fun b ob q _ _ _=>⟨ob.slots,k b ob q⟩,fun _ _ _ n _=>n,fun b ob q _=>⟨ob,k b ob q⟩,fun _ _ q=>q,fun _ _ _ q=>q,fun _ ps q=>⟨#[],by rw [q];simp⟩⟩
theorem Un.refl:Un fs ex H H h h:=Un.kept fun _ _ q=>q
theorem Un.laid (k:∀b u,h.get? b=some u->h'.get? b=some u) (hp:h.objs.size<=a) (hn:H a=none):Un fs ex H (upd H a o) h h' where
  keep:=fun b u q _ _ _=>k b u q
  slot:=fun b u q _ _ _=>⟨u.slots,k b u q⟩
  free:=fun b u q n _=>by rw [Al (Nat.ne_of_lt (Nat.lt_of_lt_of_le (Heap.lt_size q) hp))];exact n
  there:=fun b u q _=>⟨u,k b u q⟩
  tups:=fun b xs q=>by rw [Al (Ai q hn)];exact q
  frzs:=fun b u xs q=>by rw [Al (Ai q hn)];exact q
  tbls:=fun b ps q=>⟨#[],by rw [Al (Ai q hn),q];simp⟩
theorem Un.write (mu:Mut (H x)) (he:e=x\/H e=some (.own x)) (k:∀b u,b≠e->h.get? b=some u->h'.get? b=some u) (heo:∃u,h'.get? e=some u):Un fs ex H (upd H x o) h h':=by
  have hx:∀b,H b=none->b≠x:=fun b n z=>by subst z;rw [n]at mu;exact mu
  have hb:∀b,H b=none->b≠e:=fun b n z=>by
    subst z
    rcases he with r | r
    . exact hx b n r
    . rw [n]at r;cases r
  have hm:∀b u,H b=some u->¬Mut (some u)->b≠x:=fun b u q nm z=>by subst z;rw [q]at mu;exact nm mu
  refine⟨fun b u q n _ _=>k b u (hb b n) q,fun b u q n _ _=>⟨u.slots,k b u (hb b n) q⟩,fun b u q n _=>by rw [Al (hx b n)];exact n,fun b u q _=> ?_,
    fun b xs q=>by rw [Al (hm b _ q fun z=>z)];exact q,fun b u xs q=>by rw [Al (hm b _ q fun z=>z)];exact q,fun b ps q=>⟨#[],by rw [Al (hm b _ q fun z=>z),q];simp⟩⟩
  by_cases hbe:b=e
  . subst hbe;exact heo
  . exact⟨u,k b u hbe q⟩
theorem Un.mono (u:Un fs ex H H1 h h1) (hs:∀b∈fs,b∈fs') (hx:∀b∈ex,b∈ex'):Un fs' ex' H H1 h h1:=
  ⟨fun b ob q n hb he=>u.keep b ob q n (fun z=>hb (hs b z)) fun z=>he (hx b z),fun _ _ q n _ he=>u.any q n fun z=>he (hx _ z),fun b ob q n he=>u.free b ob q n fun z=>he (hx b z),fun b ob q he=>u.there b ob q fun z=>he (hx b z),u.tups,u.frzs,u.tbls⟩
end
def trk (h:Heap) (H:Hp):List Addr:=(List.range h.objs.size).filter fun a=>(H a).isSome
def Nx (h:Heap) (H:Hp):Heap:=PySem.W.hideAll h (trk h H)
theorem Mq (h:Heap) (H:Hp):(Nx h H).objs.size=h.objs.size:=PySem.W.hideAll_size _ _
theorem Nm {h:Heap}{H:Hp}{b:Addr}{o:Obj} (e:h.get? b=some o) (n:H b=none):(Nx h H).get? b=some o:=
  PySem.W.hideAll_get _ e fun hm=>by
    have q:(H b).isSome=true:=(List.mem_filter.mp hm).2
    rw [n]at q;simp at q
theorem Qe {h:Heap}{H:Hp}{b:Addr}{o:Obj} (e:(Nx h H).get? b=some o):h.get? b=some o/\H b=none:=by
  have e':h.get? b=some o:=PySem.W.of_hideAll (trk h H) e
  refine⟨e',?_⟩
  cases q:H b with
  | none=>rfl
  | some x=>
    have hm:b∈trk h H:=List.mem_filter.mpr ⟨List.mem_range.mpr (Heap.lt_size e'),by simp [q]⟩
    have z:(Nx h H).get? b=none:=PySem.W.hideAll_none (trk h H) hm
    rw [z]at e;cases e
def Q9 (g h:Heap) (L:Addr):List (Addr × Obj):=(List.range h.objs.size).filterMap fun a=>if a=L\/(g.get? a).isSome=true then none else(h.get? a).map fun o=>(a,o)
def rest (g h:Heap) (L d:Addr):List (Addr × Obj):=(Q9 g h L).filter fun p=>decide (p.1≠d)
end L2
namespace L2
open PySem PySem.Spec PyProof.Rows
structure Mod (K:PySem.W.Frag) (mg:Str->Option Value) (base:Heap):Prop where
  kin:K.In base
  glob:base.Ns mainGlobals mg
  blt:∃mb,base.Ns builtinsNs mb/\∀x:Str,x≠"__name__"->mb x=bootBuiltins x
  nolimit:base.NoLimit
structure Cx where
  prog:Program
  w:World
  K:PySem.W.Frag
  mg:Str->Option Value
  base:Heap
  A:Around
  N:List Str
  s₀:Shared
  H₀:Hp
  env:Env
  outer:List Env
  stack:List Env
  ex:List Addr
  fn:Str->Bool
  calm:Bool
  pn:List (Addr × Obj)
  xe:Value->Shared->Prop
def frs (l:List Env):List Addr:=l.filterMap (·.frame)
abbrev Cx.fs (X:Cx):List Addr:=frs X.outer
def Vis (sc:Scope) (x:Str):Prop:=sc.names.lookup x=some .local \/sc.names.lookup x=some .cell\/sc.names.lookup x=some .free
def Loc (sc:Scope) (x:Str):Prop:=sc.names.lookup x=some .local \/sc.names.lookup x=some .cell
def Look (env:Env) (h:Heap) (m:Str->Option Value) (x:Str) (u:Value):Prop:=
  (env.kindOf x=some .local /\m x=some u)\/((env.kindOf x=some .cell\/env.kindOf x=some .free)/\∃c,env.cells.lookup x=some c/\h.IsCell c (some u))
structure Cx.Ok (X:Cx):Prop where
  mod:Mod X.K X.mg X.base
  kind:X.env.scope.kind= .function
  glob:X.env.globals=mainGlobals
  blt:X.env.builtins=builtinsNs
  above:X.s₀.heap.objs.size<=X.env.locals
  inj:∀x y c,X.env.cells.lookup x=some c->X.env.cells.lookup y=some c->x=y
  has:∀x,(X.env.kindOf x=some .cell\/X.env.kindOf x=some .free)->∃c,X.env.cells.lookup x=some c
  cab:∀x c,X.fn x=true->X.env.cells.lookup x=some c->X.s₀.heap.objs.size<=c
  hd:X.calm=true->X.A.handled=none
  frames:X.A.frames=some X.stack
  stk:X.stack=X.outer\/(X.stack=X.env::X.outer/\X.env.frame=some X.env.locals)
  exf:∀b∈X.ex,b≠X.env.locals/\∀x c,X.env.cells.lookup x=some c->c≠b
  bs:∀b o,X.base.get? b=some o->X.s₀.heap.get? b=some o/\X.H₀ b=none
  bsz:X.base.objs.size<=X.s₀.heap.objs.size
  noex:∀b o,X.base.get? b=some o->b∉X.ex
  exfs:∀b∈X.ex,b∉X.fs
  funs:X.s₀.heap.FunFrames X.base X.outer
  frf:∀b∈X.fs,X.H₀ b=none
structure Inv (X:Cx) (pins:List (Addr × Obj)) (σ:List (Option V)) (H:Hp) (s:Shared):Prop where
  ok:X.Ok
  os:s.os=X.s₀.os
  bare:AllBare s.gens
  base:Un X.fs X.ex X.H₀ H X.s₀.heap s.heap
  loc:∃m,s.heap.Ns X.env.locals m/\∀(i:Nat) (x:Str) (v:V),X.N[i]? =some x->σ[i]? =some (some v)->Vis X.env.scope x->∃u,RelV v u/\Look X.env s.heap m x u
  cell:∀x c,X.env.cells.lookup x=some c->∃v,s.heap.IsCell c v
  free:H X.env.locals=none
  freeC:∀x c,X.env.cells.lookup x=some c->H c=none
  pin:∀p∈X.pn++pins,s.heap.get? p.1=some p.2/\H p.1=none/\p.1≠X.env.locals/\p.1∉X.fs/\∀v,p.2.data≠ .cell v
  hok:HOk X.prog X.w H s.heap
  len:σ.length=X.N.length
section
variable {X:Cx}{pins:List (Addr × Obj)}{σ:List (Option V)}{H H':Hp}{s:Shared}{h':Heap}
theorem Cx.Ok.nofr (ok:X.Ok) {b:Addr}{o:Obj} (e:X.base.get? b=some o):b∉X.fs:=fun hb=>by
  have:=(ok.funs.mem hb).1
  rw [e]at this;cases this
theorem Inv.bs (I:Inv X pins σ H s):∀b o,X.base.get? b=some o->s.heap.get? b=some o/\H b=none:=fun b o e=>
  ⟨I.base.keep b o (I.ok.bs b o e).1 (I.ok.bs b o e).2 (I.ok.nofr e) (I.ok.noex b o e),I.base.free b o (I.ok.bs b o e).1 (I.ok.bs b o e).2 (I.ok.noex b o e)⟩
theorem Inv.bk (I:Inv X pins σ H s):∀b o,X.base.get? b=some o->s.heap.get? b=some o:=fun b o e=>(I.bs b o e).1
theorem Inv.mod (I:Inv X pins σ H s):Mod X.K X.mg X.base:=I.ok.mod
theorem Inv.kIn (I:Inv X pins σ H s):X.K.In s.heap:=I.ok.mod.kin.keeps I.bk
theorem Inv.nolimit (I:Inv X pins σ H s):s.heap.NoLimit:=I.ok.mod.nolimit.keeps I.bk
theorem Inv.fr (I:Inv X pins σ H s):∃m,Fr X.base X.env.locals s.heap m:=
  let ⟨m,hn,_⟩:=I.loc
  ⟨m,hn,I.bk,Nat.le_trans I.ok.bsz I.ok.above⟩
theorem Inv.lt (I:Inv X pins σ H s):X.env.locals<s.heap.objs.size:=let ⟨_,hn,_⟩:=I.loc;hn.lt
theorem Inv.sz (I:Inv X pins σ H s):X.s₀.heap.objs.size<=s.heap.objs.size:=Nat.le_trans I.ok.above (Nat.le_of_lt I.lt)
theorem Inv.nofs (I:Inv X pins σ H s) {a:Addr} (h:s.heap.objs.size<=a):a∉X.fs:=fun hb=>by
  obtain⟨_,o,ho,_⟩:=I.ok.funs.mem hb
  exact absurd (Nat.lt_of_lt_of_le (Heap.lt_size ho) (Nat.le_trans I.sz h)) (Nat.lt_irrefl _)
theorem Inv.cne (I:Inv X pins σ H s):∀x c,X.env.cells.lookup x=some c->c≠X.env.locals:=fun x c e z=>by
  obtain⟨v,o,ho,hd⟩:=I.cell x c e
  obtain⟨m,⟨o',es,ep,ho',hd',_⟩,_⟩:=I.loc
  rw [z,ho']at ho;cases ho;rw [hd']at hd;cases hd
theorem Inv.funs (I:Inv X pins σ H s):s.heap.FunFrames X.base X.outer:=by
  have all:∀(l:List Env),(∀b∈frs l,b∈X.fs)->X.s₀.heap.FunFrames X.base l->s.heap.FunFrames X.base l:=by
    intro l
    induction l with
    | nil=>intro _ _;trivial
    | cons env r ih=>
      intro hs hl
      obtain⟨hk,⟨L,o,hf,hn,ho,hd⟩,hr⟩:=hl
      have hL:L∈X.fs:=hs L (by unfold frs;rw [List.filterMap_cons,hf];exact List.mem_cons_self)
      obtain⟨sl,e⟩:=I.base.slot L o ho (I.ok.frf L hL) hL fun z=>I.ok.exfs L z hL
      exact⟨hk,⟨L,_,hf,hn,e,hd⟩,ih (fun b hb=>hs b (by unfold frs;rw [List.filterMap_cons,hf];exact List.mem_cons_of_mem _ hb)) hr⟩
  exact all X.outer (fun _ hb=>hb) I.ok.funs
theorem Inv.stack (I:Inv X pins σ H s):s.heap.FunFrames X.base X.stack:=by
  rcases I.ok.stk with e | ⟨e,hf⟩
  . rw [e];exact I.funs
  . rw [e]
    obtain⟨m,hn,_⟩:=I.loc
    refine .cons (by rw [I.ok.kind];decide) hf hn ?_ I.funs
    exact Heap.get?_none_of_le (Nat.le_trans I.ok.bsz I.ok.above)
theorem Inv.stkSub (I:Inv X pins σ H s):∀b∈frs X.stack,b∈X.env.locals::X.fs:=fun b hb=>by
  rcases I.ok.stk with e | ⟨e,hf⟩
  . rw [e]at hb;exact List.mem_cons_of_mem _ hb
  . rw [e]at hb
    unfold frs at hb
    rw [List.filterMap_cons,hf]at hb
    exact hb
theorem Inv.stkFree (I:Inv X pins σ H s):∀b∈frs X.stack,H b=none:=fun b hb=>by
  rcases List.mem_cons.mp (I.stkSub b hb)with e | hb
  . rw [e];exact I.free
  . obtain⟨_,o,ho,_⟩:=I.ok.funs.mem hb
    exact I.base.free b o ho (I.ok.frf b hb) fun z=>I.ok.exfs b z hb
theorem Inv.step {g':Array GenState}{t':Nat}{d':Drawn}{ch:List Addr} (I:Inv X pins σ H s)
    (hch:∀b∈ch,(b∈X.ex\/X.s₀.heap.objs.size<=b)/\b≠X.env.locals/\(∀x c,X.env.cells.lookup x=some c->c≠b)/\∀p∈X.pn++pins,p.1≠b)
    (keep:∀b o,b≠X.env.locals->b∉X.fs->b∉ch->s.heap.get? b=some o->H b=none->h'.get? b=some o)
    (slot:∀b o,b≠X.env.locals->b∈X.fs->b∉ch->s.heap.get? b=some o->H b=none->∃sl,h'.get? b=some { o with slots:=sl}) (free:∀b o,b∉ch->s.heap.get? b=some o->H b=none->H' b=none)
    (there:∀b o,b∉ch->s.heap.get? b=some o->∃o',h'.get? b=some o')
    (tups:∀b xs,H b=some (.tup xs)->H' b=some (.tup xs)) (frzs:∀b o u,H b=some (.frz o u)->H' b=some (.frz o u)) (tbls:∀b ps,H b=some (.tbl ps)->∃more,H' b=some (.tbl (ps++more)))
    (ns:∀m,s.heap.Ns X.env.locals m->h'.Ns X.env.locals m) (hok:HOk X.prog X.w H' h') (hg:AllBare g'):
    Inv X pins σ H' { s with heap:=h',gens:=g',drawn:=d',toks:=t'}:=by
  have neL:∀b o,X.s₀.heap.get? b=some o->b≠X.env.locals:=fun b o e=>Nat.ne_of_lt (Nat.lt_of_lt_of_le (Heap.lt_size e) I.ok.above)
  have neC:∀b o,X.s₀.heap.get? b=some o->b∉X.ex->b∉ch:=fun b o e hx hb=>by
    rcases(hch b hb).1 with z | z
    . exact hx z
    . exact absurd (Nat.lt_of_lt_of_le (Heap.lt_size e) z) (Nat.lt_irrefl _)
  have cellK:∀x c,X.env.cells.lookup x=some c->∀v,s.heap.IsCell c v->h'.IsCell c v:=fun x c e v ⟨o,ho,hd⟩=>by
    have nch:c∉ch:=fun z=>(hch c z).2.2.1 x c e rfl
    by_cases hc:c∈X.fs
    . obtain⟨sl,q⟩:=slot c o (I.cne x c e) hc nch ho (I.freeC x c e)
      exact⟨_,q,hd⟩
    . exact⟨o,keep c o (I.cne x c e) hc nch ho (I.freeC x c e),hd⟩
  refine⟨I.ok,I.os,hg,⟨fun b o e n hb hx=> ?_,fun b o e n hb hx=> ?_,fun b o e n hx=> ?_,fun b o e hx=> ?_,fun b xs e=>tups b xs (I.base.tups b xs e),fun b o xs e=>frzs b o xs (I.base.frzs b o xs e),fun b ps e=> ?_⟩,?_,fun x c e=> ?_,?_,fun x c e=> ?_,fun p hp=> ?_,hok,I.len⟩
  . exact keep b o (neL b o e) hb (neC b o e hx) (I.base.keep b o e n hb hx) (I.base.free b o e n hx)
  . obtain⟨sl,e1⟩:=I.base.slot b o e n hb hx
    obtain⟨sl',e2⟩:=slot b _ (neL b o e) hb (neC b o e hx) e1 (I.base.free b o e n hx)
    exact⟨sl',e2⟩
  . obtain⟨o',e1⟩:=I.base.there b o e hx
    exact free b o' (neC b o e hx) e1 (I.base.free b o e n hx)
  . obtain⟨o',e1⟩:=I.base.there b o e hx
    exact there b o' (neC b o e hx) e1
  . obtain⟨m1,e1⟩:=I.base.tbls b ps e
    obtain⟨m2,e2⟩:=tbls b _ e1
    exact⟨m1++m2,by rw [e2,Array.append_assoc]⟩
  . obtain⟨m,hn,hl⟩:=I.loc
    refine⟨m,ns m hn,fun i x v e1 e2 e3=> ?_⟩
    obtain⟨u,r,l⟩:=hl i x v e1 e2 e3
    refine⟨u,r,?_⟩
    rcases l with l | ⟨k,c,e,z⟩
    . exact .inl l
    . exact .inr ⟨k,c,e,cellK x c e _ z⟩
  . obtain⟨v,z⟩:=I.cell x c e
    exact⟨v,cellK x c e v z⟩
  . obtain⟨m,⟨o,_,_,ho,_⟩,_⟩:=I.loc
    exact free _ o (fun z=>(hch _ z).2.1 rfl) ho I.free
  . obtain⟨v,o,ho,hd⟩:=I.cell x c e
    exact free c o (fun z=>(hch c z).2.2.1 x c e rfl) ho (I.freeC x c e)
  . obtain⟨e,n,ne,nf,d⟩:=I.pin p hp
    have nch:p.1∉ch:=fun z=>(hch p.1 z).2.2.2 p hp rfl
    exact⟨keep p.1 p.2 ne nf nch e n,free p.1 p.2 nch e n,ne,nf,d⟩
theorem Inv.un {t':Nat} (I:Inv X pins σ H s) (u:Un X.fs [] H H' s.heap h') (hok:HOk X.prog X.w H' h'):Inv X pins σ H' { s with heap:=h',toks:=t'}:=by
  obtain⟨m,⟨o,es,ep,ho,r⟩,_⟩:=id I.loc
  obtain⟨sl,hL⟩:=u.any ho I.free (by simp)
  exact I.step (g':=s.gens) (d':=s.drawn) (ch:=[]) (fun _ z=>nomatch z) (fun b o _ hb _ e n=>u.keep b o e n hb (by simp)) (fun b o _ hb _ e n=>u.slot b o e n hb (by simp)) (fun b o _ e n=>u.free b o e n (by simp)) (fun b o _ e=>u.there b o e (by simp)) u.tups u.frzs u.tbls (fun m' hm=>by
    obtain⟨o',es',ep',ho',r'⟩:=hm
    rw [ho]at ho';cases ho'
    exact⟨_,es',ep',hL,r'⟩) hok I.bare
theorem Inv.call {g':Array GenState}{t':Nat}{d':Drawn}{ch:List Addr} (I:Inv X pins σ H s) (u:Un (frs X.stack) ch H H' s.heap h') (hok:HOk X.prog X.w H' h') (hg:AllBare g')
    (hch:∀b∈ch,(b∈X.ex\/X.s₀.heap.objs.size<=b)/\b≠X.env.locals/\(∀x c,X.env.cells.lookup x=some c->c≠b)/\∀p∈X.pn++pins,p.1≠b):
    Inv X pins σ H' { s with heap:=h',gens:=g',drawn:=d',toks:=t'}:=by
  obtain⟨m,⟨o,es,ep,ho,r⟩,_⟩:=id I.loc
  obtain⟨sl,hL⟩:=u.any ho I.free fun z=>(hch _ z).2.1 rfl
  exact I.step (ch:=ch) hch (fun b o hL hb hc e n=>u.keep b o e n (fun z=>(List.mem_cons.mp (I.stkSub b z)).elim hL hb) hc) (fun b o _ _ hc e n=>u.any e n hc) (fun b o hc e n=>u.free b o e n hc) (fun b o hc e=>u.there b o e hc) u.tups u.frzs u.tbls (fun m' hm=>by
    obtain⟨o',es',ep',ho',r'⟩:=hm
    rw [ho]at ho';cases ho'
    exact⟨_,es',ep',hL,r'⟩) hok hg
theorem Inv.turned {t':Nat}{it:Addr} (I:Inv X pins σ H s) (k:∀b o,b≠it->s.heap.get? b=some o->h'.get? b=some o) (hn:H it=none) (hL:it≠X.env.locals)
    (h1:it∈X.ex\/X.s₀.heap.objs.size<=it) (h2:∀x c,X.env.cells.lookup x=some c->c≠it) (h3:∀p∈X.pn++pins,p.1≠it):Inv X pins σ H { s with heap:=h',toks:=t'}:=by
  have nit:∀b u,H b=some u->b≠it:=fun b u e z=>by rw [z,hn]at e;cases e
  refine I.step (g':=s.gens) (d':=s.drawn) (ch:=[it]) (fun b hb=> ?_) (fun b o _ _ hc e _=>k b o (fun z=>hc (by simp [z])) e) (fun b o _ _ hc e _=>⟨o.slots,k b o (fun z=>hc (by simp [z])) e⟩) (fun _ _ _ _ n=>n)
    (fun b o hc e=>⟨o,k b o (fun z=>hc (by simp [z])) e⟩) (fun _ _ e=>e) (fun _ _ _ e=>e) (fun b ps e=>⟨#[],by rw [e];simp⟩) (fun m hm=> ?_) (fun b u e=> ?_) I.bare
  . have e:b=it:=by simpa using hb
    subst e
    exact⟨h1,hL,h2,h3⟩
  . obtain⟨o,es,ep,ho,r⟩:=hm
    exact⟨o,es,ep,k _ o (Ne.symm hL) ho,r⟩
  . refine(I.hok b u e).stay (fun c v hc q=>k c v ?_ q) (fun _ q=>q) fun _ _ q=>q
    rcases hc with z | z
    . rw [z];exact nit b u e
    . exact nit c _ z
theorem Inv.tok (I:Inv X pins σ H s) (t:Nat):Inv X pins σ H { s with toks:=t}:=I.un (h':=s.heap) (t':=t) Un.refl I.hok
theorem Inv.kept {t':Nat} (I:Inv X pins σ H s) (k:∀b u,s.heap.get? b=some u->h'.get? b=some u):Inv X pins σ H { s with heap:=h',toks:=t'}:=I.un (Un.kept k) (I.hok.kept k)
theorem Inv.laid {a:Addr}{o:HO}{t':Nat} (I:Inv X pins σ H s) (k:∀b u,s.heap.get? b=some u->h'.get? b=some u) (hp:s.heap.objs.size<=a) (new:Bd X.prog X.w (upd H a o) h' a o):
    Inv X pins σ (upd H a o) { s with heap:=h',toks:=t'}:=I.un (Un.laid k hp (I.hok.fresh hp)) (I.hok.laid k hp new)
theorem Inv.write {x e:Addr}{o:HO}{t':Nat} (I:Inv X pins σ H s) (mu:Mut (H x)) (he:e=x\/H e=some (.own x)) (k:∀b u,b≠e->s.heap.get? b=some u->h'.get? b=some u) (heo:∃u,h'.get? e=some u)
    (new:Bd X.prog X.w (upd H x o) h' x o):Inv X pins σ (upd H x o) { s with heap:=h',toks:=t'}:=I.un (Un.write mu he k heo) (I.hok.write mu he k heo new)
theorem Inv.pins_of {pins':List (Addr × Obj)} (I:Inv X pins σ H s) (h:∀p∈pins',s.heap.get? p.1=some p.2/\H p.1=none/\p.1≠X.env.locals/\p.1∉X.fs/\∀v,p.2.data≠ .cell v):Inv X pins' σ H s:=
  ⟨I.ok,I.os,I.bare,I.base,I.loc,I.cell,I.free,I.freeC,fun p hp=>(List.mem_append.mp hp).elim (fun z=>I.pin p (List.mem_append_left _ z)) (h p),I.hok,I.len⟩
theorem J2 {N:List Str} (hN:N.Nodup) {i j:Nat}{x:Str} (a:N[i]? =some x) (b:N[j]? =some x):i=j:=by
  obtain⟨h1,e1⟩:=List.getElem?_eq_some_iff.mp a
  obtain⟨h2,e2⟩:=List.getElem?_eq_some_iff.mp b
  exact(List.getElem_inj hN).mp (e1.trans e2.symm)
theorem Mz {M:Model}{A:Around}{E:Value->Shared->Prop}{i:Nat}{x:Str}{v:V}{u:Value}{Q:Unit->Shared->Prop} (I:Inv X pins σ H s) (hN:X.N.Nodup) (hi:X.N[i]? =some x) (hx:Loc X.env.scope x) (r:RelV v u)
    (h:∀s',Inv X pins (σ.set i (some v)) H s'->(∃a,Heap.SameBut a s.heap s'.heap/\(a=X.env.locals\/X.env.cells.lookup x=some a))->Q () s') (hf:X.fn x=true\/X.env.scope.names.lookup x=some .local :=by first | exact .inl rfl | exact .inr rfl | assumption):wpAny M A (storeName X.env x u) Q E s:=by
  obtain⟨m,hn,hl⟩:=id I.loc
  have hcls:(X.env.scope.kind== .class||(X.env.scope.kind== .module&&X.env.locals != X.env.globals))=false:=by rw [I.ok.kind];rfl
  have hiσ:i<σ.length:=by rw [I.len];exact(List.getElem?_eq_some_iff.mp hi).1
  have cne:=I.cne
  have tracked:∀ {a:Addr}{h':Heap},(∃o,s.heap.get? a=some o/\H a=none)->Heap.SameBut a s.heap h'->HOk X.prog X.w H h':=fun {a h'} ha hs b ob e=>by
    obtain⟨_,_,hfree⟩:=ha
    refine(I.hok b ob e).stay (fun c w' hc q=>(hs.2 c ?_).trans q) (fun _ q=>q) fun _ _ q=>q
    rintro rfl
    rcases hc with rfl | hc
    . rw [hfree]at e;cases e
    . rw [hfree]at hc;cases hc
  rcases hx with hk | hk
  . refine wpAny_storeName_local hk hn (fun h' hn' hs=> ?_) hcls
    obtain⟨oL,_,_,hoL,_⟩:=id hn
    refine h _ ⟨I.ok,I.os,I.bare,⟨fun b o e n hb hx=> ?_,fun b o e n hb hx=> ?_,I.base.free,fun b o e hx=> ?_,I.base.tups,I.base.frzs,I.base.tbls⟩,⟨_,hn',fun j y v' e1 e2 e3=> ?_⟩,fun y c e=> ?_,I.free,I.freeC,fun p hp=> ?_,tracked ⟨oL,hoL,I.free⟩ hs,by simpa using I.len⟩ ⟨_,hs,.inl rfl⟩
    . exact(hs.2 b (Nat.ne_of_lt (Nat.lt_of_lt_of_le (Heap.lt_size e) I.ok.above))).trans (I.base.keep b o e n hb hx)
    . obtain⟨sl,e1⟩:=I.base.slot b o e n hb hx
      exact⟨sl,(hs.2 b (Nat.ne_of_lt (Nat.lt_of_lt_of_le (Heap.lt_size e) I.ok.above))).trans e1⟩
    . obtain⟨o',e1⟩:=I.base.there b o e hx
      exact⟨o',(hs.2 b (Nat.ne_of_lt (Nat.lt_of_lt_of_le (Heap.lt_size e) I.ok.above))).trans e1⟩
    . by_cases hj:j=i
      . subst hj
        rw [hi]at e1;cases e1
        rw [List.getElem?_set_self hiσ]at e2
        cases e2
        exact⟨u,r,.inl ⟨hk,by simp⟩⟩
      . rw [List.getElem?_set_ne (Ne.symm hj)]at e2
        obtain⟨u',r',q⟩:=hl j y v' e1 e2 e3
        refine⟨u',r',?_⟩
        rcases q with⟨k,e⟩ | ⟨k,c,e,z⟩
        . refine .inl ⟨k,?_⟩
          have:y≠x:=fun e=>hj (J2 hN e1 (e▸hi))
          simp [this,e]
        . exact .inr ⟨k,c,e,z.sameBut hs (cne y c e)⟩
    . obtain⟨w',z⟩:=I.cell y c e
      exact⟨w',z.sameBut hs (cne y c e)⟩
    . obtain⟨e,n,ne,nf,d⟩:=I.pin p hp
      exact⟨(hs.2 p.1 ne).trans e,n,ne,nf,d⟩
  . have hfn:X.fn x=true:=by
      rcases hf with z | z
      . exact z
      . rw [z]at hk;cases hk
    obtain⟨c,hc⟩:=I.ok.has x (.inl hk)
    obtain⟨w',z⟩:=I.cell x c hc
    refine wpAny_storeName_cell I.ok.kind hk hc z (fun h' hc' hs=> ?_)
    obtain⟨oc,hoc,hocd⟩:=id z
    refine h { s with heap:=h'} ⟨I.ok,I.os,I.bare,⟨fun b o e n hb hx=> ?_,fun b o e n hb hx=> ?_,I.base.free,fun b o e hx=> ?_,I.base.tups,I.base.frzs,I.base.tbls⟩,⟨m,hn.sameBut hs (Ne.symm (cne x c hc)),fun j y v' e1 e2 e3=> ?_⟩,fun y c' e=> ?_,I.free,I.freeC,fun p hp=> ?_,tracked ⟨oc,hoc,I.freeC x c hc⟩ hs,by simpa using I.len⟩ ⟨c,hs,.inr hc⟩
    . exact(hs.2 b (Nat.ne_of_lt (Nat.lt_of_lt_of_le (Heap.lt_size e) (I.ok.cab x c hfn hc)))).trans (I.base.keep b o e n hb hx)
    . obtain⟨sl,e1⟩:=I.base.slot b o e n hb hx
      exact⟨sl,(hs.2 b (Nat.ne_of_lt (Nat.lt_of_lt_of_le (Heap.lt_size e) (I.ok.cab x c hfn hc)))).trans e1⟩
    . obtain⟨o',e1⟩:=I.base.there b o e hx
      exact⟨o',(hs.2 b (Nat.ne_of_lt (Nat.lt_of_lt_of_le (Heap.lt_size e) (I.ok.cab x c hfn hc)))).trans e1⟩
    . by_cases hj:j=i
      . subst hj
        rw [hi]at e1;cases e1
        rw [List.getElem?_set_self hiσ]at e2
        cases e2
        exact⟨u,r,.inr ⟨.inl hk,c,hc,hc'⟩⟩
      . rw [List.getElem?_set_ne (Ne.symm hj)]at e2
        obtain⟨u',r',q⟩:=hl j y v' e1 e2 e3
        refine⟨u',r',?_⟩
        rcases q with q | ⟨k,c',e,z'⟩
        . exact .inl q
        . refine .inr ⟨k,c',e,z'.sameBut hs ?_⟩
          rintro rfl
          exact hj (J2 hN e1 (I.ok.inj _ _ _ e hc▸hi))
    . by_cases hcc:c'=c
      . subst hcc;exact⟨_,hc'⟩
      . obtain⟨w2,z2⟩:=I.cell y c' e
        exact⟨w2,z2.sameBut hs hcc⟩
    . obtain⟨e,n,ne,nf,d⟩:=I.pin p hp
      refine⟨(hs.2 p.1 ?_).trans e,n,ne,nf,d⟩
      intro q
      rw [q,hoc]at e
      have q':oc=p.2:=Option.some.inj e
      exact d w' (by rw [<-q'];exact hocd)
theorem J4 {M:Model}{A:Around}{E:Value->Shared->Prop}{i:Nat}{x:Str}{v:V}{u:Value}{Q:Unit->Shared->Prop} (I:Inv X pins σ H s) (hN:X.N.Nodup) (hi:X.N[i]? =some x) (hx:Loc X.env.scope x) (r:RelV v u)
    (h:∀s',Inv X pins (σ.set i (some v)) H s'->Q () s') (hf:X.fn x=true\/X.env.scope.names.lookup x=some .local :=by first | exact .inl rfl | exact .inr rfl | assumption):wpAny M A (storeName X.env x u) Q E s:=
  Mz I hN hi hx r (fun s' I' _=>h s' I') hf
theorem Inv.call' {s':Shared}{ch:List Addr} (I:Inv X pins σ H s) (ho:s'.os=s.os) (u:Un (frs X.stack) ch H H' s.heap s'.heap) (hok:HOk X.prog X.w H' s'.heap) (hg:AllBare s'.gens)
    (hch:∀b∈ch,(b∈X.ex\/X.s₀.heap.objs.size<=b)/\b≠X.env.locals/\(∀x c,X.env.cells.lookup x=some c->c≠b)/\∀p∈X.pn++pins,p.1≠b):Inv X pins σ H' s':=by
  obtain⟨h',g',d',t',o'⟩:=s'
  have e:o'=s.os:=ho
  subst e
  exact I.call (g':=g') (t':=t') (d':=d') u hok hg hch
end
abbrev XK:=Value->Option Addr->Hp->Prop
abbrev St:=List (Option V)
abbrev VK:=V->Hp->Prop
abbrev TE:=St->Hp->VK->Prop
abbrev TT:=St->Hp->(Bool->Hp->Prop)->Prop
abbrev TA:=St->Hp->(List V->Hp->Prop)->Prop
structure Ends where
  nx:St->Hp->Prop
  rt:VK
  bk:St->Hp->Prop:=fun _ _=>False
  ct:St->Hp->Prop:=fun _ _=>False
abbrev TS:=Ends->St->Hp->Prop
def EP (X:Cx) (pins:List (Addr × Obj)) (σ:St) (Q:VK) (u:Value) (s':Shared):Prop:=∃v H',Inv X pins σ H' s'/\RelV v u/\Q v H'
def TP (X:Cx) (pins:List (Addr × Obj)) (σ:St) (Q:Bool->Hp->Prop) (b:Bool) (s':Shared):Prop:=∃H',Inv X pins σ H' s'/\Q b H'
def AP (X:Cx) (pins:List (Addr × Obj)) (σ:St) (Q:List V->Hp->Prop) (us:List Value) (s':Shared):Prop:=∃vs H',Inv X pins σ H' s'/\Vals vs us/\Q vs H'
def SP (X:Cx) (pins:List (Addr × Obj)) (D:Ends) (f:Flow) (s':Shared):Prop:=
  match f with
  | .next=>∃σ' H',Inv X pins σ' H' s'/\D.nx σ' H'
  | .brk=>∃σ' H',Inv X pins σ' H' s'/\D.bk σ' H'
  | .cont=>∃σ' H',Inv X pins σ' H' s'/\D.ct σ' H'
  | .ret u=>∃v σ' H',Inv X pins σ' H' s'/\RelV v u/\D.rt v H'
def PE (X:Cx) (e:Expr) (t:TE):Prop:=
  ∀(pins:List (Addr × Obj)) (s:Shared) (σ:St) (H:Hp) (Q:VK),Inv X pins σ H s->t σ H Q->wpAny (model X.prog X.w) X.A (eval e X.env) (EP X pins σ Q) X.xe s
def PT (X:Cx) (e:Expr) (t:TT):Prop:=
  ∀(pins:List (Addr × Obj)) (s:Shared) (σ:St) (H:Hp) (Q:Bool->Hp->Prop),Inv X pins σ H s->t σ H Q->wpAny (model X.prog X.w) X.A (isTrue e X.env (eval e X.env)) (TP X pins σ Q) X.xe s
def PW (X:Cx) (e:Expr) (t:TT):Prop:=
  ∀(whole:Sem Value) (pins:List (Addr × Obj)) (s:Shared) (σ:St) (H:Hp) (Q:Bool->Hp->Prop),Inv X pins σ H s->t σ H Q->wpAny (model X.prog X.w) X.A (isTrue e X.env whole) (TP X pins σ Q) X.xe s
theorem PW.pt {X:Cx}{e:Expr}{t:TT} (h:PW X e t):PT X e t:=h _
def PA (X:Cx) (es:List Expr) (t:TA):Prop:=
  ∀(pos:Pos) (pins:List (Addr × Obj)) (s:Shared) (σ:St) (H:Hp) (Q:List V->Hp->Prop),Inv X pins σ H s->t σ H Q->wpAny (model X.prog X.w) X.A (spliced (backTo pos (starEach es X.env))) (AP X pins σ Q) X.xe s
def PS (X:Cx) (st:Stmt) (t:TS):Prop:=
  ∀(pins:List (Addr × Obj)) (s:Shared) (σ:St) (H:Hp) (D:Ends),Inv X pins σ H s->t D σ H->wpAny (model X.prog X.w) X.A (exec st X.env) (SP X pins D) X.xe s
def PSs (X:Cx) (st:List Stmt) (t:TS):Prop:=
  ∀(pins:List (Addr × Obj)) (s:Shared) (σ:St) (H:Hp) (D:Ends),Inv X pins σ H s->t D σ H->wpAny (model X.prog X.w) X.A (execs st X.env) (SP X pins D) X.xe s
theorem thn {α:Type}{t:Sem α}{Q Q':α->Shared->Prop}{M:Model}{A:Around}{E:Value->Shared->Prop}{s:Shared} (h:wpAny M A t Q E s) (hQ:∀a s,Q a s->Q' a s):wpAny M A t Q' E s:=wpAny_mono h hQ fun _ _ x=>x
end L2
namespace L2
open PySem PySem.Spec PyProof.Rows
section
variable {X:Cx}
def Rm (i:Nat):TE:=fun σ H Q=>∃v,σ[i]? =some (some v)/\Q v H
def tC (v:V):TE:=fun _ H Q=>Q v H
theorem T7 {i:Nat}{x:Str}{pos:Pos} (hN:X.N[i]? =some x) (hv:Vis X.env.scope x) (hd:(x==("__debug__":Str))=false:=by decide) (hcd:(x==("__classdict__":Str))=false:=by decide):PE X (.Name x pos) (Rm i):=by
  intro pins s σ H Q I h
  obtain⟨v,e,h⟩:=h
  obtain⟨m,hn,hl⟩:=I.loc
  obtain⟨u,r,l⟩:=hl i x v hN e hv
  have fin:EP X pins σ Q u s:=⟨v,H,I,r,h⟩
  rcases l with⟨hk,hm⟩ | ⟨hk,c,hc,hcell⟩
  . exact wpAny_Name (wpAny_loadName_local I.ok.kind hk hn hm fin) hd
  . rcases hk with hk | hk
    . exact wpAny_Name (wpAny_loadName_cell I.ok.kind hk hc hcell fin) hd
    . exact wpAny_Name (wpAny_loadName_free I.ok.kind hk hc hcell fin hcd) hd
theorem Ac {i j pos}:PE X (.Constant (.int i) j pos) (tC (.int i)):=fun _ _ _ H _ I h=>wpAny_Constant_int ⟨.int i,H,I.tok _,⟨_,rfl⟩,h⟩
theorem Dd {b j pos}:PE X (.Constant (.bool b) j pos) (tC (.bl b)):=fun _ _ _ H _ I h=>Constant_bool ⟨.bl b,H,I,rfl,h⟩
theorem Fl {j pos}:PE X (.Constant .none j pos) (tC .non):=fun _ _ _ H _ I h=>Constant_none ⟨.non,H,I,rfl,h⟩
theorem Ik {x j pos}:PE X (.Constant (.str x) j pos) (tC (.str x)):=fun _ _ _ H _ I h=>Calls.Constant_str ⟨.str x,H,I.tok _,⟨_,rfl⟩,h⟩
def Gl (X:Cx) (x:Str):Prop:=X.env.kindOf x=some .globalImplicit
theorem Rh {E:Value->Shared->Prop}{pins:List (Addr × Obj)}{s:Shared}{σ:St}{H:Hp}{x:Str}{u:Value}{pos:Pos}{Q:Value->Shared->Prop} (I:Inv X pins σ H s) (hg:Gl X x) (hm:X.mg x=some u) (h:Q u s)
    (hd:(x==("__debug__":Str))=false:=by decide):wpAny (model X.prog X.w) X.A (eval (.Name x pos) X.env) Q E s:=
  Calls.Name_function_global I.ok.kind hg (Calls.loadGlobal_global (by rw [I.ok.glob];exact I.mod.glob.keeps I.bk) hm h) hd
theorem Ii {E:Value->Shared->Prop}{pins:List (Addr × Obj)}{s:Shared}{σ:St}{H:Hp}{x:Str}{u:Value}{pos:Pos}{Q:Value->Shared->Prop} (I:Inv X pins σ H s) (hg:Gl X x) (hm:X.mg x=none) (hv:bootBuiltins x=some u) (h:Q u s)
    (hn:x≠"__name__":=by decide) (hd:(x==("__debug__":Str))=false:=by decide):wpAny (model X.prog X.w) X.A (eval (.Name x pos) X.env) Q E s:=by
  obtain⟨mb,h1,h2⟩:=I.mod.blt
  exact Calls.Name_function_global I.ok.kind hg (Calls.loadGlobal_builtin (by rw [I.ok.glob];exact I.mod.glob.keeps I.bk) hm (by rw [I.ok.blt];exact h1.keeps I.bk) ((h2 x hn).trans hv) h) hd
theorem Bu {x:Str}{v:V}{u:Value}{pos:Pos} (hg:Gl X x) (hm:X.mg x=none) (hv:bootBuiltins x=some u) (r:RelV v u) (hn:x≠"__name__":=by decide) (hd:(x==("__debug__":Str))=false:=by decide):PE X (.Name x pos) (tC v):=
  fun _ _ _ H _ I h=>Ii I hg hm hv ⟨v,H,I,r,h⟩ hn hd
variable {a b:Expr}{ta tb:TE}{pos:Pos}
def tB (t:TE):TT:=fun σ H Q=>t σ H fun x H1=>∃c,x= .bl c/\Q c H1
theorem Dw {e:Expr}{t:TE} (h:PE X e t) (he:∀whole,isTrue e X.env whole=(do let v<-whole;standAt e.pos;holding [v] (truthy v)):=by intro _;rfl):PT X e (tB t):=by
  intro pins s σ H Q I hw
  refine isTrue_plain (thn (h pins s σ H _ I hw) fun v s1 ⟨x,H1,I1,r1,q1⟩=> ?_) (he _)
  obtain⟨d,rfl,q⟩:=q1
  cases r1
  exact wpAny_truthy_bool ⟨H1,I1,q⟩
variable {tA tB':TT}{rest:List Expr}
def Uv (t u:TT):TT:=fun σ H Q=>t σ H fun c H1=>if c=true then u σ H1 Q else Q false H1
def tOr (t u:TT):TT:=fun σ H Q=>t σ H fun c H1=>if c=true then Q true H1 else u σ H1 Q
def Vb (t:TT):TT:=fun σ H Q=>t σ H fun c H1=>Q (!c) H1
theorem Ef (ha:PT X a tA):PW X (.BoolOp .And [a] pos) tA:=by
  intro wh pins s σ H Q I h
  refine isTrue_and (thn (ha pins s σ H Q I h) fun c s1 e=> ?_)
  cases c with
  | true=>exact isTrue_and_nil e
  | false=>exact e
theorem Fj (ha:PT X a tA):PW X (.BoolOp .Or [a] pos) tA:=by
  intro wh pins s σ H Q I h
  refine isTrue_or (thn (ha pins s σ H Q I h) fun c s1 e=> ?_)
  cases c with
  | false=>exact isTrue_or_nil e
  | true=>exact e
theorem Fy (ha:PT X a tA) (hb:PW X (.BoolOp .And (b::rest) pos) tB'):PW X (.BoolOp .And (a::b::rest) pos) (Uv tA tB'):=by
  intro wh pins s σ H Q I h
  refine isTrue_and (thn (ha pins s σ H _ I h) fun c s1 ⟨H1,I1,q1⟩=> ?_)
  cases c with
  | true=>exact hb wh pins s1 σ H1 Q I1 q1
  | false=>exact⟨H1,I1,q1⟩
theorem Ht (ha:PT X a tA) (hb:PW X (.BoolOp .Or (b::rest) pos) tB'):PW X (.BoolOp .Or (a::b::rest) pos) (tOr tA tB'):=by
  intro wh pins s σ H Q I h
  refine isTrue_or (thn (ha pins s σ H _ I h) fun c s1 ⟨H1,I1,q1⟩=> ?_)
  cases c with
  | true=>exact⟨H1,I1,q1⟩
  | false=>exact hb wh pins s1 σ H1 Q I1 q1
theorem Ei (ha:PT X a tA):PT X (.UnaryOp .Not a pos) (Vb tA):=by
  intro pins s σ H Q I h
  exact isTrue_not (ha pins s σ H (fun c H1=>Q (!c) H1) I h)
def Qg (ta tb:TE):TE:=fun σ H Q=>ta σ H fun x H1=>∃c,x= .bl c/\if c=true then tb σ H1 Q else Q (.bl false) H1
def Qp (ta:TE):TE:=fun σ H Q=>ta σ H fun x H1=>∃c,x= .bl c/\Q (.bl (!c)) H1
theorem Ia {op}{t:TE} (h:PE X a t):PE X (.BoolOp op [a] pos) t:=fun pins s σ H Q I hw=>BoolOp_one (h pins s σ H Q I hw)
theorem Ij (ha:PE X a ta) (hb:PE X (.BoolOp .And (b::rest) pos) tb):PE X (.BoolOp .And (a::b::rest) pos) (Qg ta tb):=by
  intro pins s σ H Q I h
  refine BoolOp_and (thn (ha pins s σ H _ I h) fun v s1 ⟨x,H1,I1,r1,q1⟩=> ?_)
  obtain⟨c,rfl,q1⟩:=q1
  cases r1
  refine wpAny_truthy_bool ?_
  cases c with
  | true=>exact hb pins s1 σ H1 Q I1 q1
  | false=>exact⟨.bl false,H1,I1,rfl,q1⟩
theorem Mu (ha:PE X a ta):PE X (.UnaryOp .Not a pos) (Qp ta):=by
  intro pins s σ H Q I h
  refine UnaryOp_ (thn (ha pins s σ H _ I h) fun v s1 ⟨x,H1,I1,r1,q1⟩=> ?_)
  obtain⟨c,rfl,q1⟩:=q1
  cases r1
  exact not_of (wpAny_truthy_bool ⟨.bl (!c),H1,I1,rfl,q1⟩)
end
end L2
namespace L2
open PySem PySem.Spec PyProof.Rows
def SqL (K:PySem.W.Frag) (H:Hp) (a:Addr) (xs:List V):Prop:=
  Rd H a (.lst xs)\/
    ∃(o:Obj) (its:Array Value) (n:Nat),K.lookup a=some o/\o.cls= .type "list"/\o.dict=none/\o.data= .seq its n/\its.size<=sizeLine/\Vals xs its.toList
def SqT (K:PySem.W.Frag) (H:Hp) (a:Addr) (xs:List V):Prop:=
  Rd H a (.tup xs)\/
    ∃(o:Obj) (its:Array Value) (n:Nat),K.lookup a=some o/\o.cls= .type "tuple"/\o.data= .seq its n/\its.size<=sizeLine/\Vals xs its.toList
def Wt:Value->Option V
  | .none=>some .non
  | .bool b=>some (.bl b)
  | .int i _=>some (.int i)
  | .str x _=>some (.str x)
  | .bytes b _=>some (.byt b)
  | .float b _=>some (.flt b)
  | .ref a=>some (.ref a)
  | .type n=>some (.ty n)
  | _=>none
theorem RelV.abs {x:V}{u:Value} (r:RelV x u):Wt u=some x:=by
  cases x with
  | non=>cases r;rfl
  | bl _=>cases r;rfl
  | int _=>obtain⟨t,rfl⟩:=r;rfl
  | str _=>obtain⟨t,rfl⟩:=r;rfl
  | byt _=>obtain⟨t,rfl⟩:=r;rfl
  | flt _=>obtain⟨t,rfl⟩:=r;rfl
  | ref _=>cases r;rfl
  | ty _=>cases r;rfl
theorem RelV.inj {x y:V}{u:Value} (r:RelV x u) (q:RelV y u):x=y:=Option.some.inj (r.abs.symm.trans q.abs)
theorem Vals.inj:∀ {xs ys:List V}{us:List Value},Vals xs us->Vals ys us->xs=ys
  | _,_,_,.nil,.nil=>rfl
  | _,_,_,.cons r t,.cons r' t'=>by rw [r.inj r',Vals.inj t t']
section
variable {X:Cx}{pins:List (Addr × Obj)}{σ:St}{H:Hp}{s:Shared}{a:Addr}{xs ys:List V}
theorem SqL.of {K:PySem.W.Frag} (h:H a=some (.lst xs)):SqL K H a xs:= .inl (.inl h)
theorem SqT.of {K:PySem.W.Frag} (h:H a=some (.tup xs)):SqT K H a xs:= .inl (.inl h)
theorem Inv.list (I:Inv X pins σ H s) (h:SqL X.K H a xs):∃its:List Value,Vals xs its/\PlainL s.heap a its.toArray/\xs.length<=sizeLine:=by
  rcases h with h | ⟨o,its,n,hk,hc,hd,hs,hz,r⟩
  . obtain⟨z,its,n,r,e⟩:=h.ok I.hok
    exact⟨its,r,⟨_,n,e,rfl,rfl,rfl⟩,z⟩
  . refine⟨its.toList,r,⟨o,n,I.kIn a o hk,hc,hd,by simpa using hs⟩,?_⟩
    have e:=r.length
    simp only [Array.length_toList]at e
    omega
theorem Inv.tuple (I:Inv X pins σ H s) (h:SqT X.K H a xs):∃its:List Value,Vals xs its/\IsTup s.heap a its.toArray/\xs.length<=sizeLine:=by
  rcases h with h | ⟨o,its,n,hk,hc,hs,hz,r⟩
  . obtain⟨z,its,r,p⟩:=h.ok I.hok
    exact⟨its,r,p,z⟩
  . refine⟨its.toList,r,⟨o,I.kIn a o hk,hc,n,by simpa using hs⟩,?_⟩
    have e:=r.length
    simp only [Array.length_toList]at e
    omega
theorem Inv.list_inj (I:Inv X pins σ H s) (h:SqL X.K H a xs) (h':SqL X.K H a ys):xs=ys:=by
  obtain⟨its,r,⟨o,n,e,_,_,d⟩,_⟩:=I.list h
  obtain⟨its',r',⟨o',n',e',_,_,d'⟩,_⟩:=I.list h'
  rw [e]at e';cases e'
  rw [d]at d'
  injection d' with d1 _
  have:its=its':=by simpa using congrArg Array.toList d1
  subst this
  exact r.inj r'
theorem Inv.tuple_inj (I:Inv X pins σ H s) (h:SqT X.K H a xs) (h':SqT X.K H a ys):xs=ys:=by
  obtain⟨its,r,⟨o,e,_,n,d⟩,_⟩:=I.tuple h
  obtain⟨its',r',⟨o',e',_,n',d'⟩,_⟩:=I.tuple h'
  rw [e]at e';cases e'
  rw [d]at d'
  injection d' with d1 _
  have:its=its':=by simpa using congrArg Array.toList d1
  subst this
  exact r.inj r'
end
abbrev Cx.wish (X:Cx) (E:Value->Shared->Prop):Cx:={ X with xe:=E}
abbrev Cx.nox (X:Cx):Cx:=X.wish fun _ _=>False
theorem Cx.Ok.wish {X:Cx} (ok:X.Ok) (E:Value->Shared->Prop):(X.wish E).Ok:=
  ⟨ok.mod,ok.kind,ok.glob,ok.blt,ok.above,ok.inj,ok.has,ok.cab,ok.hd,ok.frames,ok.stk,ok.exf,ok.bs,ok.bsz,ok.noex,ok.exfs,ok.funs,ok.frf⟩
theorem Cx.Ok.unwish {X:Cx}{E:Value->Shared->Prop} (ok:(X.wish E).Ok):X.Ok:=
  ⟨ok.mod,ok.kind,ok.glob,ok.blt,ok.above,ok.inj,ok.has,ok.cab,ok.hd,ok.frames,ok.stk,ok.exf,ok.bs,ok.bsz,ok.noex,ok.exfs,ok.funs,ok.frf⟩
section
variable {X:Cx}{pins:List (Addr × Obj)}{σ:St}{H:Hp}{s:Shared}{E:Value->Shared->Prop}
theorem Inv.wish (I:Inv X pins σ H s) (E:Value->Shared->Prop):Inv (X.wish E) pins σ H s:=⟨I.ok.wish E,I.os,I.bare,I.base,I.loc,I.cell,I.free,I.freeC,I.pin,I.hok,I.len⟩
theorem Inv.unwish (I:Inv (X.wish E) pins σ H s):Inv X pins σ H s:=⟨I.ok.unwish,I.os,I.bare,I.base,I.loc,I.cell,I.free,I.freeC,I.pin,I.hok,I.len⟩
theorem SP.unwish {D:Ends}{f:Flow}{s':Shared} (h:SP (X.wish E) pins D f s'):SP X pins D f s':=by
  cases f with
  | next=>obtain⟨σ',H',I,q⟩:=h;exact⟨σ',H',I.unwish,q⟩
  | brk=>obtain⟨σ',H',I,q⟩:=h;exact⟨σ',H',I.unwish,q⟩
  | cont=>obtain⟨σ',H',I,q⟩:=h;exact⟨σ',H',I.unwish,q⟩
  | ret u=>obtain⟨v,σ',H',I,r,q⟩:=h;exact⟨v,σ',H',I.unwish,r,q⟩
theorem PE.nox {e:Expr}{t:TE} (h:PE X.nox e t):PE X e t:=fun pins s σ H Q I hw=>
  wpAny_mono (h pins s σ H Q (I.wish _) hw) (fun _ _ ⟨v,H',I',r,q⟩=>⟨v,H',I'.unwish,r,q⟩) fun _ _ z=>False.elim z
theorem PT.nox {e:Expr}{t:TT} (h:PT X.nox e t):PT X e t:=fun pins s σ H Q I hw=>
  wpAny_mono (h pins s σ H Q (I.wish _) hw) (fun _ _ ⟨H',I',q⟩=>⟨H',I'.unwish,q⟩) fun _ _ z=>False.elim z
theorem PSs.nox {st:List Stmt}{t:TS} (h:PSs X.nox st t):PSs X st t:=fun pins s σ H D I hw=>
  wpAny_mono (h pins s σ H D (I.wish _) hw) (fun _ _ q=>q.unwish) fun _ _ z=>False.elim z
end
section
variable {X:Cx}{st:Stmt}{rest:List Stmt}{t u:TS}{e:Expr}{te:TE}{pos:Pos}
def Py:TS:=fun D σ H=>D.nx σ H
def Ug (t u:TS):TS:=fun D σ H=>t { D with nx:=u D} σ H
theorem Bg:PSs X [] Py:=fun _ _ σ H _ I h=>wpAny_execs_nil ⟨σ,H,I,h⟩
theorem Ae (h1:PS X st t) (h2:PSs X rest u):PSs X (st::rest) (Ug t u):=by
  intro pins s σ H D I h
  refine wpAny_execs_cons (thn (h1 pins s σ H { D with nx:=u D} I h) fun f s1 q=> ?_)
  cases f with
  | next=>
    obtain⟨σ',H',I',q⟩:=q
    exact h2 pins s1 σ' H' D I' q
  | ret v=>exact q
  | brk=>exact q
  | cont=>exact q
theorem Ag (h1:PS X st t):PSs X [st] t:=by
  intro pins s σ H D I h
  refine wpAny_execs_cons (thn (h1 pins s σ H D I h) fun f s1 q=> ?_)
  cases f with
  | next=>exact wpAny_execs_nil q
  | ret v=>exact q
  | brk=>exact q
  | cont=>exact q
theorem Inv.quiet {pins:List (Addr × Obj)}{σ:St}{H:Hp}{s:Shared} (I:Inv X pins σ H s):interactive X.env=false:=by simp [interactive,I.ok.kind]
def Qi (te:TE):TS:=fun D σ H=>te σ H fun _ H1=>D.nx σ H1
theorem Dp (he:PE X e te) (hs:swapsWith e none pos.line X.env=pure false:=by rfl):PS X (.Expr e pos) (Qi te):=by
  intro pins s σ H D I h
  exact wpAny_Expr_any (thn (he pins s σ H _ I h) fun v s1 ⟨x,H1,I1,r1,q1⟩=>⟨σ,H1,I1,q1⟩) I.quiet hs
def Vu (te:TE):TS:=fun D σ H=>te σ H D.rt
theorem Aw (he:PE X e te):PS X (.Return (some e) pos) (Vu te):=by
  intro pins s σ H D I h
  exact wpAny_Return_some (thn (he pins s σ H _ I h) fun v s1 ⟨x,H1,I1,r1,q1⟩=>⟨x,σ,H1,I1,r1,q1⟩)
def Um (c:TT) (t u:TS):TS:=fun D σ H=>c σ H fun b H1=>if b=true then t D σ H1 else u D σ H1
theorem Dc {c:Expr}{a b:List Stmt}{tc:TT} (hc:PT X c tc) (ha:PSs X a t) (hb:PSs X b u):PS X (.If c a b pos) (Um tc t u):=by
  intro pins s σ H D I h
  refine wpAny_If (thn (hc pins s σ H _ I h) fun d s1 ⟨H1,I1,q1⟩=> ?_)
  cases d with
  | true=>exact ha pins s1 σ H1 D I1 q1
  | false=>exact hb pins s1 σ H1 D I1 q1
end
abbrev TG:=V->St->Hp->(St->Hp->Prop)->Prop
abbrev TGs:=List V->St->Hp->(St->Hp->Prop)->Prop
def PG (X:Cx) (target:Expr) (t:TG):Prop:=
  ∀(pins:List (Addr × Obj)) (s:Shared) (σ:St) (H:Hp) (v:V) (u:Value) (Q:St->Hp->Prop),Inv X pins σ H s->RelV v u->t v σ H Q->
    wpAny (model X.prog X.w) X.A (assign target X.env u) (fun _ s'=>∃σ' H',Inv X pins σ' H' s'/\Q σ' H') X.xe s
def PGs (X:Cx) (ts:List Expr) (t:TGs):Prop:=
  ∀(pins:List (Addr × Obj)) (s:Shared) (σ:St) (H:Hp) (vs:List V) (us:List Value) (Q:St->Hp->Prop),Inv X pins σ H s->Vals vs us->t vs σ H Q->
    wpAny (model X.prog X.w) X.A (assignInOrder ((assignEach ts X.env).map (·.2)) us) (fun _ s'=>∃σ' H',Inv X pins σ' H' s'/\Q σ' H') X.xe s
section
variable {X:Cx}{pos:Pos}
def Eo (i:Nat):TG:=fun v σ H Q=>Q (σ.set i (some v)) H
theorem Aq {i:Nat}{x:Str} (hN:X.N.Nodup) (hi:X.N[i]? =some x) (hx:Loc X.env.scope x) (hf:X.fn x=true\/X.env.scope.names.lookup x=some .local :=by first | exact .inl rfl | exact .inr rfl | assumption):PG X (.Name x pos) (Eo i):=by
  intro pins s σ H v u Q I r h
  exact wpAny_assign_Name (J4 I hN hi hx r (fun s' I'=>⟨_,H,I',h⟩) hf)
def Rx:TGs:=fun vs σ H Q=>vs=[]/\Q σ H
def Gp (t:TG) (u:TGs):TGs:=fun vs σ H Q=>∃v r,vs=v::r/\t v σ H fun σ' H'=>u r σ' H' Q
theorem Ce:PGs X [] Rx:=by
  intro pins s σ H vs us Q I r h
  obtain⟨e,h⟩:=h
  subst e
  cases r
  exact assignInOrder_nil ⟨σ,H,I,h⟩
theorem Ao {e:Expr}{es:List Expr}{t:TG}{u:TGs} (h1:PG X e t) (h2:PGs X es u)
    (hs:(assignEach (e::es) X.env).map (·.2)=assign e X.env::(assignEach es X.env).map (·.2):=by rfl):PGs X (e::es) (Gp t u):=by
  intro pins s σ H vs us Q I r h
  obtain⟨v,vr,e1,h⟩:=h
  subst e1
  cases r with
  | cons r rr=>
    rw [hs]
    refine assignInOrder_cons (thn (h1 pins s σ H _ _ _ I r h) fun _ s1 ⟨σ1,H1,I1,q1⟩=> ?_)
    exact h2 pins s1 σ1 H1 _ _ Q I1 rr q1
def Q6 (K:PySem.W.Frag) (n:Nat) (t:TGs):TG:=fun v σ H Q=>∃a xs,v= .ref a/\SqT K H a xs/\xs.length=n/\t xs σ H Q
theorem Di {es:List Expr}{k:Nat}{t:TGs}{n:Nat} (hc:X.calm=true) (h:PGs X es t)
    (hn:(assignEach es X.env).length=n:=by rfl) (hst:(assignEach es X.env).findIdx? (·.1)=none:=by rfl):PG X (.Tuple es k pos) (Q6 X.K n t):=by
  intro pins s σ H v u Q I r hw
  obtain⟨a,xs,e1,hq,hl,hw⟩:=hw
  subst e1
  cases r
  obtain⟨its,rv,ht,hz⟩:=I.tuple hq
  refine assign_Tuple_tuple (I.ok.hd hc) ht (by simp [hn,<-hl,rv.length]) hst fun h' hx=> ?_
  have I1:Inv X pins σ H { s with heap:=h'}:=I.kept (t':=s.toks) fun b o e=>hx b o (Nat.ne_of_lt (Heap.lt_size e)) e
  exact h pins _ σ H xs _ Q I1 (by simpa using rv) hw
def S6 (te:TE) (g:TG):TS:=fun D σ H=>te σ H fun x H1=>g x σ H1 D.nx
theorem Fe {tg e:Expr}{te:TE}{g:TG} (he:PE X e te) (hg:PG X tg g) (hs:swapsWithSole [tg] e pos.line X.env=pure false:=by rfl) (hw:swappedStores [tg] e X.env=pure none:=by rfl)
    (h1:(assignEach [tg] X.env).map (·.2)=[assign tg X.env]:=by rfl):PS X (.Assign [tg] e pos) (S6 te g):=by
  intro pins s σ H D I h
  refine wpAny_Assign_stores (thn (he pins s σ H _ I h) fun v s1 ⟨x,H1,I1,r1,q1⟩=> ?_) hs hw
  rw [h1]
  exact thn (hg pins s1 σ H1 x v _ I1 r1 q1) fun _ s2 q=>q
theorem Ay {i:Nat}{x:Str}{e:Expr}{te:TE}{pos':Pos} (hN:X.N.Nodup) (hi:X.N[i]? =some x) (hx:Loc X.env.scope x) (he:PE X e te) (hs:swapsWith e (some (.Name x pos')) pos.line X.env=pure false:=by rfl) (hf:X.fn x=true\/X.env.scope.names.lookup x=some .local :=by first | exact .inl rfl | exact .inr rfl | assumption):
    PS X (.Assign [.Name x pos'] e pos) (S6 te (Eo i)):=by
  intro pins s σ H D I h
  refine wpAny_Assign_Name (thn (he pins s σ H _ I h) fun v s1 ⟨y,H1,I1,r1,q1⟩=> ?_) hs
  exact J4 I1 hN hi hx r1 (fun s2 I2=>⟨_,H1,I2,q1⟩) hf
end
section
variable {X:Cx}{pos:Pos}
def M4 (c:TT) (tb:TS):TS:=fun D σ H=>∃W:Nat->St->Hp->Prop,(∃m,W m σ H)/\∀m σ H,W m σ H->
  c σ H fun b H1=>if b=true then ∃N:St->Hp->Prop,(∀σ' H',N σ' H'->∃m',m'<m/\W m' σ' H')/\tb { D with nx:=N,ct:=N,bk:=D.nx} σ H1 else D.nx σ H1
theorem Ge {c:Expr}{body:List Stmt}{tc:TT}{tb:TS} (hp:PassesOwn (model X.prog X.w) X.A X.env X.xe) (hc:PT X c tc) (hb:PSs X body tb):PS X (.While c body [] pos) (M4 tc tb):=by
  intro pins s σ H D I h
  obtain⟨W,⟨m0,w0⟩,turn⟩:=h
  refine wpAny_While (codeAny_whileLoop (fun n s'=>∃σ' H',Inv X pins σ' H' s'/\W n σ' H') ?_ m0 ⟨σ,H,I,w0⟩)
  rintro n s1 ⟨σ1,H1,I1,w1⟩
  refine wpAny_passesOwn hp (thn (hc pins s1 σ1 H1 _ I1 (turn n σ1 H1 w1)) fun b s2 ⟨H2,I2,q2⟩=> ?_)
  cases b with
  | true=>
    obtain⟨N,hN,q2⟩:=q2
    rw [if_pos rfl]
    refine wpAny_passesOwn hp (thn (hb pins s2 σ1 H2 _ I2 q2) fun f s3 q3=> ?_)
    cases f with
    | next=>
      obtain⟨σ3,H3,I3,n3⟩:=q3
      obtain⟨m',hm,w3⟩:=hN σ3 H3 n3
      exact⟨m',hm,σ3,H3,I3,w3⟩
    | cont=>
      obtain⟨σ3,H3,I3,n3⟩:=q3
      obtain⟨m',hm,w3⟩:=hN σ3 H3 n3
      exact⟨m',hm,σ3,H3,I3,w3⟩
    | brk=>exact q3
    | ret v=>exact q3
  | false=>
    rw [if_neg Bool.false_ne_true]
    exact wpAny_execs_nil ⟨σ1,H2,I2,q2⟩
end
structure It where
  go:Nat->Hp->Prop
  yld:Nat->Hp->V->Hp->Prop
  stop:Nat->Hp->Prop
def Jd (X:Cx) (pins:List (Addr × Obj)) (H:Hp) (b:Addr):Prop:=
  H b=none/\b≠X.env.locals/\b∉X.fs/\(b∈X.ex\/X.s₀.heap.objs.size<=b)/\(∀x c,X.env.cells.lookup x=some c->c≠b)/\∀p∈X.pn++pins,p.1≠b
theorem Inv.fpOk {X:Cx}{pins:List (Addr × Obj)}{σ:St}{H H':Hp}{s:Shared}{b:Addr} (I:Inv X pins σ H s) (hb:s.heap.objs.size<=b) (hn:H' b=none):Jd X pins H' b:=by
  refine⟨hn,Nat.ne_of_gt (Nat.lt_of_lt_of_le I.lt hb),I.nofs hb,.inr (Nat.le_trans I.sz hb),fun x c e z=> ?_,fun p hp z=> ?_⟩
  . obtain⟨v,q⟩:=I.cell x c e
    exact absurd (Nat.lt_of_lt_of_le q.lt (by rw [z];exact hb)) (Nat.lt_irrefl _)
  . exact absurd (Nat.lt_of_lt_of_le (Heap.lt_size (I.pin p hp).1) (by rw [z];exact hb)) (Nat.lt_irrefl _)
structure Turn (P:Program) (w:World) (K:PySem.W.Frag) (tg:Expr) (J:It) (fp:List Addr) (it:Addr) (tn:Nat->Heap->Prop):Prop where
  mem:it∈fp
  obj:∀i h,tn i h->∀b∈fp,∃o,h.get? b=some o/\∀v,o.data≠ .cell v
  keep:∀i h h',tn i h->(∀b∈fp,∀o,h.get? b=some o->h'.get? b=some o)->tn i h'
  item:∀(X:Cx),X.prog=P->X.w=w->X.K=K->X.calm=true->∀(i:Nat) (pins:List (Addr × Obj)) (s:Shared) (σ:St) (H:Hp) (E:Value->Shared->Prop),Inv X pins σ H s->(∀b∈fp,Jd X pins H b)->tn i s.heap->J.go i H->
    wpAny (model P w) X.A (pyNext (.ref it)) (fun r s1=>∃u,r=some u/\
      wpAny (model P w) X.A (letOwnedTupleGo tg (.ref it) u) (fun _ s2=>∃x H',Inv X pins σ H' s2/\RelV x u/\J.yld i H x H'/\tn (i+1) s2.heap/\∀b∈fp,H' b=none) E s1) E s
  done:∀(X:Cx),X.prog=P->X.w=w->X.K=K->X.calm=true->∀(i:Nat) (pins:List (Addr × Obj)) (s:Shared) (σ:St) (H:Hp) (E:Value->Shared->Prop),Inv X pins σ H s->(∀b∈fp,Jd X pins H b)->tn i s.heap->J.stop i H->
    wpAny (model P w) X.A (pyNext (.ref it)) (fun r s1=>r=none/\Inv X pins σ H s1) E s
  self:∀(A:Around) (i:Nat) (s:Shared) (Q:Value->Shared->Prop) (E:Value->Shared->Prop),tn i s.heap->Q (.ref it) s->wpAny (model P w) A (pyIter (.ref it)) Q E s
abbrev TI:=St->Hp->(It->Hp->Prop)->Prop
def PIE (X:Cx) (pins:List (Addr × Obj)) (σ:St) (tg:Expr) (R:It->Hp->Prop) (itv:Value) (s2:Shared):Prop:=
  ∃(it:Addr) (fp:List Addr) (tn:Nat->Heap->Prop) (J:It) (H':Hp),itv= .ref it/\Inv X pins σ H' s2/\Turn X.prog X.w X.K tg J fp it tn/\tn 0 s2.heap/\(∀b∈fp,Jd X pins H' b)/\R J H'
def PI (X:Cx) (tg iter:Expr) (wi:TI):Prop:=
  ∀(pins:List (Addr × Obj)) (s:Shared) (σ:St) (H:Hp) (R:It->Hp->Prop),Inv X pins σ H s->wi σ H R->
    wpAny (model X.prog X.w) X.A (eval iter X.env) (fun v s1=>wpAny (model X.prog X.w) X.A (pyIter v) (PIE X pins σ tg R) X.xe s1) X.xe s
theorem Rj {M:Model}{A:Around}{E:Value->Shared->Prop}{s:Shared}{tg:Expr}{it:Addr}{u:Value}{o:Obj}{n:String}{vs:Array Value}{Q:Unit->Shared->Prop} (ho:s.heap.get? it=some o) (hc:o.cls= .type n) (hd:o.data= .fields vs)
    (hn:["enumerate","zip","dict_itemiterator","dict_reverseitemiterator","odict_iterator","itertools.zip_longest","itertools.pairwise"].contains n=false) (hQ:Q () s):wpAny M A (letOwnedTupleGo tg (.ref it) u) Q E s:=by
  unfold letOwnedTupleGo
  cases tg<;>first
    | exact wpAny_pure hQ
    | (cases u<;>first
        | exact wpAny_pure hQ
        | (refine wpAny_bind (wpAny_load ho ?_)
           rw [hc,hd]
           show wpAny M A (if(["enumerate","zip","dict_itemiterator","dict_reverseitemiterator","odict_iterator","itertools.zip_longest","itertools.pairwise"].contains n&&vs[0]? ==some (rawInt _))=true then _ else _) Q E s
           rw [if_neg (by intro h;rw [hn,Bool.false_and]at h;cases h)]
           exact wpAny_pure hQ))
def Itl (K:PySem.W.Frag) (a:Addr):It:=
  ⟨fun i H=>∃xs x,SqL K H a xs/\xs[i]? =some x,fun i H x H'=>H'=H/\∀xs,SqL K H a xs->xs[i]? =some x,fun i H=>∃xs,SqL K H a xs/\xs.length<=i⟩
def Itt (K:PySem.W.Frag) (a:Addr):It:=
  ⟨fun i H=>∃xs x,SqT K H a xs/\xs[i]? =some x,fun i H x H'=>H'=H/\∀xs,SqT K H a xs->xs[i]? =some x,fun i H=>∃xs,SqT K H a xs/\xs.length<=i⟩
def Itr (lo:Int) (n:Nat):It:=⟨fun i _=>i<n,fun i H x H'=>H'=H/\x= .int (lo+i),fun i _=>n<=i⟩
theorem Ma {P:Program}{w:World}{K:PySem.W.Frag}{tg:Expr} (a it:Addr):Turn P w K tg (Itl K a) [it] it (fun i h=>h.IsListIter it a i) where
  mem:=by simp
  obj:=fun i h st b hb=>by
    have e:b=it:=by simpa using hb
    subst e
    obtain⟨o,e,c,d⟩:=st
    exact⟨o,e,fun v z=>by rw [d]at z;cases z⟩
  keep:=fun i h h' st k=>st.at fun o e=>k it (by simp) o e
  item:=by
    intro X hP hw hK hc i pins s σ H E I hf st hg
    subst hP hw hK
    obtain⟨xs,x,hq,hx⟩:=hg
    obtain⟨its,rv,p,hz⟩:=I.list hq
    obtain⟨u,hu,ru⟩:=rv.get hx
    obtain⟨f0,f1,f2,f3,f4,f5⟩:=hf it (by simp)
    refine wpAny_pyNext_list_item st p.isList (x:=u) (by simpa using hu) fun h' st' sb=> ?_
    have I1:Inv X pins σ H { s with heap:=h'}:=I.turned (t':=s.toks) (fun b o hb e=>(sb.2 b hb).trans e) f0 f1 f3 f4 f5
    obtain⟨o,e,c,d⟩:=id st'
    exact⟨u,rfl,Rj (s:={ s with heap:=h'}) e c d (by decide) ⟨x,H,I1,ru,⟨rfl,fun ys hy=>by rw [I.list_inj hy hq];exact hx⟩,st',fun b hb=>(hf b hb).1⟩⟩
  done:=by
    intro X hP hw hK hc i pins s σ H E I hf st hg
    subst hP hw hK
    obtain⟨xs,hq,hx⟩:=hg
    obtain⟨its,rv,p,hz⟩:=I.list hq
    obtain⟨f0,f1,f2,f3,f4,f5⟩:=hf it (by simp)
    have hl:=rv.length
    exact wpAny_pyNext_list_end (I.ok.hd hc) st p.isList (by simp;omega) fun h' eb=>⟨rfl,I.turned (t':=s.toks) (fun b o hb e=>eb b o hb e) f0 f1 f3 f4 f5⟩
  self:=fun _ _ _ _ _ st h=>wpAny_pyIter_listiter st h
theorem Km {P:Program}{w:World}{K:PySem.W.Frag}{tg:Expr} (a it:Addr):Turn P w K tg (Itt K a) [it] it (fun i h=>h.IsTupleIter it a i) where
  mem:=by simp
  obj:=fun i h st b hb=>by
    have e:b=it:=by simpa using hb
    subst e
    obtain⟨o,e,c,d⟩:=st
    exact⟨o,e,fun v z=>by rw [d]at z;cases z⟩
  keep:=fun i h h' st k=>st.at fun o e=>k it (by simp) o e
  item:=by
    intro X hP hw hK hc i pins s σ H E I hf st hg
    subst hP hw hK
    obtain⟨xs,x,hq,hx⟩:=hg
    obtain⟨its,rv,p,hz⟩:=I.tuple hq
    obtain⟨u,hu,ru⟩:=rv.get hx
    obtain⟨f0,f1,f2,f3,f4,f5⟩:=hf it (by simp)
    refine wpAny_pyNext_tuple_item st (show s.heap.IsTuple a its.toArray from p) (x:=u) (by simpa using hu) fun h' st' sb=> ?_
    have I1:Inv X pins σ H { s with heap:=h'}:=I.turned (t':=s.toks) (fun b o hb e=>(sb.2 b hb).trans e) f0 f1 f3 f4 f5
    obtain⟨o,e,c,d⟩:=id st'
    exact⟨u,rfl,Rj (s:={ s with heap:=h'}) e c d (by decide) ⟨x,H,I1,ru,⟨rfl,fun ys hy=>by rw [I.tuple_inj hy hq];exact hx⟩,st',fun b hb=>(hf b hb).1⟩⟩
  done:=by
    intro X hP hw hK hc i pins s σ H E I hf st hg
    subst hP hw hK
    obtain⟨xs,hq,hx⟩:=hg
    obtain⟨its,rv,p,hz⟩:=I.tuple hq
    obtain⟨f0,f1,f2,f3,f4,f5⟩:=hf it (by simp)
    have hl:=rv.length
    exact wpAny_pyNext_tuple_end (I.ok.hd hc) st (show s.heap.IsTuple a its.toArray from p) (by simp;omega) fun h' eb=>⟨rfl,I.turned (t':=s.toks) (fun b o hb e=>eb b o hb e) f0 f1 f3 f4 f5⟩
  self:=fun _ _ _ _ _ st h=>wpAny_pyIter_tupleiter st h
theorem Kf {P:Program}{w:World}{K:PySem.W.Frag}{tg:Expr} (it:Addr) (lo:Int) (n:Nat):Turn P w K tg (Itr lo n) [it] it (fun i h=>IsRangeIter h it (lo+(i:Nat)*1) ((n:Int)-(i:Nat)) 1) where
  mem:=by simp
  obj:=fun i h st b hb=>by
    have e:b=it:=by simpa using hb
    subst e
    exact⟨_,st,fun v z=>by
      have z':Data.fields _=Data.cell v:=z
      cases z'⟩
  keep:=fun i h h' st k=>k it (by simp) _ st
  item:=by
    intro X hP hw hK hc i pins s σ H E I hf st hg
    subst hP hw hK
    obtain⟨f0,f1,f2,f3,f4,f5⟩:=hf it (by simp)
    have W:=Walks.range (prog:=X.prog) (w:=X.w) (I.ok.hd hc) it lo 1 n
    refine W.item i s _ _ hg st fun v h' tk hv st' kk=> ?_
    obtain⟨t,rfl⟩:=hv
    have I1:Inv X pins σ H { s with heap:=h',toks:=tk}:=I.turned (fun b o hb e=>kk b o (by simpa using hb) e) f0 f1 f3 f4 f5
    refine⟨_,rfl,Rj (s:={ s with heap:=h',toks:=tk}) (n:="range_iterator") st' rfl rfl (by decide) ⟨.int (lo+i),H,I1,⟨t,?_⟩,⟨rfl,rfl⟩,st',fun b hb=>(hf b hb).1⟩⟩
    rw [Int.mul_one]
  done:=by
    intro X hP hw hK hc i pins s σ H E I hf st hg
    subst hP hw hK
    obtain⟨f0,f1,f2,f3,f4,f5⟩:=hf it (by simp)
    exact wpAny_pyNext_range_end (I.ok.hd hc) st (by have:n<=i:=hg;omega) fun h' eb=>⟨rfl,I.turned (t':=s.toks) (fun b o hb e=>eb b o hb e) f0 f1 f3 f4 f5⟩
  self:=fun _ _ _ _ _ st h=>wpAny_pyIter_rangeiter st h
end L2
namespace L2
open PySem PySem.Spec PyProof.Rows
section
variable {X:Cx}{tg:Expr}
def Qk (K:PySem.W.Frag) (tl:TE):TI:=fun σ H R=>tl σ H fun x H1=>∃a,x= .ref a/\(∃xs,SqL K H1 a xs)/\R (Itl K a) H1
def Vo (K:PySem.W.Frag) (tl:TE):TI:=fun σ H R=>tl σ H fun x H1=>∃a,x= .ref a/\(∃xs,SqT K H1 a xs)/\R (Itt K a) H1
theorem Gd {l:Expr}{tl:TE} (hl:PE X l tl):PI X tg l (Qk X.K tl):=by
  intro pins s σ H R I h
  refine thn (hl pins s σ H _ I h) fun v s1 ⟨x,H1,I1,r1,q1⟩=> ?_
  obtain⟨a,e,⟨xs,hq⟩,q⟩:=q1
  subst e
  cases r1
  obtain⟨its,rv,p,hz⟩:=I1.list hq
  refine wpAny_pyIter_list p.isList ?_
  refine⟨s1.heap.objs.size,[s1.heap.objs.size],_,_,H1,rfl,I1.kept (t':=s1.toks) fun b o e=>Heap.get?_push_of_some _ e,Ma a _,⟨_,Heap.get?_push_size _ rfl,rfl,rfl⟩,fun b hb=> ?_,q⟩
  have e:b=s1.heap.objs.size:=by simpa using hb
  subst e
  exact I1.fpOk (Nat.le_refl _) (I1.hok.fresh (Nat.le_refl _))
theorem Js {l:Expr}{tl:TE} (hl:PE X l tl):PI X tg l (Vo X.K tl):=by
  intro pins s σ H R I h
  refine thn (hl pins s σ H _ I h) fun v s1 ⟨x,H1,I1,r1,q1⟩=> ?_
  obtain⟨a,e,⟨xs,hq⟩,q⟩:=q1
  subst e
  cases r1
  obtain⟨its,rv,p,hz⟩:=I1.tuple hq
  refine wpAny_pyIter_tuple (show s1.heap.IsTuple a its.toArray from p) ?_
  refine⟨s1.heap.objs.size,[s1.heap.objs.size],_,_,H1,rfl,I1.kept (t':=s1.toks) fun b o e=>Heap.get?_push_of_some _ e,Km a _,⟨_,Heap.get?_push_size _ rfl,rfl,rfl⟩,fun b hb=> ?_,q⟩
  have e:b=s1.heap.objs.size:=by simpa using hb
  subst e
  exact I1.fpOk (Nat.le_refl _) (I1.hok.fresh (Nat.le_refl _))
theorem Oh {pins:List (Addr × Obj)}{σ:St}{H:Hp}{s:Shared}{R:It->Hp->Prop}{E:Value->Shared->Prop}{lo hi:Int}{t u v:Tok}{tk:Nat} (I:Inv X pins σ H s) (h1: -(2^62)<=lo) (h2:lo<2^62) (h3: -(2^62)<=hi) (h4:hi<2^62)
    (q:R (Itr lo (hi-lo).toNat) H):wpAny (model X.prog X.w) X.A (pyIter (.ref s.heap.objs.size)) (PIE X pins σ tg R) E { s with heap:=s.heap.push { cls:= .type "range",data:= .fields #[.int lo t,.int hi u,.int 1 v]},toks:=tk}:=by
  refine wpAny_pyIter_range (IsRange.new ..) (small_one h1 h2 h3 h4) ?_
  have I1:Inv X pins σ H { s with heap:=s.heap.push { cls:= .type "range",data:= .fields #[.int lo t,.int hi u,.int 1 v]},toks:=tk}:=I.kept fun b o e=>Heap.get?_push_of_some _ e
  refine⟨(s.heap.push { cls:= .type "range",data:= .fields #[.int lo t,.int hi u,.int 1 v]}).objs.size,[(s.heap.push { cls:= .type "range",data:= .fields #[.int lo t,.int hi u,.int 1 v]}).objs.size],_,_,H,rfl,
    I1.kept (t':=tk) fun b o e=>Heap.get?_push_of_some _ e,Kf _ lo (hi-lo).toNat,?_,fun b hb=> ?_,q⟩
  . have e1:lo+((0:Nat):Int)*1=lo:=by simp
    have e2:(((hi-lo).toNat:Nat):Int)-((0:Nat):Int)=Builtin.Range.rangeSize lo hi 1:=by rw [rangeSize_one];split<;>omega
    show IsRangeIter _ _ (lo+((0:Nat):Int)*1) ((((hi-lo).toNat:Nat):Int)-((0:Nat):Int)) 1
    rw [e1,e2]
    exact Heap.get?_push_size _ rfl
  . have e:b=(s.heap.push { cls:= .type "range",data:= .fields #[.int lo t,.int hi u,.int 1 v]}).objs.size:=by simpa using hb
    subst e
    exact I1.fpOk (Nat.le_refl _) (I1.hok.fresh (Nat.le_refl _))
def Q7 (ta:TA):TI:=fun σ H R=>ta σ H fun vs H1=>∃j:Int,vs=[.int j]/\ -(2^62)<=j/\j<2^62/\R (Itr 0 j.toNat) H1
theorem Ck {a:Expr}{ta:TA}{p pos:Pos} (hg:Gl X "range") (hm:X.mg "range"=none) (ha:PA X [a] ta) (hs:starEach [a] X.env=[(false,eval a X.env)]:=by rfl):PI X tg (.Call (.Name "range" p) [a] [] pos) (Q7 ta):=by
  intro pins s σ H R I h
  refine Call_ (Ii I hg hm boot_range (PyProof.Rows.callWith_type1 (thn (ha pos pins s σ H _ I h) fun us s1 ⟨vs,H1,I1,r1,q1⟩=> ?_) hs rfl))
  obtain⟨j,e,q1,q2,q⟩:=q1
  subst e
  cases r1 with
  | cons r rr=>
    cases rr
    obtain⟨t,rfl⟩:=r
    exact call_range_1 (Oh I1 (by omega) (by omega) q1 q2 (by simpa using q))
def Uk (wi:TI) (g:TG) (tb:TS):TS:=fun D σ H=>wi σ H fun J H1=>∃W:Nat->Nat->St->Hp->Prop,(∃m,W 0 m σ H1)/\∀i m σ H,W i m σ H->
  (J.stop i H/\D.nx σ H)\/(J.go i H/\∃N:St->Hp->Prop,(∀σ' H',N σ' H'->∃m',m'<m/\W (i+1) m' σ' H')/\∀x H',J.yld i H x H'->g x σ H' fun σ2 H2=>tb { D with nx:=N,ct:=N,bk:=D.nx} σ2 H2)
def Hi (fp:List Addr) (h:Heap):List (Addr × Obj):=fp.filterMap fun b=>(h.get? b).map fun o=>(b,o)
theorem Cm {fp:List Addr}{h:Heap}{b:Addr}{o:Obj} (hb:b∈fp) (e:h.get? b=some o):(b,o)∈Hi fp h:=List.mem_filterMap.mpr ⟨b,hb,by rw [e];rfl⟩
theorem K7 {fp:List Addr}{h:Heap}{p:Addr × Obj} (hp:p∈Hi fp h):p.1∈fp/\h.get? p.1=some p.2:=by
  obtain⟨b,hb,e⟩:=List.mem_filterMap.mp hp
  cases q:h.get? b with
  | none=>rw [q]at e;cases e
  | some o=>
    rw [q]at e
    have e':(b,o)=p:=Option.some.inj e
    subst e'
    exact⟨hb,q⟩
theorem Inv.pinned {pins:List (Addr × Obj)}{σ:St}{H:Hp}{s:Shared}{fp:List Addr} (I:Inv X pins σ H s) (hf:∀b∈fp,Jd X pins H b) (ho:∀b∈fp,∃o,s.heap.get? b=some o/\∀v,o.data≠ .cell v):Inv X (pins++Hi fp s.heap) σ H s:=
  I.pins_of fun p hp=>(List.mem_append.mp hp).elim (fun z=>I.pin p (List.mem_append_right _ z)) fun z=>by
    obtain⟨hb,e⟩:=K7 z
    obtain⟨f0,f1,f2,_⟩:=hf p.1 hb
    obtain⟨o,e',d⟩:=ho p.1 hb
    rw [e]at e';cases e'
    exact⟨e,f0,f1,f2,d⟩
theorem Inv.unpinned {pins pl:List (Addr × Obj)}{σ:St}{H:Hp}{s:Shared} (I:Inv X (pins++pl) σ H s):Inv X pins σ H s:=I.pins_of fun p hp=>I.pin p (List.mem_append_right _ (List.mem_append_left _ hp))
theorem Eh {iter:Expr}{body:List Stmt}{wi:TI}{g:TG}{tb:TS}{pos:Pos} (hp:PassesOwn (model X.prog X.w) X.A X.env X.xe) (hc:X.calm=true) (hi:PI X tg iter wi) (hg:PG X tg g) (hb:PSs X body tb)
    (hs:∀x,foldedSetIterable iter X.env x=pure x:=by intro _;rfl):PS X (.For tg iter body [] pos) (Uk wi g tb):=by
  intro pins s σ H D I h
  refine wpAny_For (thn (hi pins s σ H _ I h) fun v s1 h1=>thn h1 fun itv s2 h2=> ?_) hs
  obtain⟨it,fp,tn,J,H2,e,I2,T,st2,f2,W,⟨m0,w0⟩,turn⟩:=h2
  subst e
  have stat:∀ {H':Hp},(∀b∈fp,H' b=none)->∀b∈fp,Jd X pins H' b:=fun hn b hb=>⟨hn b hb,(f2 b hb).2⟩
  refine codeAny_forLoop_any (fun n s'=>∃i σ' H',Inv X pins σ' H' s'/\tn i s'.heap/\(∀b∈fp,H' b=none)/\W i n σ' H') ?_ m0 ⟨0,σ,H2,I2,st2,fun b hb=>(f2 b hb).1,w0⟩
  rintro n s3 ⟨i,σ3,H3,I3,st3,fr3,w3⟩
  rcases turn i n σ3 H3 w3 with⟨stop,qn⟩ | ⟨go,N,hN,step⟩
  . refine wpAny_passesOwn hp (thn (T.done X rfl rfl rfl hc i pins s3 σ3 H3 X.xe I3 (stat fr3) st3 stop) fun r s4 ⟨hr,I4⟩=> ?_)
    subst hr
    exact wpAny_execs_nil ⟨σ3,H3,I4,qn⟩
  . refine wpAny_passesOwn hp (thn (T.item X rfl rfl rfl hc i pins s3 σ3 H3 X.xe I3 (stat fr3) st3 go) fun r s4 ⟨u,hr,h4⟩=> ?_)
    subst hr
    refine wpAny_passesOwn hp (thn h4 fun _ s5 ⟨x,H5,I5,r5,y5,st5,fr5⟩=> ?_)
    have I5':=I5.pinned (stat fr5) (T.obj _ _ st5)
    refine wpAny_passesOwn hp (thn (hg _ s5 σ3 H5 x u _ I5' r5 (step x H5 y5)) fun _ s6 ⟨σ6,H6,I6,q6⟩=> ?_)
    refine wpAny_passesOwn hp (thn (hb _ s6 σ6 H6 _ I6 q6) fun f s7 q7=> ?_)
    have again:∀ {σ7:St}{H7:Hp},Inv X (pins++Hi fp s5.heap) σ7 H7 s7->N σ7 H7->∃m,m<n/\∃i σ' H',Inv X pins σ' H' s7/\tn i s7.heap/\(∀b∈fp,H' b=none)/\W i m σ' H':=fun {σ7 H7} I7 n7=>by
      obtain⟨m',hm,w7⟩:=hN σ7 H7 n7
      refine⟨m',hm,i+1,σ7,H7,I7.unpinned,T.keep _ _ _ st5 fun b hb o e=>(I7.pin (b,o) (List.mem_append_right _ (List.mem_append_right _ (Cm hb e)))).1,fun b hb=> ?_,w7⟩
      obtain⟨o,e,d⟩:=T.obj _ _ st5 b hb
      exact(I7.pin (b,o) (List.mem_append_right _ (List.mem_append_right _ (Cm hb e)))).2.1
    cases f with
    | next=>obtain⟨σ7,H7,I7,n7⟩:=q7;exact again I7 n7
    | cont=>obtain⟨σ7,H7,I7,n7⟩:=q7;exact again I7 n7
    | brk=>obtain⟨σ7,H7,I7,q7⟩:=q7;exact⟨σ7,H7,I7.unpinned,q7⟩
    | ret v=>obtain⟨x7,σ7,H7,I7,r7,q7⟩:=q7;exact⟨x7,σ7,H7,I7.unpinned,r7,q7⟩
end
end L2
namespace L2
open PySem PySem.Spec PyProof.Rows
abbrev R2:=V->V->Hp->VK->Prop
def OpR (X:Cx) (f:Value->Value->Sem Value) (r:R2):Prop:=
  ∀(pins:List (Addr × Obj)) (s:Shared) (σ:St) (H:Hp) (x y:V) (v u:Value) (Q:VK),Inv X pins σ H s->RelV x v->RelV y u->r x y H Q->
    wpAny (model X.prog X.w) X.A (f v u) (EP X pins σ Q) X.xe s
def UnR (X:Cx) (f:Value->Sem Value) (r:V->Hp->VK->Prop):Prop:=
  ∀(pins:List (Addr × Obj)) (s:Shared) (σ:St) (H:Hp) (x:V) (v:Value) (Q:VK),Inv X pins σ H s->RelV x v->r x H Q->
    wpAny (model X.prog X.w) X.A (f v) (EP X pins σ Q) X.xe s
def Dj (X:Cx) (f:Value) (r:List V->Hp->VK->Prop):Prop:=
  ∀(pins:List (Addr × Obj)) (s:Shared) (σ:St) (H:Hp) (xs:List V) (us:List Value) (Q:VK),Inv X pins σ H s->Vals xs us->r xs H Q->
    wpAny (model X.prog X.w) X.A (call f us) (EP X pins σ Q) X.xe s
def tOp (r:R2) (ta tb:TE):TE:=fun σ H Q=>ta σ H fun x H1=>tb σ H1 fun y H2=>r x y H2 Q
def tUn (r:V->Hp->VK->Prop) (ta:TE):TE:=fun σ H Q=>ta σ H fun x H1=>r x H1 Q
def rI (C:Int->Int->Prop) (g:Int->Int->V):R2:=fun x y H Q=>∃i j,x= .int i/\y= .int j/\C i j/\Q (g i j) H
def rI0 (g:Int->Int->V):R2:=fun x y H Q=>∃i j,x= .int i/\y= .int j/\Q (g i j) H
def rU (g:Int->V):V->Hp->VK->Prop:=fun x H Q=>∃i,x= .int i/\Q (g i) H
section
variable {X:Cx}{a b c:Expr}{ta tb tc:TE}{pos:Pos}
theorem U3 (ha:PE X a ta) (hb:PE X b tb) {pins:List (Addr × Obj)}{s:Shared}{σ:St}{H:Hp}{R:V->V->Hp->Prop} (I:Inv X pins σ H s)
    (h:ta σ H fun x H1=>tb σ H1 fun y H2=>R x y H2) {Q:Value->Shared->Prop}{f:Value->Value->Sem Value}
    (hf:∀v u s2 x y H2,Inv X pins σ H2 s2->RelV x v->RelV y u->R x y H2->wpAny (model X.prog X.w) X.A (f v u) Q X.xe s2):
    wpAny (model X.prog X.w) X.A (eval a X.env) (fun v s₁=>wpAny (model X.prog X.w) X.A (eval b X.env) (fun u s₂=>wpAny (model X.prog X.w) X.A (f v u) Q X.xe s₂) X.xe s₁) X.xe s:=by
  refine thn (ha pins s σ H _ I h) fun v s1 ⟨x,H1,I1,r1,q1⟩=> ?_
  refine thn (hb pins s1 σ H1 _ I1 q1) fun u s2 ⟨y,H2,I2,r2,q2⟩=> ?_
  exact hf v u s2 x y H2 I2 r1 r2 q2
theorem Aj {op:Operator}{r:R2} (ho:OpR X (binaryOp op) r) (ha:PE X a ta) (hb:PE X b tb):PE X (.BinOp a op b pos) (tOp r ta tb):=by
  intro pins s σ H Q I h
  exact wpAny_BinOp (U3 ha hb I h fun v u s2 x y H2 I2 rx ry q=>ho pins s2 σ H2 x y v u Q I2 rx ry q)
theorem Nh {op:UnaryOp}{r:V->Hp->VK->Prop} (ho:UnR X (unaryOp op) r) (ha:PE X a ta):PE X (.UnaryOp op a pos) (tUn r ta):=by
  intro pins s σ H Q I h
  exact UnaryOp_ (thn (ha pins s σ H _ I h) fun v s1 ⟨x,H1,I1,r1,q1⟩=>ho pins s1 σ H1 x v Q I1 r1 q1)
theorem opI {f:Value->Value->Sem Value}{C:Int->Int->Prop}{g:Int->Int->Int}
    (rule:∀(i j:Int) (t u:Tok) (s:Shared) (Q:Value->Shared->Prop) (E:Value->Shared->Prop),C i j->Q (.int (g i j) s.toks) { s with toks:=s.toks+1}->wpAny (model X.prog X.w) X.A (f (.int i t) (.int j u)) Q E s):
    OpR X f (rI C fun i j=> .int (g i j)):=by
  intro pins s σ H x y v u Q I rx ry h
  obtain⟨i,j,rfl,rfl,hc,q⟩:=h
  obtain⟨t,rfl⟩:=rx
  obtain⟨t',rfl⟩:=ry
  exact rule i j t t' s _ _ hc ⟨.int (g i j),H,I.tok _,⟨_,rfl⟩,q⟩
theorem V4 {f:Value->Value->Sem Value}{g:Int->Int->Int}
    (rule:∀(i j:Int) (t u:Tok) (s:Shared) (Q:Value->Shared->Prop) (E:Value->Shared->Prop),Q (.int (g i j) s.toks) { s with toks:=s.toks+1}->wpAny (model X.prog X.w) X.A (f (.int i t) (.int j u)) Q E s):
    OpR X f (rI0 fun i j=> .int (g i j)):=by
  intro pins s σ H x y v u Q I rx ry h
  obtain⟨i,j,rfl,rfl,q⟩:=h
  obtain⟨t,rfl⟩:=rx
  obtain⟨t',rfl⟩:=ry
  exact rule i j t t' s _ _ ⟨.int (g i j),H,I.tok _,⟨_,rfl⟩,q⟩
theorem Vj {f:Value->Value->Sem Value}{g:Int->Int->Bool}
    (rule:∀(i j:Int) (t u:Tok) (s:Shared) (Q:Value->Shared->Prop) (E:Value->Shared->Prop),Q (.bool (g i j)) s->wpAny (model X.prog X.w) X.A (f (.int i t) (.int j u)) Q E s):
    OpR X f (rI0 fun i j=> .bl (g i j)):=by
  intro pins s σ H x y v u Q I rx ry h
  obtain⟨i,j,rfl,rfl,q⟩:=h
  obtain⟨t,rfl⟩:=rx
  obtain⟨t',rfl⟩:=ry
  exact rule i j t t' s _ _ ⟨.bl (g i j),H,I,rfl,q⟩
def Wi (i j:Int):Prop:=0<=j/\j<=1000000/\i.natAbs<2^64
def V1 (i j:Int):Prop:=(-(2^64)<i/\i<2^64)\/(-(2^64)<j/\j<2^64)
theorem V1.ok {i j:Int} (h:V1 i j):IntMulOk i j:=by
  rcases h with⟨h1,h2⟩ | ⟨h1,h2⟩
  . exact .of_left (intBits_le_64 h1 h2)
  . exact .of_right (intBits_le_64 h1 h2)
theorem Bp:OpR X (binaryOp .Add) (rI0 fun i j=> .int (i+j)):=V4 fun _ _ _ _ _ _ _ q=>add_int q
theorem M6:OpR X (binaryOp .Sub) (rI0 fun i j=> .int (i-j)):=V4 fun _ _ _ _ _ _ _ q=>sub_int q
theorem Fz:OpR X (binaryOp .Mod) (rI (fun _ j=>0<j) fun i j=> .int (i%j)):=opI fun i j _ _ _ _ _ hc q=>by
  have h1:(0:Int)<j:=hc
  exact mod_int' (by omega) (by rw [Int.fmod_eq_emod_of_nonneg i (by omega)];exact q)
theorem Dl:OpR X (binaryOp .Pow) (rI Wi fun i j=> .int (i^j.toNat)):=opI fun _ _ _ _ _ _ _ hc q=>pow_int_small hc.1 hc.2.1 hc.2.2 q
theorem unI {f:Value->Sem Value}{g:Int->Int}
    (rule:∀(i:Int) (t:Tok) (s:Shared) (Q:Value->Shared->Prop) (E:Value->Shared->Prop),Q (.int (g i) s.toks) { s with toks:=s.toks+1}->wpAny (model X.prog X.w) X.A (f (.int i t)) Q E s):
    UnR X f (rU fun i=> .int (g i)):=by
  intro pins s σ H x v Q I rx h
  obtain⟨i,rfl,q⟩:=h
  obtain⟨t,rfl⟩:=rx
  exact rule i t s _ _ ⟨.int (g i),H,I.tok _,⟨_,rfl⟩,q⟩
theorem Pb:UnR X (unaryOp .USub) (rU fun i=> .int (-i)):=unI fun _ _ _ _ _ q=>neg_int q
end
def Rk:V->V->Bool
  | .non,.non=>true | .non,.int _=>true | .int _,.non=>true | .non,.bl _=>true | .bl _,.non=>true | .non,.str _=>true | .str _,.non=>true
  | .int _,.int _=>true | .bl _,.bl _=>true | .str _,.str _=>true | .byt _,.byt _=>true
  | .int _,.str _=>true | .str _,.int _=>true | .bl _,.str _=>true | .str _,.bl _=>true
  | _,_=>false
def rEq:R2:=fun x y H Q=>Rk x y=true/\Q (.bl (decide (x=y))) H
def rNe:R2:=fun x y H Q=>Rk x y=true/\Q (.bl (!decide (x=y))) H
theorem K5 {i j:Int}:decide (V.int i=V.int j)=(i==j):=by
  rw [Bool.eq_iff_iff]
  simp
theorem Pk {i j:Bool}:decide (V.bl i=V.bl j)=(i==j):=by
  rw [Bool.eq_iff_iff]
  simp
theorem K6 {i j:Str}:decide (V.str i=V.str j)=(i==j):=by
  rw [Bool.eq_iff_iff]
  simp
theorem Ly {i j:Array UInt8}:decide (V.byt i=V.byt j)=(i.toList==j.toList):=by
  rw [Bool.eq_iff_iff]
  cases i
  cases j
  simp
section
variable {X:Cx}{a b c:Expr}{ta tb tc:TE}{pos:Pos}
theorem Ak {pins:List (Addr × Obj)}{σ:St}{H:Hp}{s:Shared}{Q:VK}{k k':Bool} (I:Inv X pins σ H s) (q:Q (.bl k) H) (e:k=k'):EP X pins σ Q (.bool k') s:=by
  subst e
  exact⟨.bl k,H,I,rfl,q⟩
theorem Kh:OpR X (compareOp .Eq) rEq:=by
  intro pins s σ H x y v u Q I rx ry h
  obtain⟨hs,q⟩:=h
  cases x with
  | non=>
    cases rx
    cases y with
    | non=>cases ry;exact PySem.EqNone.eq_none_none (Ak I q (by simp))
    | bl j=>cases ry;exact PySem.EqNone.eq_none_bool (Ak I q (by simp))
    | int j=>obtain⟨t',rfl⟩:=ry;exact PySem.EqNone.eq_none_int (Ak I q (by simp))
    | str j=>obtain⟨t',rfl⟩:=ry;exact PySem.EqNone.eq_none_str (Ak I q (by simp))
    | _=>exact absurd (show false=true from hs) Bool.false_ne_true
  | bl i=>
    cases rx
    cases y with
    | non=>cases ry;exact PySem.EqNone.eq_bool_none (Ak I q (by simp))
    | bl j=>cases ry;exact eq_bool (Ak I q Pk)
    | str j=>obtain⟨t',rfl⟩:=ry;exact PySem.EqMixed.eq_bool_str (Ak I q (by simp))
    | _=>exact absurd (show false=true from hs) Bool.false_ne_true
  | int i=>
    obtain⟨t,rfl⟩:=rx
    cases y with
    | non=>cases ry;exact PySem.EqNone.eq_int_none (Ak I q (by simp))
    | int j=>obtain⟨t',rfl⟩:=ry;exact eq_int (Ak I q K5)
    | str j=>obtain⟨t',rfl⟩:=ry;exact PySem.EqMixed.eq_int_str (Ak I q (by simp))
    | _=>exact absurd (show false=true from hs) Bool.false_ne_true
  | str i=>
    obtain⟨t,rfl⟩:=rx
    cases y with
    | non=>cases ry;exact PySem.EqNone.eq_str_none (Ak I q (by simp))
    | bl j=>cases ry;exact PySem.EqMixed.eq_str_bool (Ak I q (by simp))
    | int j=>obtain⟨t',rfl⟩:=ry;exact PySem.EqMixed.eq_str_int (Ak I q (by simp))
    | str j=>obtain⟨t',rfl⟩:=ry;exact eq_str (Ak I q K6)
    | _=>exact absurd (show false=true from hs) Bool.false_ne_true
  | byt i=>
    obtain⟨t,rfl⟩:=rx
    cases y with
    | byt j=>obtain⟨t',rfl⟩:=ry;exact PySem.W.eq_bytes (Ak I q Ly)
    | _=>exact absurd (show false=true from hs) Bool.false_ne_true
  | _=>cases y<;>exact absurd (show false=true from hs) Bool.false_ne_true
theorem Kw:OpR X (compareOp .NotEq) rNe:=by
  intro pins s σ H x y v u Q I rx ry h
  obtain⟨hs,q⟩:=h
  cases x with
  | non=>
    cases rx
    cases y with
    | non=>cases ry;exact PySem.EqNone.ne_none_none (Ak I q (by simp))
    | bl j=>cases ry;exact PySem.EqNone.ne_none_bool (Ak I q (by simp))
    | int j=>obtain⟨t',rfl⟩:=ry;exact PySem.EqNone.ne_none_int (Ak I q (by simp))
    | str j=>obtain⟨t',rfl⟩:=ry;exact PySem.EqNone.ne_none_str (Ak I q (by simp))
    | _=>exact absurd (show false=true from hs) Bool.false_ne_true
  | bl i=>
    cases rx
    cases y with
    | non=>cases ry;exact PySem.EqNone.ne_bool_none (Ak I q (by simp))
    | bl j=>cases ry;exact ne_bool (Ak I q (congrArg not Pk))
    | str j=>obtain⟨t',rfl⟩:=ry;exact PySem.EqMixed.ne_bool_str (Ak I q (by simp))
    | _=>exact absurd (show false=true from hs) Bool.false_ne_true
  | int i=>
    obtain⟨t,rfl⟩:=rx
    cases y with
    | non=>cases ry;exact PySem.EqNone.ne_int_none (Ak I q (by simp))
    | int j=>obtain⟨t',rfl⟩:=ry;exact ne_int (Ak I q (congrArg not K5))
    | str j=>obtain⟨t',rfl⟩:=ry;exact PySem.EqMixed.ne_int_str (Ak I q (by simp))
    | _=>exact absurd (show false=true from hs) Bool.false_ne_true
  | str i=>
    obtain⟨t,rfl⟩:=rx
    cases y with
    | non=>cases ry;exact PySem.EqNone.ne_str_none (Ak I q (by simp))
    | bl j=>cases ry;exact PySem.EqMixed.ne_str_bool (Ak I q (by simp))
    | int j=>obtain⟨t',rfl⟩:=ry;exact PySem.EqMixed.ne_str_int (Ak I q (by simp))
    | str j=>obtain⟨t',rfl⟩:=ry;exact ne_str (Ak I q (congrArg not K6))
    | _=>exact absurd (show false=true from hs) Bool.false_ne_true
  | byt i=>
    obtain⟨t,rfl⟩:=rx
    cases y with
    | byt j=>obtain⟨t',rfl⟩:=ry;exact PySem.W.ne_bytes (Ak I q (congrArg not Ly))
    | _=>exact absurd (show false=true from hs) Bool.false_ne_true
  | _=>cases y<;>exact absurd (show false=true from hs) Bool.false_ne_true
theorem Ti:OpR X (compareOp .Lt) (rI0 fun i j=> .bl (decide (i<j))):=Vj fun _ _ _ _ _ _ _ q=>lt_int q
theorem Tw:OpR X (compareOp .Gt) (rI0 fun i j=> .bl (decide (j<i))):=Vj fun _ _ _ _ _ _ _ q=>gt_int q
theorem Vh:OpR X (compareOp .GtE) (rI0 fun i j=> .bl (decide (j<=i))):=Vj fun _ _ _ _ _ _ _ q=>ge_int q
theorem Ax (b:Expr) {op:CmpOp} (h:op≠ .In:=by decide) (h2:op≠ .NotIn:=by decide):behindInMarks op b=false:=by
  have e1:(op==CmpOp.In)=false:=by cases op<;>first | rfl | exact absurd rfl h
  have e2:(op==CmpOp.NotIn)=false:=by cases op<;>first | rfl | exact absurd rfl h2
  cases b<;>simp [behindInMarks,e1,e2]
theorem Du {op:CmpOp}{r:R2} (ho:OpR X (compareOp op) r) (ha:PE X a ta) (hb:PE X b tb) (hm:behindInMarks op b=false):PE X (.Compare a [op] [b] pos) (tOp r ta tb):=by
  intro pins s σ H Q I h
  exact wpAny_Compare1 (U3 ha hb I h fun v u s2 x y H2 I2 rx ry q=>ho pins s2 σ H2 x y v u Q I2 rx ry q) hm
def Q8 (t:TE):TT:=fun σ H Q=>t σ H fun x H'=>∃k,x= .bl k/\Q k H'
theorem Am {op:CmpOp}{r:R2} (ho:OpR X (compareOp op) r) (ha:PE X a ta) (hb:PE X b tb) (hm:behindInMarks op b=false):PT X (.Compare a [op] [b] pos) (Q8 (tOp r ta tb)):=by
  intro pins s σ H Q I h
  refine wpAny_isTrue_Compare1 (thn (ha pins s σ H _ I h) fun v s1 ⟨x,H1,I1,r1,q1⟩=>thn (hb pins s1 σ H1 _ I1 q1) fun u s2 ⟨y,H2,I2,r2,q2⟩=>
    thn (ho pins s2 σ H2 x y v u _ I2 r1 r2 q2) fun c s3 ⟨z,H3,I3,r3,k,e,q3⟩=> ?_) hm
  subst e
  cases r3
  exact wpAny_truthy_bool ⟨H3,I3,q3⟩
theorem La:(sizeLine:Nat)<2^63:=by rw [sizeLine_eq];decide
theorem vals1 {x:V}{us:List Value} (r:Vals [x] us):∃u,us=[u]/\RelV x u:=by
  cases r with
  | cons r1 r2=>cases r2;exact⟨_,rfl,r1⟩
theorem vals2 {x y:V}{us:List Value} (r:Vals [x,y] us):∃u w',us=[u,w']/\RelV x u/\RelV y w':=by
  cases r with
  | cons r1 r2=>
    cases r2 with
    | cons r3 r4=>cases r4;exact⟨_,_,rfl,r1,r3⟩
end
end L2
namespace L2
open PySem PySem.Spec PyProof.Rows
structure Ux (h:Heap) (x dx C:Addr) (mA:Str->Option Value):Prop where
  obj:h.get? x=some (PySem.W.instObj C dx)
  ns:h.Ns1 dx mA
  ne:dx≠x
theorem Mt {h:Heap}{dx:Addr}{mA:Str->Option Value} (n:h.Ns1 dx mA):∃od,h.get? dx=some od/\∀name,PySem.W.lookIn name od=some (mA name):=by
  obtain⟨o,es,ep,ho,hd,hk,_,hm⟩:=n
  refine⟨o,ho,fun name=> ?_⟩
  have e:=hm name
  unfold nsFind findBy at e
  rw [<-Array.find?_toList]at e
  unfold PySem.W.lookIn
  rw [hd]
  dsimp only
  split
  . rename_i y q
    rw [q]at e
    exact congrArg some e
  . rename_i q
    rw [q]at e
    have a:es.toList.any (·.refKey)=false:=by
      rw [List.any_eq_false]
      intro y hy
      obtain⟨z,t,hkey⟩:=hk y (Array.mem_toList_iff.mp hy)
      simp [DictEntry.refKey,hkey]
    have a':¬es.toList.any (·.refKey)=true:=by rw [a];exact Bool.false_ne_true
    rw [if_neg a']
    exact congrArg some e
theorem Ux.look {h:Heap}{x dx C:Addr}{mA:Str->Option Value} (I:Ux h x dx C mA):∃od,PySem.W.InstAt h x (PySem.W.instObj C dx) C (some od)/\∀name,PySem.W.lookIn name od=some (mA name):=
  let ⟨od,ho,hl⟩:=Mt I.ns
  ⟨od,⟨I.obj,rfl,rfl,ho⟩,hl⟩
section
variable {P:Program}{w:World}{H H':Hp}{h h':Heap}{a C dx:Addr}{fs fs':List (Str × V)}
theorem Rg (hok:HOk P w H h) (e:H a=some (.ins C dx fs)):∃mA,Ux h a dx C mA/\(∀f,Ng (fs.lookup f) (mA f))/\PySem.Within mA (fs.map (·.1))/\fs.length<=1000/\H dx=some (.own a):=by
  obtain⟨d,z,ne,ob,mA,n,r,q⟩:=(show Bd P w H h a (.ins C dx fs)from hok a _ e)
  exact⟨mA,⟨ob,n,ne⟩,r,q,z,d⟩
end
structure Cls (K:PySem.W.Frag) (C:Addr):Prop where
  pg:PySem.W.plainGet K C Str.empty=true
  hd:PySem.W.hasDictIn K C=true
  po:PySem.W.plainOver K C=true
  sa:PySem.W.findIn K (.ref C) "__setattr__"=some (some (.builtin "object.__setattr__"))
theorem Cls.get {K:PySem.W.Frag}{C:Addr} (c:Cls K C) (f:Str):PySem.W.plainGet K C f=true:=c.pg
structure Con (K:PySem.W.Frag) (C:Addr) (f:Str) (v:V) (u:Value):Prop where
  at_:PySem.W.findIn K (.ref C) f=some (some u)
  rel:RelV v u
  get:PySem.W.specialIn K u "__get__"=some none
  cp:PySem.W.copiedNames.contains f=false
structure Meth (K:PySem.W.Frag) (C:Addr) (m:Str) (f:Addr):Prop where
  at_:PySem.W.findIn K (.ref C) m=some (some (.ref f))
  fn:PySem.W.isFn K (.ref f)=true
  kp:PySem.W.keepIn K (.ref f)=true
section
variable {X:Cx}{pins:List (Addr × Obj)}{σ:St}{H:Hp}{s:Shared}{A:Around}{E:Value->Shared->Prop}{Q:Value->Shared->Prop}{c:Value}{b:Bool}
inductive Ir (K:PySem.W.Frag) (H:Hp):V->Value->Prop where
  | non:Ir K H .non (.type "NoneType")
  | bl (x:Bool):Ir K H (.bl x) (.type "bool")
  | int (i:Int):Ir K H (.int i) (.type "int")
  | str (x:Str):Ir K H (.str x) (.type "str")
  | flt (x:UInt64):Ir K H (.flt x) (.type "float")
  | lst {a:Addr}{xs:List V} (e:H a=some (.lst xs)):Ir K H (.ref a) (.type "list")
  | frz {a:Addr}{o:Obj}{xs:List V} (e:H a=some (.frz o (.lst xs))):Ir K H (.ref a) (.type "list")
  | tup {a:Addr}{xs:List V} (e:H a=some (.tup xs)):Ir K H (.ref a) (.type "tuple")
  | dK {a:Addr}{kvs:List (Key × V)} (e:H a=some (.dK kvs)):Ir K H (.ref a) (.type "dict")
  | dT {a:Addr}{kvs:List (List Key × V)} (e:H a=some (.dT kvs)):Ir K H (.ref a) (.type "dict")
  | ins {a C dx:Addr}{fs:List (Str × V)} (e:H a=some (.ins C dx fs)) (cl:Cls K C) (ha:PySem.W.findIn K (.ref C) "__class__"=some (some (.builtin "object.__class__")))
      (hn:PySem.W.specialIn K (.builtin "object.__class__") "__get__"=some (some (.builtin "getset_descriptor.__get__"))) (htk:PySem.W.takesIn K (.builtin "object.__class__")=some true)
      (hm:PySem.W.mroIn K C (.type "object")=some true):Ir K H (.ref a) (.ref C)
theorem Lh {x:V}{u t:Value} (I:Inv X pins σ H s) (rx:RelV x u) (ty:Ir X.K H x t) (e:PySem.W.kitOne X.K t c=some b) (h:∀tk,Q (.bool b) { s with toks:=tk}):
    wpAny (model X.prog X.w) A (call (.builtin "isinstance") [u,c]) Q E s:=by
  cases ty with
  | non=>cases(show u=Value.none from rx);exact PySem.W.kia_one PySem.W.kitx_none I.kIn True.intro e (fun z=>nomatch z) h
  | bl y=>cases(show u=Value.bool y from rx);exact PySem.W.kia_one PySem.W.kitx_bool I.kIn True.intro e (fun z=>nomatch z) h
  | int i=>obtain⟨t,q⟩:=(show ∃t,u=Value.int i t from rx);cases q;exact PySem.W.kia_one PySem.W.kitx_int I.kIn True.intro e (fun z=>nomatch z) h
  | str y=>obtain⟨t,q⟩:=(show ∃t,u=Value.str y t from rx);cases q;exact PySem.W.kia_one PySem.W.kitx_str I.kIn True.intro e (fun z=>nomatch z) h
  | flt y=>obtain⟨t,q⟩:=(show ∃t,u=Value.float y t from rx);cases q;exact PySem.W.kia_one PySem.W.kitx_float I.kIn True.intro e (fun z=>nomatch z) h
  | @lst a xs ea=>
    cases(show u=Value.ref a from rx)
    obtain⟨_,_,n,_,h1⟩:=(show Bd X.prog X.w H s.heap a (.lst xs)from I.hok a _ ea)
    exact PySem.W.kia_one PySem.W.kitx_list I.kIn ⟨_,h1,rfl⟩ e (fun z=>nomatch z) h
  | @frz a ob xs ea=>
    cases(show u=Value.ref a from rx)
    obtain⟨_,_,_,n,_,h1⟩:=(show Bd X.prog X.w H s.heap a (.frz ob (.lst xs))from I.hok a _ ea)
    exact PySem.W.kia_one PySem.W.kitx_list I.kIn ⟨_,h1,rfl⟩ e (fun z=>nomatch z) h
  | @tup a xs ea=>
    cases(show u=Value.ref a from rx)
    obtain⟨_,_,_,p⟩:=(show Bd X.prog X.w H s.heap a (.tup xs)from I.hok a _ ea)
    obtain⟨o,h1,h2,_⟩:=p
    exact PySem.W.kia_one PySem.W.kitx_tuple I.kIn ⟨o,h1,h2⟩ e (fun z=>nomatch z) h
  | @dK a kvs ea=>
    cases(show u=Value.ref a from rx)
    obtain⟨_,_,vs,_,p⟩:=(show Bd X.prog X.w H s.heap a (.dK kvs)from I.hok a _ ea)
    obtain⟨o,es,ep,h1,h2,_⟩:=p
    exact PySem.W.kia_one PySem.W.kitx_dict I.kIn ⟨o,h1,h2.1⟩ e (fun z=>nomatch z) h
  | @dT a kvs ea=>
    cases(show u=Value.ref a from rx)
    obtain⟨_,_,xs,_,o,es,ep,h1,h2,_⟩:=(show Bd X.prog X.w H s.heap a (.dT kvs)from I.hok a _ ea)
    exact PySem.W.kia_one PySem.W.kitx_dict I.kIn ⟨o,h1,h2.1⟩ e (fun z=>nomatch z) h
  | @ins a C dx fs ea cl ha hn htk hm=>
    cases(show u=Value.ref a from rx)
    obtain⟨mA,O,_⟩:=Rg I.hok ea
    obtain⟨od,J,_⟩:=O.look
    exact PySem.W.kia_one (PySem.W.kitx_own (cl.get _) cl.hd ha hn htk hm) I.kIn J e (fun z=>nomatch z) h
end
end L2
namespace L2
open PySem PySem.Spec PyProof.Rows
structure Ew (k:Nat) (A:Around):Prop where
  hd:A.handled=none
  dp:A.depth+3*k+5<recursionLimit
  un:A.units+16*k+200<cLine
theorem Ew.mono {j k:Nat}{A:Around} (r:Ew k A) (h:j<=k):Ew j A:=⟨r.hd,by have:=r.dp;omega,by have:=r.un;omega⟩
theorem Ew.deeper {k:Nat}{A:Around} (r:Ew (k+1) A) (env:Env):Ew k (A.deeper env):=
  ⟨r.hd,by have:=r.dp;show A.depth+1+3*k+5<_;omega,by have:=r.un;show A.units+3+16*k+200<_;omega⟩
theorem Ew.in1 {k:Nat}{A:Around} (r:Ew (k+1) A):Ew k A.in1:=
  ⟨r.hd,by have:=r.dp;show A.depth+3*k+5<_;omega,by have:=r.un;show A.units+1+16*k+200<_;omega⟩
theorem Ew.depth {k:Nat}{A:Around} (r:Ew k A):A.depth<recursionLimit:=by have:=r.dp;omega
theorem Ew.units {k:Nat}{A:Around} (r:Ew k A):A.units+64<cLine:=by have:=r.un;omega
def Vt:TA:=fun _ H Q=>Q [] H
def Oj (ta:TE) (tr:TA):TA:=fun σ H Q=>ta σ H fun x H1=>tr σ H1 fun xs H2=>Q (x::xs) H2
section
variable {X:Cx}{e:Expr}{es:List Expr}{te:TE}{t:TA}{pos:Pos}
theorem Ab:PA X [] Vt:=fun _ _ _ _ H Q I h=>Calls.spliced_nil ⟨[],H,I,.nil,h⟩
theorem Qm (ha:PE X e te) (hr:PA X es t) (hs:starEach (e::es) X.env=(false,eval e X.env)::starEach es X.env:=by rfl):PA X (e::es) (Oj te t):=by
  intro pos pins s σ H Q I h
  rw [hs]
  show wpAny _ _ (spliced ((false,eval e X.env)::backTo pos (starEach es X.env))) _ _ s
  refine Calls.spliced_cons (thn (ha pins s σ H _ I h) fun u s1 ⟨x,H1,I1,r1,q1⟩=> ?_)
  exact thn (hr pos pins s1 σ H1 _ I1 q1) fun us s2 ⟨xs,H2,I2,r2,q2⟩=>⟨x::xs,H2,I2,.cons r1 r2,q2⟩
def Uw (t:TA):TE:=fun σ H Q=>t σ H fun xs H1=>xs.length<=sizeLine/\∀p,H1 p=none->Q (.ref p) (upd H1 p (.tup xs))
def Vn (t:TA):TE:=fun σ H Q=>t σ H fun xs H1=>xs.length<=sizeLine/\∀p,H1 p=none->Q (.ref p) (upd H1 p (.lst xs))
theorem Ah {x1} (h:PA X es t):PE X (.Tuple es x1 pos) (Uw t):=by
  intro pins s σ H Q I hq
  refine wpAny_Tuple_spliced (thn (h pos pins s σ H _ I hq) fun us s1 ⟨xs,H1,I1,r,z,q⟩=>⟨by rw [<-r.length];exact z,?_⟩)
  have hf:H1 s1.heap.objs.size=none:=I1.hok.fresh (Nat.le_refl _)
  refine⟨.ref s1.heap.objs.size,upd H1 s1.heap.objs.size (.tup xs),I1.laid (t':=s1.toks) (fun b u e=>Heap.get?_push_of_some _ e) (Nat.le_refl _) ?_,rfl,q _ hf⟩
  exact⟨z,us,r,⟨_,Heap.get?_push_size _ rfl,rfl,_,rfl⟩⟩
theorem Br (h:PA X es t):PE X (.List es pos) (Vn t):=by
  intro pins s σ H Q I hq
  refine wpAny_List_spliced (thn (h pos pins s σ H _ I hq) fun us s1 ⟨xs,H1,I1,r,z,q⟩=>⟨by rw [<-r.length];exact z,?_⟩)
  have hf:H1 s1.heap.objs.size=none:=I1.hok.fresh (Nat.le_refl _)
  refine⟨.ref s1.heap.objs.size,upd H1 s1.heap.objs.size (.lst xs),I1.laid (t':=s1.toks) (fun b u e=>Heap.get?_push_of_some _ e) (Nat.le_refl _) ?_,rfl,q _ hf⟩
  exact⟨z,us,0,r,Heap.get?_push_size _ rfl⟩
end
abbrev Sp:=List V->Hp->VK->XK->Prop
abbrev CXT:=List Env->Hp->Shared->XK->Value->Shared->Prop
structure Qu (P:Program) (w:World) (K:PySem.W.Frag) (mg:Str->Option Value) (base:Heap) (A:Around) (outer:List Env) (s:Shared) (H:Hp):Prop where
  frames:A.frames=some outer
  mod:Mod K mg base
  bs:∀b o,base.get? b=some o->s.heap.get? b=some o/\H b=none
  bsz:base.objs.size<=s.heap.objs.size
  funs:s.heap.FunFrames base outer
  frf:∀b∈frs outer,H b=none
  hok:HOk P w H s.heap
  bare:AllBare s.gens
def CE (outer:List Env) (P:Program) (w:World) (H:Hp) (s:Shared) (Q:VK) (u:Value) (s':Shared):Prop:=
  ∃v H',s'.os=s.os/\AllBare s'.gens/\Un (frs outer) [] H H' s.heap s'.heap/\HOk P w H' s'.heap/\RelV v u/\Q v H'
def CR (CX:CXT) (outer:List Env) (P:Program) (w:World) (H:Hp) (s:Shared) (Q:VK) (E:XK) (r:Result) (s':Shared):Prop:=
  match r with
  | .ok (.ret u)=>CE outer P w H s Q u s'
  | .ok _=>False
  | .error e=>CX outer H s E e s'
structure Hf (P:Program) (w:World) (K:PySem.W.Frag) (mg:Str->Option Value) (base:Heap) (CX:CXT) (k:Nat) (f:Addr) (fd:FuncData) (ps:List Str) (sp:Sp):Prop where
  len:∀vs H Q E,sp vs H Q E->vs.length=ps.length
  run:∀(A:Around) (outer:List Env) (s:Shared) (H:Hp) (args:Args) (us:List Value) (vs:List V) (Q:VK) (E:XK),Ew k A->Qu P w K mg base A outer s H->BindsTo s fd args (ps.zip us)->Vals vs us->sp vs H Q E->
    codeAny (model P w) A (.call (.ref f) args) (CR CX outer P w H s Q E) s
theorem Hf.mono {P:Program}{w:World}{K:PySem.W.Frag}{mg:Str->Option Value}{base:Heap}{CX:CXT}{j k:Nat}{f:Addr}{fd:FuncData}{ps:List Str}{sp:Sp} (F:Hf P w K mg base CX j f fd ps sp) (h:j<=k):
    Hf P w K mg base CX k f fd ps sp:=⟨F.len,fun A outer s H args us vs Q E hr=>F.run A outer s H args us vs Q E (hr.mono h)⟩
theorem Hf.imp {P:Program}{w:World}{K:PySem.W.Frag}{mg:Str->Option Value}{base:Heap}{CX:CXT}{k:Nat}{f:Addr}{fd:FuncData}{ps:List Str}{sp sp':Sp} (F:Hf P w K mg base CX k f fd ps sp)
    (h:∀vs H Q E,sp' vs H Q E->sp vs H Q E):Hf P w K mg base CX k f fd ps sp':=
  ⟨fun vs H Q E q=>F.len vs H Q E (h _ _ _ _ q),fun A outer s H args us vs Q E hr he hb hv hs=>F.run A outer s H args us vs Q E hr he hb hv (h _ _ _ _ hs)⟩
theorem Qu.in1 {P:Program}{w:World}{K:PySem.W.Frag}{mg:Str->Option Value}{base:Heap}{A:Around}{outer:List Env}{s:Shared}{H:Hp} (e:Qu P w K mg base A outer s H):
    Qu P w K mg base A.in1 outer s H:=⟨e.frames,e.mod,e.bs,e.bsz,e.funs,e.frf,e.hok,e.bare⟩
section
variable {X:Cx}{pins:List (Addr × Obj)}{σ:St}{H:Hp}{s s':Shared}
theorem Inv.env0 (I:Inv X pins σ H s):Qu X.prog X.w X.K X.mg X.base X.A X.stack s H:=
  ⟨I.ok.frames,I.ok.mod,I.bs,Nat.le_trans I.ok.bsz I.sz,I.stack,I.stkFree,I.hok,I.bare⟩
theorem Inv.after {Q:VK}{u:Value} (I:Inv X pins σ H s) (h:CE X.stack X.prog X.w H s Q u s'):EP X pins σ Q u s':=by
  obtain⟨v,H',os,bare,un,hok,r,q⟩:=h
  obtain⟨hh,g,d,t,os'⟩:=s'
  obtain rfl:os'=s.os:=os
  exact⟨v,H',I.call (h':=hh) (g':=g) (d':=d) (t':=t) (ch:=[]) un hok bare (fun b z=>absurd z (by simp)),r,q⟩
end
def Lp (sp:Sp) (dvs:List V) (E:XK) (t:TA):TE:=fun σ H Q=>t σ H fun vs H1=>sp (vs++dvs) H1 Q E
def Binds (K:PySem.W.Frag) (fd:FuncData) (ps:List Str) (ds:List Value):Prop:=
  ∀(s:Shared) (us:List Value),K.In s.heap->(us++ds).length=ps.length->BindsTo s fd ⟨us,[]⟩ (ps.zip (us++ds))
theorem Binds.all {K:PySem.W.Frag}{fd:FuncData}{ps:List Str} (h:∀us:List Value,us.length=ps.length->bindArgs fd ⟨us,[]⟩=pure (ps.zip us)):Binds K fd ps []:=fun s us _ hl=>by
  rw [List.append_nil]at hl ⊢
  exact .of_eq (h us hl)
def Passes (CX:CXT) (X:Cx) (E:XK):Prop:=∀(pins:List (Addr × Obj)) (σ:St) (H:Hp) (s:Shared) (e:Value) (s':Shared),Inv X pins σ H s->CX X.stack H s E e s'->X.xe e s'
section
variable {X:Cx}{CX:CXT}{k:Nat}{f C:Addr}{fd:FuncData}{ps:List Str}{sp:Sp}{dvs:List V}{ds:List Value}{E:XK}{x m:Str}{p pos apos:Pos}{e o:Expr}{es:List Expr}{ta:TE}{t:TA}
theorem T4 {pins:List (Addr × Obj)}{σ:St}{H:Hp}{s:Shared}{Q:VK}{us:List Value}{vs:List V} (F:Hf X.prog X.w X.K X.mg X.base CX k f fd ps sp) (hr:Ew k X.A) (hb:Binds X.K fd ps ds) (hd:Vals dvs ds) (hx:Passes CX X E)
    (I:Inv X pins σ H s) (r:Vals vs us) (h:sp (vs++dvs) H Q E):wpAny (model X.prog X.w) X.A (call (.ref f) us) (EP X pins σ Q) X.xe s:=by
  have r2:Vals (vs++dvs) (us++ds):=r.append hd
  have hl:(us++ds).length=ps.length:=by rw [<-r2.length];exact F.len _ _ _ _ h
  refine wpAny_call (codeAny_mono (F.run X.A X.stack s H ⟨us,[]⟩ (us++ds) (vs++dvs) Q E hr I.env0 (hb s us I.kIn hl) r2 h) fun r s' hq=> ?_)
  cases r with
  | error e=>exact hx pins σ H s e s' I hq
  | ok fl=>
    cases fl with
    | ret u=>exact I.after hq
    | next=>exact False.elim hq
    | brk=>exact False.elim hq
    | cont=>exact False.elim hq
theorem Ql (F:Hf X.prog X.w X.K X.mg X.base CX k f fd ps sp) (hr:Ew k X.A) (hg:Gl X x) (hm:X.mg x=some (.ref f)) (hk:PySem.W.keepIn X.K (.ref f)=true) (hb:Binds X.K fd ps ds) (hd:Vals dvs ds) (hx:Passes CX X E)
    (ha:PA X (e::es) t) (hdb:(x==("__debug__":Str))=false:=by decide) (he:starEach (e::es) X.env=(false,eval e X.env)::starEach es X.env:=by rfl) (hpl:(backTo pos (starEach es X.env)).any (·.1)=false:=by rfl):
    PE X (.Call (.Name x p) (e::es) [] pos) (Lp sp dvs E t):=by
  intro pins s σ H Q I h
  refine wpAny_Call_Name_kw (Rh I hg hm ?_ hdb)
  refine PySem.W.callWith_K (h₀:=X.base) I.ok.mod.kin hk (thn (ha pos pins s σ H _ I h) fun us s1 ⟨vs,H1,I1,r,q⟩=>⟨I1.kIn,?_⟩) he hpl
  exact T4 F hr hb hd hx I1 r q
structure Mk (K:PySem.W.Frag) (C f:Addr):Prop where
  makes:PySem.W.makesIn K C=true
  init:PySem.W.findIn K (.ref C) "__init__"=some (some (.ref f))
  fn:PySem.W.isFn K (.ref f)=true
  kp:PySem.W.keepIn K (.ref C)=true
end
section
variable {X:Cx}{CX:CXT}{k:Nat}{f C:Addr}{fd:FuncData}{ps ks:List Str}{sp:Sp}{E:XK}{x m:Str}{p pos apos kpos:Pos}{e o:Expr}{es:List Expr}{kws:List Keyword}{te ta:TE}{t tk:TA}{nm:Option Str}
structure V5 (K:PySem.W.Frag) (fd:FuncData) (ps ks:List Str) (g:List Value->List Value->List Value) (gV:List V->List V->List V):Prop where
  to:∀(s:Shared) (us ws:List Value),K.In s.heap->(g us ws).length=ps.length->BindsTo s fd ⟨us,ks.zip ws⟩ (ps.zip (g us ws))
  rel:∀ {vs:List V}{us:List Value}{zs:List V}{ws:List Value},Vals vs us->Vals zs ws->Vals (gV vs zs) (g us ws)
variable {g:List Value->List Value->List Value}{gV:List V->List V->List V}
end
structure Bf (N P:List Str) (sc:Scope):Prop where
  kind:sc.kind= .function
  co:sc.isCoroutine=false
  gen:sc.isGenerator=false
  nd:N.Nodup
  pre:N.take P.length=P
  par:∀x∈P,sc.names.lookup x=some .local \/sc.names.lookup x=some .cell
  nofree:∀y∈sc.names,y.2≠ .free
theorem Hu {kindOf:Str->Option NameKind}{x:Str}:∀ {binds:List (Str × Value)}{m:Str->Option Value},(∀v,(x,v)∉binds)->bindL kindOf binds m x=m x
  | [],_,_=>rfl
  | (n,v)::r,m,h=>by
    unfold bindL
    rw [Hu fun w hw=>h w (List.mem_cons_of_mem _ hw)]
    split
    . have:x≠n:=by rintro rfl;exact h v List.mem_cons_self
      simp [this]
    . rfl
theorem Hq {kindOf:Str->Option NameKind}{x:Str}:∀ {binds:List (Str × Value)}{m:Str->Option Value},(∀v,(x,v)∉binds)->bindC kindOf binds m x=m x
  | [],_,_=>rfl
  | (n,v)::r,m,h=>by
    unfold bindC
    rw [Hq fun w hw=>h w (List.mem_cons_of_mem _ hw)]
    split
    . rfl
    . have:x≠n:=by rintro rfl;exact h v List.mem_cons_self
      simp [this]
theorem Hg {kindOf:Str->Option NameKind}{x:Str}{v:Value}:∀ {P:List Str}{vs:List Value}{i:Nat}{m:Str->Option Value},P.Nodup->P[i]? =some x->vs[i]? =some v->kindOf x=some .local ->
    bindL kindOf (P.zip vs) m x=some v
  | [],_,_,_,_,h,_,_=>by simp at h
  | _::_,[],_,_,_,_,h,_=>by simp at h
  | p::P,w::vs,0,m,nd,h1,h2,hk=>by
    simp at h1 h2;subst h1;subst h2
    show bindL kindOf ((p,w)::P.zip vs) m p=_
    unfold bindL
    rw [Hu fun v hv=>(List.nodup_cons.mp nd).1 (List.of_mem_zip hv).1,if_pos hk]
    simp
  | p::P,w::vs,i+1,m,nd,h1,h2,hk=>by
    show bindL kindOf ((p,w)::P.zip vs) m x=_
    unfold bindL
    exact Hg (i:=i) (List.nodup_cons.mp nd).2 (by simpa using h1) (by simpa using h2) hk
theorem Hs {kindOf:Str->Option NameKind}{x:Str}{v:Value}:∀ {P:List Str}{vs:List Value}{i:Nat}{m:Str->Option Value},P.Nodup->P[i]? =some x->vs[i]? =some v->kindOf x≠some .local ->
    bindC kindOf (P.zip vs) m x=some v
  | [],_,_,_,_,h,_,_=>by simp at h
  | _::_,[],_,_,_,_,h,_=>by simp at h
  | p::P,w::vs,0,m,nd,h1,h2,hk=>by
    simp at h1 h2;subst h1;subst h2
    show bindC kindOf ((p,w)::P.zip vs) m p=_
    unfold bindC
    rw [Hq fun v hv=>(List.nodup_cons.mp nd).1 (List.of_mem_zip hv).1,if_neg hk]
    simp
  | p::P,w::vs,i+1,m,nd,h1,h2,hk=>by
    show bindC kindOf ((p,w)::P.zip vs) m x=_
    unfold bindC
    exact Hs (i:=i) (List.nodup_cons.mp nd).2 (by simpa using h1) (by simpa using h2) hk
def start (N:List Str) (vs:List V):St:=vs.map some++List.replicate (N.length-vs.length) none
def O2 (CX:CXT) (P:Program) (w:World) (K:PySem.W.Frag) (mg:Str->Option Value) (base:Heap) (N:List Str) (qual:Str) (scope:Scope) (f:Addr) (cd:Value) (A:Around) (outer:List Env) (s:Shared) (H:Hp) (E:XK):Cx where
  prog:=P
  w:=w
  K:=K
  mg:=mg
  base:=base
  A:=A.deeper (envOfC qual scope s.heap.objs.size f cd)
  N:=N
  s₀:=s
  H₀:=H
  env:=envOfC qual scope s.heap.objs.size f cd
  outer:=outer
  stack:=envOfC qual scope s.heap.objs.size f cd::outer
  ex:=[]
  calm:=true
  fn:=fun _=>true
  pn:=[]
  xe:=fun e s'=>wpAny (model P w) (A.deeper (envOfC qual scope s.heap.objs.size f cd)) (leaving (envOfC qual scope s.heap.objs.size f cd) e) (fun _ s''=>CX outer H s E e s'') (fun e' s''=>CX outer H s E e' s'') s'
theorem J0 {sc:Scope}{n:Nat}{x:Str} (h:sc.names.lookup x=some .cell):∃c,(cellsFrom n sc.names []).lookup x=some c:=by
  have q:=PySem.W.cellsFrom_some sc.names n [] (.inl h)
  exact Option.isSome_iff_exists.mp q
theorem Lf {CX:CXT}{P:Program}{w:World}{K:PySem.W.Frag}{mg:Str->Option Value}{base:Heap}{N ps:List Str}{qual:Str}{scope:Scope}{f:Addr}{cd:Value}{A:Around}{outer:List Env}{s s1:Shared}{H:Hp}{E:XK}{us:List Value}{vs:List V}
    (S:Bf N ps scope) (hd:A.handled=none) (e0:Qu P w K mg base A outer s H) (hl:vs.length=ps.length) (r:Vals vs us)
    (x:InCallC s s.heap.objs.size (bindL (envOfC qual scope s.heap.objs.size f cd).kindOf (ps.zip us) fun _=>none) (cellsFrom (s.heap.objs.size+1) scope.names []) (bindC (envOfC qual scope s.heap.objs.size f cd).kindOf (ps.zip us) fun _=>none) s1):
    Inv (O2 CX P w K mg base N qual scope f cd A outer s H E) [] (start N vs) H s1:=by
  have hpl:ps.length<=N.length:=by have:=congrArg List.length S.pre;rw [List.length_take]at this;omega
  obtain⟨h1,tk,rfl,hk⟩:=x.done
  have noA:∀b:Addr,b∉(O2 CX P w K mg base N qual scope f cd A outer s H E).ex:=fun b z=>absurd (show b∈([]:List Addr)from z) (by simp)
  refine⟨⟨e0.mod,S.kind,rfl,rfl,Nat.le_refl _,fun y z c h1 h2=> ?_,fun y hy=> ?_,fun y c _ h=> ?_,fun _=>hd,Around.frames_deeper e0.frames,.inr ⟨rfl,rfl⟩,fun b z=>absurd z (noA b),e0.bs,e0.bsz,fun b _ _=>noA b,fun b z=>absurd z (noA b),e0.funs,e0.frf⟩,
    rfl,e0.bare,Un.kept hk,⟨_,x.toInCall.ns,fun i y v h1 h2 h3=> ?_⟩,fun y c h=>⟨_,x.cell y c h⟩,e0.hok.fresh (Nat.le_refl _),fun y c h=> ?_,fun p hp=>absurd (show p∈([]:List (Addr × Obj))from hp) (by simp),e0.hok.kept hk,?_⟩
  . exact name_of_addr x.apart (PySem.mem_of_lookup h1) (PySem.mem_of_lookup h2)
  . have hy:scope.names.lookup y=some .cell\/scope.names.lookup y=some .free:=hy
    rcases hy with hy | hy
    . exact J0 hy
    . exact absurd rfl (S.nofree _ (PySem.mem_of_lookup hy))
  . exact Nat.le_of_lt (x.above y c (PySem.mem_of_lookup h))
  . have hi:i<vs.length:=by
      unfold start at h2
      by_cases hi:i<vs.length
      . exact hi
      . rw [List.getElem?_append_right (by simpa using hi)]at h2
        rw [List.getElem?_replicate]at h2
        split at h2<;>cases h2
    have ha:vs[i]? =some v:=by
      unfold start at h2
      rw [List.getElem?_append_left (by simpa using hi),List.getElem?_map]at h2
      cases e:vs[i]? with
      | none=>rw [e]at h2;cases h2
      | some a=>rw [e]at h2;cases h2;rfl
    obtain⟨u,hu,rv⟩:=r.get ha
    have hp:ps[i]? =some y:=by
      rw [<-S.pre,List.getElem?_take_of_lt (by omega)];exact h1
    have ndP:ps.Nodup:=by rw [<-S.pre];exact S.nd.sublist (List.take_sublist _ _)
    refine⟨u,rv,?_⟩
    rcases S.par y (List.mem_of_getElem? hp)with k | k
    . exact .inl ⟨k,Hg ndP hp hu k⟩
    . obtain⟨c,e⟩:=J0 (n:=s.heap.objs.size+1) k
      refine .inr ⟨.inl k,c,e,?_⟩
      have q:=x.cell y c e
      rw [Hs ndP hp hu (by show scope.names.lookup y≠_;rw [k];decide)]at q
      exact q
  . exact e0.hok.fresh (Nat.le_of_lt (x.above y c (PySem.mem_of_lookup h)))
  . unfold start
    show _=N.length
    rw [List.length_append,List.length_map,List.length_replicate]
    omega
theorem Vi {CX:CXT}{P:Program}{w:World}{K:PySem.W.Frag}{mg:Str->Option Value}{base:Heap}{k:Nat}{f:Addr}{name qual:Str}{params:Arguments}{body:List Stmt}{scope:Scope}{dV kV doc pm cdv ct oc:Value}{an od:Option Addr}
    {osl:Array (Option Value)}{N ps:List Str}{sp:Sp} (lk:K.lookup f=some ⟨oc,od,.func (PySem.W.fnOf name qual params body scope dV kV doc pm an cdv ct),osl⟩) (hcd:PySem.W.codeIn K cdv qual=true) (S:Bf N ps scope)
    (len:∀vs H Q E,sp vs H Q E->vs.length=ps.length)
    (hbody:∀(A:Around) (outer:List Env) (s:Shared) (H:Hp) (vs:List V) (Q:VK) (E:XK),Ew k (A.deeper (envOfC qual scope s.heap.objs.size f cdv))->sp vs H Q E->
      ∃t,PSs (O2 CX P w K mg base N qual scope f cdv A outer s H E) body t/\t { nx:=fun _ H'=>Q .non H',rt:=Q} (start N vs) H):
    Hf P w K mg base CX (k+1) f (PySem.W.fnOf name qual params body scope dV kV doc pm an cdv ct) ps sp:=by
  refine⟨len,fun A outer s H args us vs Q E hr e0 hb r hsp=> ?_⟩
  have hl:=len _ _ _ _ hsp
  have KX:K.In s.heap:=e0.mod.kin.keeps fun b o e=>(e0.bs b o e).1
  have lim:s.heap.NoLimit:=e0.mod.nolimit.keeps fun b o e=>(e0.bs b o e).1
  have hkind:∀y∈ps.zip us,scope.names.lookup y.1=some .local \/(scope.names.lookup y.1=some .cell/\((cellsFrom (s.heap.objs.size+1) scope.names []).lookup y.1).isSome=true):=fun⟨n,v⟩ hy=>by
    rcases S.par n (List.of_mem_zip hy).1 with q | q
    . exact .inl q
    . exact .inr ⟨q,PySem.W.cellsFrom_some _ _ _ (.inl q)⟩
  refine codeAny_call_function hr.depth (KX _ _ lk) rfl S.co S.gen rfl (PySem.W.codeRec_of KX hcd) (hb _ _ _ _ ?_)
  refine wpAny_newFunctionEnv_cells S.kind hkind fun env he s1 x=> ?_
  subst he
  refine⟨lim.keeps x.toInCall.keep,codeAny_func ?_⟩
  obtain⟨t,ht,hq⟩:=hbody A outer s H vs Q E (hr.deeper _) hsp
  have I:Inv (O2 CX P w K mg base N qual scope f cdv A outer s H E) [] (start N vs) H s1:=Lf S hr.hd e0 hl r x
  refine wpAny_mono (ht [] s1 (start N vs) H _ I hq) (fun fl s' hs=> ?_) fun e s' hs=>hs
  have fin:∀ {σ':St}{H':Hp}{v:V}{u:Value},Inv (O2 CX P w K mg base N qual scope f cdv A outer s H E) [] σ' H' s'->RelV v u->Q v H'->CE outer P w H s Q u s':=
    fun {σ' H' v u} J rv q=>⟨v,H',J.os,J.bare,J.base,J.hok,rv,q⟩
  cases fl with
  | ret u=>
    obtain⟨v,σ',H',J,rv,q⟩:=hs
    exact fin J rv q
  | next=>
    obtain⟨σ',H',J,q⟩:=hs
    exact fin (v:=V.non) (u:=Value.none) J rfl q
  | brk=>
    obtain⟨_,_,_,q⟩:=hs
    exact False.elim q
  | cont=>
    obtain⟨_,_,_,q⟩:=hs
    exact False.elim q
end L2
namespace L2
open PySem PySem.Spec PyProof.Rows
section
variable {X:Cx}{x:Str}{p pos:Pos}{e:Expr}{es:List Expr}{t:TA}{id T:String}{r:List V->Hp->VK->Prop}
def tCB (r:List V->Hp->VK->Prop) (t:TA):TE:=fun σ H Q=>t σ H fun vs H1=>r vs H1 Q
theorem Oe (hc:Dj X (.builtin id) r) (hg:Gl X x) (hm:X.mg x=none) (hv:bootBuiltins x=some (.builtin id)) (ha:PA X (e::es) t) (hn:x≠"__name__":=by decide) (hdb:(x==("__debug__":Str))=false:=by decide)
    (he:starEach (e::es) X.env=(false,eval e X.env)::starEach es X.env:=by rfl) (hpl:(backTo pos (starEach es X.env)).any (·.1)=false:=by rfl):PE X (.Call (.Name x p) (e::es) [] pos) (tCB r t):=by
  intro pins s σ H Q I h
  refine wpAny_Call_Name_kw (Ii I hg hm hv ?_ hn hdb)
  exact PyProof.Rows.callWith_builtin1 (thn (ha pos pins s σ H _ I h) fun us s1 ⟨vs,H1,I1,r1,q1⟩=>hc pins s1 σ H1 vs us Q I1 r1 q1) he hpl
theorem Lx (hc:Dj X (.type T) r) (hg:Gl X x) (hm:X.mg x=none) (hv:bootBuiltins x=some (.type T)) (ha:PA X (e::es) t) (hn:x≠"__name__":=by decide) (hdb:(x==("__debug__":Str))=false:=by decide)
    (he:starEach (e::es) X.env=(false,eval e X.env)::starEach es X.env:=by rfl) (hpl:(backTo pos (starEach es X.env)).any (·.1)=false:=by rfl):PE X (.Call (.Name x p) (e::es) [] pos) (tCB r t):=by
  intro pins s σ H Q I h
  refine wpAny_Call_Name_kw (Ii I hg hm hv ?_ hn hdb)
  exact PyProof.Rows.callWith_type1 (thn (ha pos pins s σ H _ I h) fun us s1 ⟨vs,H1,I1,r1,q1⟩=>hc pins s1 σ H1 vs us Q I1 r1 q1) he hpl
end
end L2
namespace HT
open PySem PyProof.Rows
def lexLt:List Int->List Int->Bool
  | [],[]=>false
  | [],_::_=>true
  | _::_,[]=>false
  | x::xs,y::ys=>if x=y then lexLt xs ys else decide (x<y)
theorem Bt (x y:Int) (xs ys:List Int):lexLt (x::xs) (y::ys)=if x=y then lexLt xs ys else decide (x<y):=rfl
theorem Gf:lexLt [] []=false:=rfl
theorem Fi (y:Int) (ys:List Int):lexLt [] (y::ys)=true:=rfl
theorem Fg (x:Int) (xs:List Int):lexLt (x::xs) []=false:=rfl
theorem Od (A:Around) (s:Shared) (a:Int) (t:Tok) (c:Int) (u:Tok):∃e,SeqAt.EqAt A s (.int a t) (.int c u) e/\(e=true↔a=c):=
  ⟨(a==c),SeqAt.EqAt.int_int a t c u,by simp⟩
theorem N6 (A:Around) (s:Shared) (a:Int) (t:Tok) (c:Int) (u:Tok) (prog:Program) (w:World) (E:Value->Shared->Prop) (Q:Value->Shared->Prop) (h:Q (.bool (decide (a<c))) s):
    wpAny (model prog w) A (richCompare .Lt (.int a t) (.int c u)) Q E s:=
  (PyProof.Rows.lt_int h:wpAny (model prog w) A (compareOp .Lt (.int a t) (.int c u)) Q E s)
section
open PySem.SeqAt
open PySem.AutoSeq1 (wpAny_loadPart')
open PySem.MeetsSeq PySem.MeetsSeq2 PySem.MeetsSeq3
theorem Gn (l b:Addr) (items items2:Array Value) (n n2:Nat) (dd dd2:Option Addr) (sl sl2:Array (Option Value)) (ns ms:List Int) (hi:IntsAre items.toList ns) (hj:IntsAre items2.toList ms):
    Meets (Builtin.«tuple.__lt__» ⟨[.ref l,.ref b],[]⟩)
      (fun _ R s=>s.heap.get? l=some { cls:= .type "tuple",dict:=dd,data:= .seq items n,slots:=sl}/\s.heap.get? b=some { cls:= .type "tuple",dict:=dd2,data:= .seq items2 n2,slots:=sl2}/\
        R (.ok (.ret (.bool (lexLt ns ms)))) s):=
  .of_wp fun prog w A R s h=>by
    obtain⟨hp,g,d,tk,os⟩:=s;obtain⟨hl,hb,h⟩:=h
    have f2:=AutoSeq1.sub_tuple_tuple
    have z1:items.size=ns.length:=by rw [<-hi.length];simp
    have z2:items2.size=ms.length:=by rw [<-hj.length];simp
    wp_walk using wpAny_loadPart' hl,wpAny_loadPart' hb,wpAny_forIn_list _ (fun rest b s'=>b.1=none/\s'=⟨hp,g,d,tk,os⟩/\∃(vs ws:List Value) (ns' ms':List Int),rest=vs.zip ws/\
      IntsAre vs ns'/\IntsAre ws ms'/\ns'.length+items2.size=ms'.length+items.size/\R (.ok (.ret (.bool (lexLt ns' ms')))) ⟨hp,g,d,tk,os⟩) _
    case turn=>
      rintro⟨y,x⟩ rest b s' ⟨hb',rfl,vs,ws,ns',ms',hz,hvi,hwi,hlen,hR⟩
      cases hvi with
      | nil=>rw [List.zip_nil_left]at hz;cases hz
      | cons a t hvi'=>
        cases hwi with
        | nil=>rw [List.zip_nil_right]at hz;cases hz
        | cons c u hwi'=>
          rw [List.zip_cons_cons]at hz
          injection hz with hyx hrest
          injection hyx with hy hx
          subst hy hx
          rw [Bt]at hR
          simp only [List.length_cons]at hlen
          obtain⟨e,he,hiff⟩:=Od A.in1 ⟨hp,g,d,tk,os⟩ a t c u
          refine wpAny_bind (he prog w _ _ ?_)
          cases e with
          | true=>
            rw [if_pos (hiff.mp rfl)]at hR
            wp_walk
            exact⟨rfl,rfl,_,_,_,_,hrest,hvi',hwi',by omega,hR⟩
          | false=>
            rw [if_neg (fun q=>absurd (hiff.mpr q) Bool.false_ne_true)]at hR
            have hri:=N6 A.in1 ⟨hp,g,d,tk,os⟩ a t c u prog w
            wp_walk using hri
            exact⟨_,rfl,by simpa using hR⟩
    case fin=>
      rintro⟨b1,b2⟩ s' ⟨hb',rfl,vs,ws,ns',ms',hz,hvi,hwi,hlen,hR⟩
      simp only at hb'
      subst hb'
      have hv:lexLt ns' ms'=decide (items.size<items2.size):=by
        cases hvi with
        | nil=>
          cases hwi with
          | nil=>
            simp only [List.length_nil]at hlen
            rw [Gf]
            exact(decide_eq_false (by omega)).symm
          | cons c u hw=>
            simp only [List.length_nil,List.length_cons]at hlen
            rw [Fi]
            exact(decide_eq_true (by omega)).symm
        | cons a t hv=>
          cases hwi with
          | nil=>
            simp only [List.length_nil,List.length_cons]at hlen
            rw [Fg]
            exact(decide_eq_false (by omega)).symm
          | cons c u hw=>
            rw [List.zip_cons_cons]at hz
            cases hz
      rw [hv]at hR
      wp_walk
      exact⟨_,rfl,by simpa [Builtin.Tuple.tupleCompareSizes]using hR⟩
    case h=>
      exact⟨rfl,rfl,items.toList,items2.toList,ns,ms,rfl,hi,hj,by omega,h⟩
end
section
variable {prog:Program}{w:World}{A:Around}{E:Value->Shared->Prop}{s:Shared}
theorem Fq {l b:Addr}{items items2:Array Value}{ns ms:List Int}{Q:Value->Shared->Prop} (hl:IsTup s.heap l items) (hb:IsTup s.heap b items2) (hi:IntsAre items.toList ns) (hj:IntsAre items2.toList ms)
    (hu:A.units<cLine) (h:Q (.bool (lexLt ns ms)) s):wpAny (model prog w) A (compareOp .Lt (.ref l) (.ref b)) Q E s:=by
  obtain⟨⟨cls,dd,data,sl⟩,ho,hc,n,hd⟩:=id hl
  obtain⟨⟨cls2,dd2,data2,sl2⟩,ho2,hc2,n2,hd2⟩:=id hb
  simp only at hc hd hc2 hd2
  subst hc hd hc2 hd2
  exact richCompare_meets_room (op:= .Lt) ⟨_,ho,rfl⟩ ⟨_,ho2,rfl⟩ PySem.F.slot_tuple_lt PySem.F.entry_tuple_lt (PySem.F.args_tuple_lt_2 _ _) (Gn l b items items2 n n2 dd dd2 sl sl2 ns ms hi hj)
    ⟨ho,ho2,show Value.bool (lexLt ns ms)≠Value.notImplemented/\Q (.bool (lexLt ns ms)) s from⟨(fun x=>nomatch x),h⟩⟩ hu
theorem Qy {t b:Addr}{vs ws:List Value}{Q:Value->Shared->Prop} (ht:IsTup s.heap t vs.toArray) (hb:IsTup s.heap b ws.toArray) (hv:vs≠ [])
    (h1:ws=[]->Q (.ref t) s) (h2:ws≠ []->Q (.ref s.heap.objs.size) { s with heap:=s.heap.push { cls:= .type "tuple",data:= .seq (vs++ws).toArray}})
    (hsz:vs.length+ws.length<=sizeLine):wpAny (model prog w) A (binaryOp .Add (.ref t) (.ref b)) Q E s:=by
  obtain⟨⟨cls,dd,data,sl⟩,ho,hc,n,hd⟩:=id ht
  obtain⟨⟨cls2,dd2,data2,sl2⟩,ho2,hc2,n2,hd2⟩:=id hb
  simp only at hc hd hc2 hd2
  subst hc hd hc2 hd2
  have e:vs.toArray++ws.toArray=(vs++ws).toArray:=by simp
  by_cases hw:ws=[]
  . exact concat_meets ⟨_,ho,rfl⟩ ⟨_,ho2,rfl⟩ noFill_tuple_add seq_tuple_add PySem.F.slot_tuple_add PySem.F.entry_tuple_add (PySem.F.args_tuple_add_2 _ _)
      (tuple_addW1 t b vs.toArray ws.toArray n n2 dd dd2 sl sl2 (by simpa using hv) (by simp [hw])) ⟨ho,ho2,h1 hw⟩
  . refine concat_meets ⟨_,ho,rfl⟩ ⟨_,ho2,rfl⟩ noFill_tuple_add seq_tuple_add PySem.F.slot_tuple_add PySem.F.entry_tuple_add (PySem.F.args_tuple_add_2 _ _)
      (tuple_addW2 t b vs.toArray ws.toArray n n2 dd dd2 sl sl2 (by simpa using hv) (by simpa using hw) (by rw [List.size_toArray,List.size_toArray];exact hsz)) ⟨ho,ho2,?_⟩
    rw [e]
    exact h2 hw
def sIx (n d:Nat):Option Int->Nat
  | none=>d
  | some v=>if v<0 then(v+(n:Int)).toNat else min v.toNat n
theorem Gg (n d:Nat):sIx n d none=d:=rfl
theorem Jk (n d k:Nat):sIx n d (some (k:Int))=min k n:=by
  show(if(k:Int)<0 then((k:Int)+(n:Int)).toNat else min (k:Int).toNat n)=min k n
  rw [if_neg (by omega),Int.toNat_natCast]
theorem Rp (n d:Nat) (hd:d<=n) (o:Option Int):sIx n d o<=n:=by
  cases o with
  | none=>exact hd
  | some v=>
    show(if v<0 then(v+(n:Int)).toNat else min v.toNat n)<=n
    by_cases hv:v<0
    . rw [if_pos hv];omega
    . rw [if_neg hv];exact Nat.min_le_right _ _
theorem K3 (v:Int) (n d:Nat):(if v<0 then max (v+(n:Int)) 0 else min v (n:Int))=((sIx n d (some v):Nat):Int):=by
  show(if v<0 then max (v+(n:Int)) 0 else min v (n:Int))=(((if v<0 then(v+(n:Int)).toNat else min v.toNat n):Nat):Int)
  by_cases hv:v<0
  . simp only [if_pos hv];omega
  . simp only [if_neg hv];omega
theorem J6 (lo hi:Option Int) (n:Nat):Builtin.Slice.sliceAdjust lo hi 1 (n:Int)=(((sIx n 0 lo:Nat):Int),((sIx n n hi:Nat):Int)):=by
  have h1:¬((1:Int)<0):=by omega
  unfold Builtin.Slice.sliceAdjust
  simp only [h1,if_false]
  refine Prod.ext ?_ ?_
  . cases lo with
    | none=>rfl
    | some v=>exact K3 v n 0
  . cases hi with
    | none=>rfl
    | some v=>exact K3 v n n
theorem Ks (i j:Nat):Builtin.Slice.slicePlaces (i:Int) (j:Int) 1=j-i:=by
  unfold Builtin.Slice.slicePlaces
  have h1:(1:Int)>0:=by omega
  simp only [h1,if_true,Int.ediv_one]
  split<;>omega
theorem Fp {v:Value}{o:Option Int}{Q:Option Int->Shared->Prop} (p:IsPart v o) (h:Q o s):wpAny (model prog w) A (Builtin.Slice.slicePartIndex v) Q E s:=by
  cases p with
  | none=>exact slicePart_none h
  | int i t=>exact slicePart_int h
theorem Bx {sl:Addr}{vl vu:Value}{lo hi:Option Int}{n:Nat}{Q:Int × Int × Nat->Shared->Prop} (hs:s.heap.IsSliceOf sl vl vu .none) (pl:IsPart vl lo) (pu:IsPart vu hi)
    (h:Q (((sIx n 0 lo:Nat):Int),1,sIx n n hi-sIx n 0 lo) s):wpAny (model prog w) A (Builtin.Slice.sliceApplied (.ref sl) (pure (n:Int))) Q E s:=by
  obtain⟨os,hos,hcs,hds⟩:=id hs
  unfold Builtin.Slice.sliceApplied Builtin.Slice.sliceFields
  refine wpAny_bind (wpAny_bind (wpAny_field hos hds (x:=vl) rfl (wpAny_bind (wpAny_field hos hds (x:=vu) rfl (wpAny_bind (wpAny_field hos hds (x:= .none) rfl (wpAny_pure ?_)))))))
  refine wpAny_bind (slicePart_none ?_)
  show wpAny _ _ (if((1:Int)==0)=true then _ else _) _ _ s
  rw [if_neg (by decide)]
  refine wpAny_bind (Fp pl (wpAny_bind (Fp pu (wpAny_bind (wpAny_pure ?_)))))
  show wpAny _ _ (match Builtin.Slice.sliceAdjust lo hi 1 (n:Int)with | (lo,hi)=>pure (lo,(1:Int),Builtin.Slice.slicePlaces lo hi 1)) _ _ s
  rw [J6 lo hi n]
  show wpAny _ _ (pure (((sIx n 0 lo:Nat):Int),(1:Int),Builtin.Slice.slicePlaces ((sIx n 0 lo:Nat):Int) ((sIx n n hi:Nat):Int) 1)) _ _ s
  rw [Ks]
  exact wpAny_pure h
theorem Om (xs:Array Value) (i k:Nat):((List.range k).filterMap fun(m:Nat)=>xs[((i:Int)+(m:Int)*1).toNat]?).toArray=((xs.toList.drop i).take k).toArray:=by
  have e:(fun(m:Nat)=>xs[((i:Int)+(m:Int)*1).toNat]?)=fun m=>xs[i+m]? :=by
    funext m
    have:((i:Int)+(m:Int)*1).toNat=i+m:=by omega
    rw [this]
  rw [e]
  have:=pick_run xs i k
  rw [List.filterMap_map]at this
  have e2:((fun x=>xs[x]?) ∘ fun x=>i+x)=fun m=>xs[i+m]? :=rfl
  rw [e2]at this
  rw [this]
theorem Dv {t sl:Addr}{items:Array Value}{vl vu:Value}{lo hi:Option Int}{Q:Value->Shared->Prop} (ht:IsTup s.heap t items) (hs:s.heap.IsSliceOf sl vl vu .none) (pl:IsPart vl lo) (pu:IsPart vu hi)
    (hw:¬(sIx items.size 0 lo=0/\sIx items.size items.size hi=items.size))
    (h:Q (.ref s.heap.objs.size) { s with heap:=s.heap.push { cls:= .type "tuple",data:= .seq ((items.toList.drop (sIx items.size 0 lo)).take (sIx items.size items.size hi-sIx items.size 0 lo)).toArray}})
    (hsz:items.size<=sizeLine):wpAny (model prog w) A (getItem (.ref t) (.ref sl)) Q E s:=by
  have htake:sizeOk (.seq ((items.toList.drop (sIx items.size 0 lo)).take (sIx items.size items.size hi-sIx items.size 0 lo)).toArray):=by
    show((items.toList.drop (sIx items.size 0 lo)).take (sIx items.size items.size hi-sIx items.size 0 lo)).toArray.size<=sizeLine
    rw [List.size_toArray,List.length_take,List.length_drop,Array.length_toList]
    omega
  have hj:sIx items.size items.size hi<=items.size:=Rp _ _ (Nat.le_refl _) hi
  obtain⟨os,hos,hcs,hds⟩:=id hs
  have hTs:s.TypeIs (.ref sl) "slice":=⟨os,hos,hcs⟩
  unfold getItem
  try with_reducible refine wpAny_holding ?_
  first | refine wpAny_bind (wpAny_pure ?_) | skip
  refine wpAny_bind (wpAny_sequenceKey ht.typeIs (by decide) ?_)
  refine wpAny_bind (wpAny_callSpecial?_slot (name:=Str.ofString "__getitem__") ht.typeIs PyProof.Rows.slot_tuple_getitem
    (wpAny_call_entry PyProof.Rows.slot_tuple_getitem ht.typeIs entry_tuple_getitem ?_ (args_tuple_getitem _ _)))
  show wpAny _ _ (Builtin.Tuple.tupleItemsOf (.ref t)>>=_) _ _ s
  refine wpAny_bind (tupleItemsOf_ ht ?_)
  refine wpAny_bind (wpAny_typeOf hTs ?_)
  rw [if_pos (by decide)]
  refine wpAny_bind (Bx hs pl pu ?_)
  have hno:¬((((sIx items.size 0 lo:Nat):Int)==0&&(1:Int)==1&&(sIx items.size items.size hi-sIx items.size 0 lo)==items.size)=true):=by
    intro q
    rw [Bool.and_eq_true,Bool.and_eq_true]at q
    have q1:((sIx items.size 0 lo:Nat):Int)=0:=eq_of_beq q.1.1
    have q2:sIx items.size items.size hi-sIx items.size 0 lo=items.size:=eq_of_beq q.2
    exact hw ⟨by omega,by omega⟩
  show wpAny _ _ (if(((sIx items.size 0 lo:Nat):Int)==0&&(1:Int)==1&&(sIx items.size items.size hi-sIx items.size 0 lo)==items.size)=true then _ else _) _ _ s
  rw [if_neg hno,Om]
  first
    | exact wpAny_bind (m:=Builtin.Tuple.tupleExact _) (wpAny_newObj_type (wpAny_pure ⟨_,rfl,wpAny_pure h⟩) htake)
    | exact wpAny_bind (m:=Builtin.Tuple.tupleExact _) (wpAny_newObj_type (wpAny_bind (wpAny_pure (wpAny_pure ⟨_,rfl,wpAny_pure h⟩))) htake)
    | exact wpAny_bind (wpAny_bind (m:=Builtin.Tuple.tupleExact _) (wpAny_newObj_type (wpAny_pure (wpAny_pure ⟨_,rfl,wpAny_pure h⟩)) htake))
    | exact wpAny_bind (wpAny_bind (m:=Builtin.Tuple.tupleExact _) (wpAny_newObj_type (wpAny_pure ⟨_,rfl,wpAny_pure h⟩) htake))
end
end HT
namespace L2
open PySem PySem.Spec PyProof.Rows
abbrev TO:=St->Hp->(Option Int->Hp->Prop)->Prop
def PO (X:Cx) (e:Option Expr) (t:TO):Prop:=
  ∀(pins:List (Addr × Obj)) (s:Shared) (σ:St) (H:Hp) (Q:Option Int->Hp->Prop),Inv X pins σ H s->t σ H Q->
    wpAny (model X.prog X.w) X.A (evalPart e X.env) (fun u s'=>∃o H',Inv X pins σ H' s'/\IsPart u o/\Q o H') X.xe s
def Jo:TO:=fun _ H Q=>Q none H
def Qz (t:TE):TO:=fun σ H Q=>t σ H fun x H1=>∃i,x= .int i/\Q (some i) H1
theorem intsAre_of {ns:List Int}:∀ {us:List Value},Vals (ns.map V.int) us->IntsAre us ns:=by
  induction ns with
  | nil=>intro us r;rw [List.map_nil]at r;cases r;exact .nil
  | cons n ns ih=>
    intro us r
    rw [List.map_cons]at r
    cases r with
    | cons r1 r2=>
      obtain⟨t,e⟩:=r1
      subst e
      exact .cons n t (ih r2)
section
variable {X:Cx}{e:Expr}{te:TE}{lo hi:Option Expr}{tl th:TO}{pos p2:Pos}
theorem Bs:PO X none Jo:=by
  intro pins s σ H Q I h
  rw [evalPart_none]
  exact wpAny_pure ⟨none,H,I,.none,h⟩
theorem Bk (h:PE X e te):PO X (some e) (Qz te):=by
  intro pins s σ H Q I hw
  rw [evalPart_some]
  refine thn (h pins s σ H _ I hw) fun u s1 ⟨x,H1,I1,r1,q1⟩=> ?_
  obtain⟨i,rfl,q⟩:=q1
  obtain⟨t,rfl⟩:=r1
  exact⟨some i,H1,I1,.int i t,q⟩
def SlR (X:Cx) (r:V->Option Int->Option Int->Hp->VK->Prop):Prop:=
  ∀(pins:List (Addr × Obj)) (s:Shared) (σ:St) (H:Hp) (x:V) (v vl vu:Value) (lo hi:Option Int) (sl:Addr) (Q:VK),Inv X pins σ H s->RelV x v->s.heap.IsSliceOf sl vl vu .none->IsPart vl lo->IsPart vu hi->r x lo hi H Q->
    ∃T id,typeLookup (.type T) "__getitem__"=pure (some (.builtin id))/\s.TypeIs v T/\wpAny (model X.prog X.w) X.A (getItem v (.ref sl)) (EP X pins σ Q) X.xe s
def tSl (r:V->Option Int->Option Int->Hp->VK->Prop) (te:TE) (tl th:TO):TE:=fun σ H Q=>te σ H fun x H1=>tl σ H1 fun l H2=>th σ H2 fun u H3=>r x l u H3 Q
theorem Bh {r:V->Option Int->Option Int->Hp->VK->Prop} (hr:SlR X r) (he:PE X e te) (hl:PO X lo tl) (hu:PO X hi th):PE X (.Subscript e (.Slice lo hi none p2) pos) (tSl r te tl th):=by
  intro pins s σ H Q I h
  refine Subscript_ (thn (he pins s σ H _ I h) fun v s1 ⟨x,H1,I1,r1,q1⟩=> ?_)
  refine wpAny_Slice (thn (hl pins s1 σ H1 _ I1 q1) fun vl s2 ⟨l,H2,I2,pl,q2⟩=>thn (hu pins s2 σ H2 _ I2 q2) fun vu s3 ⟨u,H3,I3,pu,q3⟩=> ?_)
  rw [evalPart_none]
  refine wpAny_pure ?_
  have I4:Inv X pins σ H3 { s3 with heap:=s3.heap.push { cls:= .type "slice",data:= .fields #[vl,vu,.none]}}:=I3.kept (t':=s3.toks) fun b ob q=>Heap.get?_push_of_some _ q
  obtain⟨T,id,hT,ht,hg⟩:=hr pins { s3 with heap:=s3.heap.push { cls:= .type "slice",data:= .fields #[vl,vu,.none]}} σ H3 x v vl vu l u s3.heap.objs.size Q I4 r1 (Heap.IsSliceOf.new ..) pl pu q3
  show wpAny (model X.prog X.w) X.A (subscriptTail e (.Slice lo hi none p2) v (.ref s3.heap.objs.size)) (EP X pins σ Q) X.xe { s3 with heap:=s3.heap.push { cls:= .type "slice",data:= .fields #[vl,vu,.none]}}
  exact tail_any (ops:=[.ref s3.heap.objs.size,v]) ht hT hg (by with_unfolding_all rfl)
def Il (xs:List V) (lo hi:Option Int):List V:=(xs.drop (HT.sIx xs.length 0 lo)).take (HT.sIx xs.length xs.length hi-HT.sIx xs.length 0 lo)
theorem Er (xs:List V) (lo hi:Option Int):(Il xs lo hi).length<=xs.length:=by
  unfold Il
  rw [List.length_take,List.length_drop]
  omega
def Wg (K:PySem.W.Frag):V->Option Int->Option Int->Hp->VK->Prop:=fun x lo hi H Q=>∃a xs,x= .ref a/\SqT K H a xs/\
  ¬(HT.sIx xs.length 0 lo=0/\HT.sIx xs.length xs.length hi=xs.length)/\∀p,H p=none->Q (.ref p) (upd H p (.tup (Il xs lo hi)))
theorem Tc:SlR X (Wg X.K):=by
  intro pins s σ H x v vl vu lo hi sl Q I rx hs pl pu h
  obtain⟨a,xs,rfl,hx,hw,q⟩:=h
  cases rx
  obtain⟨its,r,ht,hz⟩:=I.tuple hx
  have hlen:its.toArray.size=xs.length:=by rw [List.size_toArray];exact r.length.symm
  refine⟨"tuple",_,PyProof.Rows.slot_tuple_getitem.lookup,ht.typeIs,?_⟩
  refine HT.Dv ht hs pl pu (by rw [hlen];exact hw) ?_ (by rw [hlen];exact hz)
  rw [hlen]
  refine⟨.ref s.heap.objs.size,_,I.laid (t':=s.toks) (o:= .tup (Il xs lo hi)) (fun b ob q=>Heap.get?_push_of_some _ q) (Nat.le_refl _) ?_,rfl,q _ (I.hok.fresh (Nat.le_refl _))⟩
  exact⟨Nat.le_trans (Er xs lo hi) hz,_,(r.drop (HT.sIx xs.length 0 lo)).take (HT.sIx xs.length xs.length hi-HT.sIx xs.length 0 lo),IsTup.new _ _⟩
def V0 (K:PySem.W.Frag):R2:=fun x y H Q=>∃a b ns ms,x= .ref a/\y= .ref b/\SqT K H a (ns.map V.int)/\SqT K H b (ms.map V.int)/\Q (.bl (HT.lexLt ns ms)) H
theorem Te (hu:X.A.units<cLine):OpR X (compareOp .Lt) (V0 X.K):=by
  intro pins s σ H x y v u Q I rx ry h
  obtain⟨a,b,ns,ms,rfl,rfl,ha,hb,q⟩:=h
  cases rx
  cases ry
  obtain⟨its,r1,p1,_⟩:=I.tuple ha
  obtain⟨its2,r2,p2,_⟩:=I.tuple hb
  have i1:IntsAre its.toArray.toList ns:=intsAre_of r1
  have i2:IntsAre its2.toArray.toList ms:=intsAre_of r2
  exact HT.Fq p1 p2 i1 i2 hu ⟨.bl (HT.lexLt ns ms),H,I,rfl,q⟩
def Vw (K:PySem.W.Frag):R2:=fun x y H Q=>∃a b xs ys,x= .ref a/\y= .ref b/\SqT K H a xs/\SqT K H b ys/\xs≠ []/\xs.length+ys.length<=sizeLine/\
  (ys=[]->Q (.ref a) H)/\(ys≠ []->∀p,H p=none->Q (.ref p) (upd H p (.tup (xs++ys))))
theorem Vals.nil_iff {xs:List V}{us:List Value} (r:Vals xs us):us=[]↔xs=[]:=by
  cases r with
  | nil=>simp
  | cons _ _=>simp
theorem Qd:OpR X (binaryOp .Add) (Vw X.K):=by
  intro pins s σ H x y v u Q I rx ry h
  obtain⟨a,b,xs,ys,rfl,rfl,ha,hb,hx,hz,q1,q2⟩:=h
  cases rx
  cases ry
  obtain⟨its,r1,p1,_⟩:=I.tuple ha
  obtain⟨its2,r2,p2,_⟩:=I.tuple hb
  refine HT.Qy p1 p2 (fun z=>hx (r1.nil_iff.mp z)) (fun z=>⟨.ref a,H,I,rfl,q1 (r2.nil_iff.mp z)⟩) (fun z=> ?_) (by rw [<-r1.length,<-r2.length];exact hz)
  refine⟨.ref s.heap.objs.size,_,I.laid (t':=s.toks) (o:= .tup (xs++ys)) (fun b ob q=>Heap.get?_push_of_some _ q) (Nat.le_refl _) ?_,rfl,q2 (fun w=>z (r2.nil_iff.mpr w)) _ (I.hok.fresh (Nat.le_refl _))⟩
  exact⟨by rw [List.length_append];exact hz,_,r1.append r2,IsTup.new _ _⟩
end
end L2
namespace L2
open PySem PySem.Spec PyProof.Rows
def ixN (n:Nat) (i:Int):Option Nat:=if 0<=i then(if i<n then some i.toNat else none)else if-(n:Int)<=i then some (i+n).toNat else none
def atI {α:Type} (xs:List α) (i:Int):Option α:=(ixN xs.length i).bind fun j=>xs[j]?
theorem Ri {n:Nat}{i:Int}{j:Nat} (h:ixN n i=some j):seqIndex? i n=some j/\j<n/\ -(n:Int)<=i/\i<n:=by
  unfold ixN at h
  by_cases h0:0<=i
  . rw [if_pos h0]at h
    by_cases h1:i<n
    . rw [if_pos h1]at h
      have e:i.toNat=j:=Option.some.inj h
      exact⟨by rw [seqIndex_of h0 h1,e],by omega,by omega,h1⟩
    . rw [if_neg h1]at h;cases h
  . rw [if_neg h0]at h
    by_cases h1: -(n:Int)<=i
    . rw [if_pos h1]at h
      have e:(i+n).toNat=j:=Option.some.inj h
      exact⟨by rw [seqIndex_neg (by omega) h1,e],by omega,h1,by omega⟩
    . rw [if_neg h1]at h;cases h
theorem Lr {α:Type}{xs:List α}{i:Int}{v:α} (h:atI xs i=some v):∃j,seqIndex? i xs.length=some j/\xs[j]? =some v/\j<xs.length/\ -(xs.length:Int)<=i/\i<xs.length:=by
  unfold atI at h
  cases e:ixN xs.length i with
  | none=>rw [e]at h;cases h
  | some j=>
    rw [e]at h
    obtain⟨h1,h2,h3,h4⟩:=Ri e
    exact⟨j,h1,h,h2,h3,h4⟩
theorem Ej {α:Type}{xs:List α}{j:Nat}{v:α} (h:xs[j]? =some v):atI xs (j:Int)=some v:=by
  have hj:j<xs.length:=(List.getElem?_eq_some_iff.mp h).1
  have e:ixN xs.length (j:Int)=some j:=by
    unfold ixN
    rw [if_pos (by omega),if_pos (by omega)];simp
  unfold atI;rw [e];exact h
def Mp (b:Expr):Prop:=∀o i,subscripted b false o i=operate [o,i] (getItem o i)
def IxR (X:Cx) (r:R2):Prop:=
  ∀(value slice:Expr) (pins:List (Addr × Obj)) (s:Shared) (σ:St) (H:Hp) (x y:V) (v u:Value) (Q:VK),Inv X pins σ H s->RelV x v->RelV y u->r x y H Q->
    subscripted slice false v u=operate [v,u] (getItem v u)->wpAny (model X.prog X.w) X.A (subscriptTail value slice v u) (EP X pins σ Q) X.xe s
def MtR (X:Cx) (id:String) (r:V->List V->Hp->VK->Prop):Prop:=
  ∀(pins:List (Addr × Obj)) (s:Shared) (σ:St) (H:Hp) (x:V) (xs:List V) (v:Value) (us:List Value) (Q:VK),Inv X pins σ H s->RelV x v->Vals xs us->r x xs H Q->
    wpAny (model X.prog X.w) X.A (call (.builtin id) (v::us)) (EP X pins σ Q) X.xe s
section
variable {X:Cx}{a b:Expr}{ta tb:TE}{pos:Pos}
theorem G8 {r:R2} (hr:IxR X r) (ha:PE X a ta) (hb:PE X b tb) (hs:Mp b):PE X (.Subscript a b pos) (tOp r ta tb):=by
  intro pins s σ H Q I h
  exact Subscript_ (U3 ha hb I h fun v u s2 x y H2 I2 rx ry q=>hr a b pins s2 σ H2 x y v u Q I2 rx ry q (hs _ _))
def Vg (K:PySem.W.Frag):R2:=fun x y H Q=>∃p xs i v,x= .ref p/\y= .int i/\SqL K H p xs/\atI xs i=some v/\Q v H
def Vm (K:PySem.W.Frag):R2:=fun x y H Q=>∃p xs i v,x= .ref p/\y= .int i/\SqT K H p xs/\atI xs i=some v/\Q v H
theorem Ja:IxR X (Vg X.K):=by
  intro value slice pins s σ H x y v u Q I rx ry h hs
  obtain⟨p,xs,i,z,rfl,rfl,hq,he,q⟩:=h
  cases rx
  obtain⟨t,rfl⟩:=ry
  obtain⟨its,r,pl,hz⟩:=I.list hq
  obtain⟨j,h1,h2,h3,h4,h5⟩:=Lr he
  obtain⟨w,ew,rw'⟩:=r.get h2
  have hl:=r.length
  have hn:=La
  have fin:EP X pins σ Q w s:=⟨z,H,I,rw',q⟩
  by_cases h0:0<=i
  . have hj:i.toNat=j:=by
      rw [seqIndex_of h0 h5]at h1
      exact Option.some.inj h1
    exact item_listR pl.isList h0 (by omega) (by rw [hj];simpa using ew) fin hs
  . have hj:(i+(its.toArray.size:Int)).toNat=j:=by
      rw [seqIndex_neg (by omega) h4]at h1
      rw [List.size_toArray,<-hl]
      exact Option.some.inj h1
    exact subscriptTail_builtinR (x:=w) pl.isList.typeIs slot_list_getitem.lookup
      (wpAny_getItem_list_neg (Q:=fun r s'=>r=w/\EP X pins σ Q r s') pl.isList (by omega) (by rw [List.size_toArray]<;>omega) (by omega) (by rw [hj];simpa using ew) ⟨rfl,fin⟩) hs
theorem Lk:IxR X (Vm X.K):=by
  intro value slice pins s σ H x y v u Q I rx ry h hs
  obtain⟨p,xs,i,z,rfl,rfl,hq,he,q⟩:=h
  cases rx
  obtain⟨t,rfl⟩:=ry
  obtain⟨its,r,pl,hz⟩:=I.tuple hq
  obtain⟨j,h1,h2,h3,h4,h5⟩:=Lr he
  obtain⟨w,ew,rw'⟩:=r.get h2
  have hl:=r.length
  have hn:=La
  have fin:EP X pins σ Q w s:=⟨z,H,I,rw',q⟩
  exact subscriptTail_builtinR (x:=w) pl.typeIs slot_tuple_getitem.lookup
    (getItem_tuple (j:=j) (Q:=fun r s'=>r=w/\EP X pins σ Q r s') pl (by omega) (by omega) (by rw [List.size_toArray,<-hl];exact h1) (by simpa using ew) ⟨rfl,fin⟩) hs
theorem Inv.lst {pins:List (Addr × Obj)}{σ:St}{H:Hp}{s:Shared}{p:Addr}{xs:List V} (I:Inv X pins σ H s) (h:H p=some (.lst xs)):
    ∃(its:List Value) (n:Nat),Vals xs its/\s.heap.get? p=some { cls:= .type "list",data:= .seq its.toArray n}/\xs.length<=sizeLine:=by
  obtain⟨z,its,n,r,e⟩:=I.hok p _ h
  exact⟨its,n,r,e,z⟩
theorem Hr (lo hi:Option Int) (n:Nat):(sliceBounds lo hi none n).1=((HT.sIx n 0 lo:Nat):Int)/\(sliceBounds lo hi none n).2.1=((HT.sIx n n hi:Nat):Int)/\(sliceBounds lo hi none n).2.2=1:=by
  refine⟨?_,?_,rfl⟩
  . cases lo with
    | none=>simp [sliceBounds,HT.sIx]
    | some i=>
      simp only [sliceBounds,HT.sIx,Option.getD_none,show(1:Int)>0 by decide,if_true]
      by_cases h:i<0
      . simp only [h,if_true]<;>omega
      . simp only [h,if_false]<;>omega
  . cases hi with
    | none=>simp [sliceBounds,HT.sIx]
    | some i=>
      simp only [sliceBounds,HT.sIx,Option.getD_none,show(1:Int)>0 by decide,if_true]
      by_cases h:i<0
      . simp only [h,if_true]<;>omega
      . simp only [h,if_false]<;>omega
theorem Ga (its:List Value) (lo hi:Option Int):slicePick its.toArray lo hi none=((its.drop (HT.sIx its.length 0 lo)).take (HT.sIx its.length its.length hi-HT.sIx its.length 0 lo)).toArray:=by
  obtain⟨h1,h2,h3⟩:=Hr lo hi its.toArray.size
  unfold slicePick
  rw [h1,h2,h3]
  simp only [sliceRange_one,pick_run,List.size_toArray]<;>rfl
def Wj (K:PySem.W.Frag):V->Option Int->Option Int->Hp->VK->Prop:=fun x lo hi H Q=>∃a xs,x= .ref a/\SqL K H a xs/\∀p,H p=none->Q (.ref p) (upd H p (.lst (Il xs lo hi)))
theorem K1:SlR X (Wj X.K):=by
  intro pins s σ H x v vl vu lo hi sl Q I rx hs pl pu h
  obtain⟨a,xs,rfl,hx,q⟩:=h
  cases rx
  obtain⟨its,r,ht,hz⟩:=I.list hx
  have hlen:=r.length
  refine⟨"list",_,slot_list_getitem.lookup,ht.isList.typeIs,?_⟩
  refine wpAny_getItem_list_slice ht.isList hs pl pu .none (by simp) ?_ (by rw [List.size_toArray]<;>omega)
  rw [Ga,<-hlen]
  refine⟨.ref s.heap.objs.size,_,I.laid (t':=s.toks) (o:= .lst (Il xs lo hi)) (fun b ob q=>Heap.get?_push_of_some _ q) (Nat.le_refl _) ?_,rfl,q _ (I.hok.fresh (Nat.le_refl _))⟩
  exact⟨Nat.le_trans (Er xs lo hi) hz,_,0,(r.drop (HT.sIx xs.length 0 lo)).take (HT.sIx xs.length xs.length hi-HT.sIx xs.length 0 lo),Heap.get?_push_size _ rfl⟩
theorem Ar:Dj X (.builtin "len") (fun xs H Q=>∃p ys,xs=[.ref p]/\(SqL X.K H p ys\/SqT X.K H p ys)/\Q (.int ys.length) H):=by
  intro pins s σ H xs us Q I r h
  obtain⟨p,ys,rfl,hq,q⟩:=h
  obtain⟨u,rfl,rx⟩:=vals1 r
  cases rx
  have hn:=La
  rcases hq with hq | hq
  . obtain⟨its,r',pl,hz⟩:=I.list hq
    have hlen:=r'.length
    exact Calls.call_len_list pl.isList (by simp only [List.size_toArray]<;>omega) ⟨.int ys.length,H,I.tok _,⟨s.toks+1,by rw [List.size_toArray,hlen]⟩,q⟩
  . obtain⟨its,r',pl,hz⟩:=I.tuple hq
    have hlen:=r'.length
    exact len_tuple pl (by simp only [List.size_toArray]<;>omega) ⟨.int ys.length,H,I.tok _,⟨s.toks+1,by rw [List.size_toArray,hlen]⟩,q⟩
theorem Ie:Dj X (.type "list") (fun xs H Q=>∃p ys,xs=[.ref p]/\(SqL X.K H p ys\/SqT X.K H p ys)/\∀l,H l=none->Q (.ref l) (upd H l (.lst ys))):=by
  intro pins s σ H xs us Q I r h
  obtain⟨p,ys,rfl,hq,q⟩:=h
  obtain⟨u,rfl,rx⟩:=vals1 r
  cases rx
  have fin:∀(its:List Value),Vals ys its->ys.length<=sizeLine->∀(h':Heap) (c':Nat),(∀b o',s.heap.get? b=some o'->h'.get? b=some o')->
      h'.get? s.heap.objs.size=some { cls:= .type "list",dict:=none,data:= .seq its.toArray c',slots:= #[]}->EP X pins σ Q (.ref s.heap.objs.size) { s with heap:=h'}:=fun its r' hz h' c' kp e=>
    ⟨.ref s.heap.objs.size,_,I.laid (t':=s.toks) kp (Nat.le_refl _) (show Bd X.prog X.w _ h' _ (.lst ys)from⟨hz,its,c',r',e⟩),rfl,q _ (I.hok.fresh (Nat.le_refl _))⟩
  rcases hq with hq | hq
  . obtain⟨its,r',pl,hz⟩:=I.list hq
    have hlen:=r'.length
    obtain⟨o,ho,hc,n,hd⟩:=pl.isList
    exact call_list_seq p (.inl rfl) ho hc hd (fun h' c' kp e=>fin its r' hz h' c' kp e) (by simp only [List.size_toArray]<;>omega)
  . obtain⟨its,r',pl,hz⟩:=I.tuple hq
    have hlen:=r'.length
    obtain⟨o,ho,hc,n,hd⟩:=pl
    exact call_list_seq p (.inr rfl) ho hc hd (fun h' c' kp e=>fin its r' hz h' c' kp e) (by simp only [List.size_toArray]<;>omega)
theorem Gu:Dj X (.type "tuple") (fun xs H Q=>∃p ys,xs=[.ref p]/\((SqL X.K H p ys/\∀l,H l=none->Q (.ref l) (upd H l (.tup ys)))\/(SqT X.K H p ys/\Q (.ref p) H))):=by
  intro pins s σ H xs us Q I r h
  obtain⟨p,ys,rfl,h⟩:=h
  obtain⟨u,rfl,rx⟩:=vals1 r
  cases rx
  rcases h with⟨hq,q⟩ | ⟨hq,q⟩
  . obtain⟨its,r',pl,hz⟩:=I.list hq
    have hlen:=r'.length
    refine call_tuple_list pl.isList (fun h' kp=> ?_) (by simp only [List.size_toArray]<;>omega)
    have I1:Inv X pins σ H { s with heap:=h'}:=I.kept (t':=s.toks) kp
    have I2:Inv X pins σ (upd H h'.objs.size (.tup ys)) { s with heap:=h'.push { cls:= .type "tuple",data:= .seq its.toArray}}:=
      I1.laid (t':=s.toks) (fun b o e=>Heap.get?_push_of_some _ e) (Nat.le_refl _) (show Bd X.prog X.w _ _ _ (.tup ys)from⟨hz,its,r',IsTup.new _ _⟩)
    exact⟨.ref h'.objs.size,_,I2,rfl,q _ (I1.hok.fresh (Nat.le_refl _))⟩
  . obtain⟨its,r',pl,hz⟩:=I.tuple hq
    exact call_tuple_same pl ⟨.ref p,H,I,rfl,q⟩
def tyV (K:PySem.W.Frag) (T:String) (x:V) (H:Hp):Prop:=match x with
  | .str _=>T="str"
  | .int _=>T="int"
  | .ref p=>(T="list"/\∃xs,SqL K H p xs)\/(T="tuple"/\∃o,K.lookup p=some o/\o.cls= .type "tuple"/\o.dict=none)\/
      (T="dict"/\((∃kvs,H p=some (.dK kvs))\/∃kvs,H p=some (.dT kvs)))\/(T="set"/\∃S n,H p=some (.set S n))
  | _=>False
theorem Tt {pins:List (Addr × Obj)}{σ:St}{H:Hp}{s:Shared}{T:String}{x:V}{v:Value} (I:Inv X pins σ H s) (r:RelV x v) (ty:tyV X.K T x H):
    s.TypeIs v T/\∀a,v= .ref a->∃ob,s.heap.get? a=some ob/\ob.dict=none:=by
  cases x with
  | str z=>
    obtain⟨t,rfl⟩:=r
    cases(show T="str" from ty)
    exact⟨typeIs_str s z t,fun _ e=>nomatch e⟩
  | int i=>
    obtain⟨t,rfl⟩:=r
    cases(show T="int" from ty)
    exact⟨typeIs_int s i t,fun _ e=>nomatch e⟩
  | ref p=>
    cases r
    rcases ty with⟨rfl,xs,hq⟩ | ⟨rfl,o,hk,hc,hd⟩ | ⟨rfl,hk⟩ | ⟨rfl,S,n,hk⟩
    . obtain⟨its,_,pl,_⟩:=I.list hq
      refine⟨pl.isList.typeIs,fun a e=> ?_⟩
      cases e
      obtain⟨o,n,e,c,hd,_⟩:=pl
      exact⟨o,e,hd⟩
    . refine⟨⟨o,I.kIn p o hk,hc⟩,fun a e=> ?_⟩
      cases e
      exact⟨o,I.kIn _ o hk,hd⟩
    . have z:∃o,s.heap.get? p=some o/\o.ExactDict:=by
        rcases hk with⟨kvs,hk⟩ | ⟨kvs,hk⟩
        . obtain⟨_,_,_,_,o,_,_,e,ex,_⟩:=I.hok p _ hk
          exact⟨o,e,ex⟩
        . obtain⟨_,_,_,_,o,_,_,e,ex,_⟩:=I.hok p _ hk
          exact⟨o,e,ex⟩
      obtain⟨o,e,ex⟩:=z
      refine⟨⟨o,e,ex.1⟩,fun a e2=> ?_⟩
      cases e2
      exact⟨o,e,ex.2.1⟩
    . obtain⟨o,_,_,_,e,ex,_⟩:=I.hok p _ hk
      refine⟨⟨o,e,ex.1⟩,fun a e2=> ?_⟩
      cases e2
      exact⟨o,e,ex.2.1⟩
  | _=>exact False.elim ty
def tBM (K:PySem.W.Frag) (T:String) (r:V->List V->Hp->VK->Prop) (to:TE) (t:TA):TE:=fun σ H Q=>to σ H fun x H1=>tyV K T x H1/\t σ H1 fun xs H2=>r x xs H2 Q
variable {o e:Expr}{es:List Expr}{to:TE}{t:TA}{name:Str}{apos cpos:Pos}{T id:String}{r:V->List V->Hp->VK->Prop}
theorem Ep (pa:PlainAttrs T) (slot:Slot T name id) (hty:typeOf (.builtin id)=pure (.type "method_descriptor")) (hm:MtR X id r) (ho:PE X o to) (ha:PA X (e::es) t)
    (hbase:attributeBase o name X.env (eval o X.env)=eval o X.env:=by rfl)
    (hfew:((backTo cpos (starEach (e::es) X.env)).all (fun x=> !x.1)&&(backToKw cpos (keywordEach [] X.env)).all (fun x=>x.1.isSome)
      &&decide ((e::es).length+([]:List Keyword).length+(if([]:List Keyword).isEmpty then 0 else 1)<30))=true:=by rfl)
    (hline:(apos.endLine==cpos.line)=true:=by rfl) (hs:starEach (e::es) X.env=(false,eval e X.env)::starEach es X.env:=by rfl) (hplain:(backTo cpos (starEach es X.env)).any (·.1)=false:=by rfl):
    PE X (.Call (.Attribute o name apos) (e::es) [] cpos) (tBM X.K T r to t):=by
  intro pins s σ H Q I h
  refine wpAny_Call_method_late hbase hfew hline rfl (thn (ho pins s σ H _ I h) fun v s1 ⟨x,H1,I1,r1,ty,q1⟩=> ?_)
  obtain⟨h1,h2⟩:=Tt I1 r1 ty
  refine⟨T,id,pa,slot,hty,h1,h2,?_⟩
  have hA:=ha cpos pins s1 σ H1 _ I1 q1
  rw [hs]at hA ⊢
  refine Calls.callWith_builtin (by show(false||(backTo cpos (starEach es X.env)).any (·.1))=false;rw [hplain]<;>rfl) (Calls.evalArgs_plain ?_)
  exact thn hA fun us s2 ⟨vs,H2,I2,r2,q2⟩=>hm pins s2 σ H2 x vs v us Q I2 r1 r2 q2
/-xs.append(e),list.index on a module's tuple .. are MtR facts of 06m-/
end
end L2
namespace L2
open PySem PySem.Spec PyProof.Rows
def MtM (X:Cx) (id:String) (r:V->List V->Hp->VK->Prop):Prop:=
  ∀(pins:List (Addr × Obj)) (s:Shared) (σ:St) (H:Hp) (x:V) (xs:List V) (v:Value) (us:List Value) (Q:VK),Inv X pins σ H s->RelV x v->Vals xs us->r x xs H Q->
    wpAny (model X.prog X.w) X.A (call (.builtin id) (v::us)) (EP X pins σ Q) X.xe s
theorem Vals.one:∀ {x:V}{us:List Value},Vals [x] us->∃u,us=[u]/\RelV x u
  | _,_,.cons r .nil=>⟨_,rfl,r⟩
theorem Vals.zero:∀ {us:List Value},Vals [] us->us=[]
  | _,.nil=>rfl
theorem Vals.eraseIdx:∀ {xs:List V}{us:List Value} (i:Nat),Vals xs us->Vals (xs.eraseIdx i) (us.eraseIdx i)
  | _,_,_,.nil=> .nil
  | _,_,0,.cons _ t=>t
  | _,_,i+1,.cons r t=> .cons r (Vals.eraseIdx i t)
theorem Vals.reverse {xs:List V}{us:List Value} (h:Vals xs us):Vals xs.reverse us.reverse:=by
  induction h with
  | nil=>exact .nil
  | cons r t ih=>rw [List.reverse_cons,List.reverse_cons];exact Vals.append ih (.cons r .nil)
theorem Ip {α:Type}:∀(l:List α) (i:Nat),(l.eraseIdx i).length<=l.length
  | [],_=>Nat.le_refl _
  | _::_,0=>Nat.le_succ _
  | _::r,i+1=>Nat.succ_le_succ (Ip r i)
section
variable {X:Cx}{pins:List (Addr × Obj)}{σ:St}{H:Hp}{s:Shared}{l b:Addr}{xs ys zs:List V}
theorem Inv.lset {its its':List Value}{n:Nat}{f:Array Value->Array Value}{t':Nat} (I:Inv X pins σ H s) (hH:H l=some (.lst xs))
    (e:s.heap.get? l=some { cls:= .type "list",data:= .seq its.toArray n}) (hf:f its.toArray=its'.toArray) (hv:Vals ys its') (hz:ys.length<=sizeLine):
    Inv X pins σ (upd H l (.lst ys)) { s with heap:=s.heap.update l (Obj.mapSeq f),toks:=t'}:=by
  have q:=PySem.IsL.update e f
  rw [hf]at q
  refine I.write (x:=l) (e:=l) (by rw [hH];exact trivial) (.inl rfl) (fun b' u hb hu=>(Heap.get?_update_other s.heap (Obj.mapSeq f) (Ne.symm hb)).trans hu) ⟨_,q⟩ ?_
  exact⟨hz,its',_,hv,q⟩
theorem Inv.lnew {its:List Value}{t':Nat} (I:Inv X pins σ H s) (hv:Vals ys its) (hz:ys.length<=sizeLine):
    Inv X pins σ (upd H s.heap.objs.size (.lst ys)) { s with heap:=s.heap.push { cls:= .type "list",data:= .seq its.toArray},toks:=t'}:=
  I.laid (fun _ _ q=>Heap.get?_push_of_some _ q) (Nat.le_refl _) ⟨hz,its,0,hv,Heap.get?_push_size _ rfl⟩
theorem Inv.fresh (I:Inv X pins σ H s):H s.heap.objs.size=none:=I.hok.fresh (Nat.le_refl _)
theorem Inv.lstM (I:Inv X pins σ H s) (hH:H l=some (.lst xs)):xs.length<=sizeLine/\∃(its:List Value) (n:Nat),Vals xs its/\xs.length=its.length/\s.heap.get? l=some { cls:= .type "list",data:= .seq its.toArray n}:=by
  obtain⟨z,its,n,r,e⟩:=I.hok l _ hH
  exact⟨z,its,n,r,r.length,e⟩
end
section
variable {X:Cx}
def Rb:V->List V->Hp->VK->Prop:=fun x vs H Q=>∃l xs y,x= .ref l/\vs=[y]/\H l=some (.lst xs)/\xs.length<sizeLine/\Q .non (upd H l (.lst (xs++ [y])))
theorem Dm:MtM X "list.append" Rb:=by
  intro pins s σ H x vs v us Q I rx rv h
  obtain⟨l,xs,y,rfl,rfl,hH,hz,q⟩:=h
  cases rx
  obtain⟨u,rfl,ru⟩:=rv.one
  obtain⟨z,its,n,r,hl,e⟩:=I.lstM hH
  refine call_meets F.slot_list_append ⟨_,e,rfl⟩ F.entry_list_append (F.args_list_append_2 _ _) (PySem.list_append l its.toArray n u (by rw [List.size_toArray];omega)) ⟨e,?_⟩
  refine⟨.non,_,I.lset (its':=its++ [u]) hH e (by simp) (r.append (.cons ru .nil)) ?_,rfl,q⟩
  rw [List.length_append,List.length_singleton]
  omega
def Rt:V->List V->Hp->VK->Prop:=fun x vs H Q=>∃l xs i k y,x= .ref l/\vs=[.int i]/\H l=some (.lst xs)/\ -(2^63)<=i/\i<2^63/\seqIndex? i xs.length=some k/\xs[k]? =some y/\Q y (upd H l (.lst (xs.eraseIdx k)))
theorem N5:MtM X "list.pop" Rt:=by
  intro pins s σ H x vs v us Q I rx rv h
  obtain⟨l,xs,i,k,y,rfl,rfl,hH,h1,h2,hk,hy,q⟩:=h
  cases rx
  obtain⟨u,rfl,ru⟩:=rv.one
  obtain⟨t,rfl⟩:=ru
  obtain⟨z,its,n,r,hl,e⟩:=I.lstM hH
  obtain⟨w,hw,rw'⟩:=r.get hy
  refine call_meets F.slot_list_pop ⟨_,e,rfl⟩ F.entry_list_pop (F.args_list_pop_2 _ _)
    (MeetsSeq.list_pop_at l its.toArray n i t k w (fitsIndex_both h1 h2) (by rw [List.size_toArray,<-hl];exact hk) (by rw [<-Array.getElem?_toList];exact hw) (by rw [List.size_toArray];omega)) ⟨e,?_⟩
  refine⟨y,_,I.lset (its':=its.eraseIdx k) hH e ?_ (r.eraseIdx k) ?_,rw',q⟩
  . show its.toArray.eraseIdxIfInBounds k=(its.eraseIdx k).toArray
    rw [List.eraseIdxIfInBounds_toArray]
  . have:=Ip xs k
    omega
def Wd:R2:=fun x y H Q=>∃l b xs zs,x= .ref l/\y= .ref b/\H l=some (.lst xs)/\H b=some (.lst zs)/\xs.length+zs.length<=sizeLine/\∀p,H p=none->Q (.ref p) (upd H p (.lst (xs++zs)))
theorem J1:OpR X (binaryOp .Add) Wd:=by
  intro pins s σ H x y v u Q I rx ry h
  obtain⟨l,b,xs,zs,rfl,rfl,hH,hB,hz,q⟩:=h
  cases rx
  cases ry
  obtain⟨z,its,n,r,hl,e⟩:=I.lstM hH
  obtain⟨z2,its2,n2,r2,hl2,e2⟩:=I.lstM hB
  refine PySem.P.add_list e e2 ?_ (by rw [List.size_toArray,List.size_toArray];omega)
  have ea:its.toArray++its2.toArray=(its++its2).toArray:=by simp
  rw [ea]
  exact⟨.ref _,_,I.lnew (t':=s.toks) (r.append r2) (by rw [List.length_append];omega),rfl,q _ I.fresh⟩
end
end L2
namespace Att
open PySem PySem.W PySem.Calls PyProof.Rows
theorem Eu {P:Params}{h:Heap}:∀(ns:List Int) (vs:List Value),WellAll P h vs (ns.map WData.int)->IntsAre vs ns:=by
  intro ns
  induction ns with
  | nil=>
    intro vs w
    rw [List.map_nil]at w
    cases w
    exact .nil
  | cons n ns ih=>
    intro vs w
    rw [List.map_cons]at w
    cases w with
    | cons a b=>
      cases a
      exact .cons _ _ (ih _ b)
theorem Li {l:OpenLaw}{n:Nat} (hn:l.most=some n) {P:Params}{h:Heap}{args:List WData}{vals:List Value}
    (hpre:l.row.toRowW.claim.pre args=true) (hwl:WellAll P h vals args):
    ∃a vs ns,vals=[Value.ref a]/\args=[WData.list (ns.map WData.int)]/\h.get? a=some { cls:= .type "list",data:= .seq vs.toArray}/\IntsAre vs ns/\ns.length<=n:=by
  have hsh:WShape.hasAll [] args [.list .int]=true:=(pre_splitW hpre).1
  have hc:l.pre.holds [] { args:=args}=true:=(pre_splitW hpre).2
  obtain⟨d,r,rfl,h1,h2⟩:=hasAllW_cons hsh
  obtain rfl:=hasAllW_nil h2
  obtain⟨xs,rfl,h3⟩:=hasW_list h1
  obtain⟨ns,rfl⟩:=items_int h3
  have hlen:ns.length<=n:=by
    unfold OpenLaw.pre at hc
    have h4:(WTm.not (.lt (.lit (.int (n:Int))) (.len (.arg 0)))).holds [] { args:=[.list (ns.map .int)]}=true:=by
      have h4:=(holds_andW hc).1
      rw [hn]at h4
      exact h4
    have h5:=condW_of h4 (w_not (w_lt w_lit (w_len_list (w_arg rfl))))
    rw [List.length_map]at h5
    refine Nat.le_of_not_lt fun q=> ?_
    have q':(n:Int)<((ns.length:Nat):Int):=by omega
    first
      | (rw [decide_eq_true q']at h5;exact absurd h5 (by decide))
      | (simp at h5;omega)
  cases hwl with
  | cons w1 w2=>
    cases w2
    cases w1 with
    | list ho hall=>exact⟨_,_,ns,rfl,rfl,ho,Eu ns _ hall,hlen⟩
theorem Ld (l:OpenLaw) (args:List WData):l.row.toRowW.claim.post args (.bool true) args=true:=
  postW_of (r:=l.row.toRowW) (X:=(true==true))
    (show WShape.has [] (.bool true) .bool=true by first | rfl | decide | simp [WShape.has,WShape.arms,WShape.armsAll])
    (show(WTm.eq .res (.lit (.bool true))).value [] { args:=args,res:=some (.bool true),after:=args}=some (.bool (true==true))from w_eq_bool (w_res rfl) w_lit) rfl
theorem Iw {l:OpenLaw}{n:Nat}{q:Program}{loose:List Str}{XP:(Str->Option Value)->Heap->Prop}{YP:World->Heap->Prop}{d:DefRec}
    (hn:l.most=some n) (hdf:d.params.defaults=[])
    (call:∀(w:World) (s₀ s₁:Shared) (mg mb:Str->Option Value) (fa:Addr) (o:Obj) (pm cd doc:Value) (a:Addr) (vs:List Value) (ns:List Int),
      Ground q loose [] XP w s₀ mg mb s₁.heap->YP w s₁.heap->
      s₁.heap.get? fa=some o->o.data= .func (docDef d.name d.params d.body d.scope pm cd doc)->s₁.heap.CodeRec cd d.name->mg d.name=some (.ref fa)->
      s₁.heap.get? a=some { cls:= .type "list",data:= .seq vs.toArray}->IntsAre vs ns->ns.length<=n->s₁.gens= #[]->
      codeAny (model l.prog w) callerA (.call (.ref fa) ⟨[.ref a],[]⟩) (fun r s'=>r= .ok (.ret (.bool true))/\OldK s₁.heap s'.heap/\s'.os=s₁.os/\AllBare s'.gens) s₁):
    WalkO q loose XP YP l.row.toRowW d [] (fun f vs=>PySem.call f vs):=by
  intro w s₀ s₁ mg mb G Y fa o pm cd doc dV kV ho hd hcd hD hmg hg args vals as hpre hlay hrd hwl hlo
  obtain rfl:dV= .none:=Dflts.none hD hdf
  obtain rfl:kV= .none:=Dflts.noKw hD
  obtain⟨a,vs,ns,rfl,rfl,hobj,hints,hlen⟩:=Li hn hpre hwl
  refine enter_call (codeAny_mono (call w s₀ s₁ mg mb fa o pm cd doc a vs ns G Y ho (fd_plain hd) hcd hmg hobj hints hlen hg) fun r s' hq=> ?_)
  obtain⟨rfl,h2,h3,h4⟩:=hq
  exact⟨.inl ⟨.bool true,.bool true,[],rfl,fun _=>rfl,.bool true,Ld l _,fun _=>⟨List.Pairwise.nil,fun _ hm=>(nomatch hm)⟩⟩,h2,h3,h4⟩
end Att
namespace L2
open PySem PySem.Spec PyProof.Rows
theorem Im:∀ {vs:List Value}{ns:List Int},IntsAre vs ns->Vals (ns.map V.int) vs
  | _,_,.nil=> .nil
  | _,_,.cons n t h=> .cons ⟨t,rfl⟩ (Im h)
def Only (H:Hp):Prop:=∀b,H b=none\/∃o xs,H b=some (.frz o (.lst xs))
theorem Oi {P:Program}{w:World}{K:PySem.W.Frag}{mg mb:Str->Option Value}{CX:CXT}{k:Nat}{fa a:Addr}{fd:FuncData}{x:Str}{sp:Sp}{s₁:Shared}{vs:List Value}{ns:List Int}
    (KX:K.In s₁.heap) (hns:s₁.heap.Ns mainGlobals mg) (hb:s₁.heap.Ns builtinsNs mb) (hbb:∀x:Str,x≠"__name__"->mb x=bootBuiltins x) (hlim:s₁.heap.NoLimit) (hg:s₁.gens= #[])
    (ha:s₁.heap.get? a=some { cls:= .type "list",data:= .seq vs.toArray}) (hi:IntsAre vs ns) (hl:ns.length<=sizeLine) (hr:Ew k callerA)
    (F:∀base:Heap,K.In base->base.Ns mainGlobals mg->Hf P w K mg base CX k fa fd [x] sp) (hbind:∀(s:Shared) (u:Value),BindsTo s fd ⟨[u],[]⟩ [(x,u)])
    (hsp:∀H:Hp,Only H->SqL K H a (ns.map V.int)->sp [.ref a] H (fun v _=>v= .bl true) fun _ _ _=>False)
    (hCX:∀H e s',CX [] H s₁ (fun _ _ _=>False) e s'->False):
    codeAny (model P w) callerA (.call (.ref fa) ⟨[.ref a],[]⟩) (fun r s'=>r= .ok (.ret (.bool true))/\OldK s₁.heap s'.heap/\s'.os=s₁.os/\AllBare s'.gens) s₁:=by
  have rv:=Im hi
  have lenV:=hi.length
  have core:∀H:Hp,Only H->SqL K H a (ns.map V.int)->HOk P w H s₁.heap->(∀b,H b≠none->b=a)->(H a≠none->K.lookup a=none)->
      codeAny (model P w) callerA (.call (.ref fa) ⟨[.ref a],[]⟩) (fun r s'=>r= .ok (.ret (.bool true))/\OldK s₁.heap s'.heap/\s'.os=s₁.os/\AllBare s'.gens) s₁:=by
    intro H hO hS hok hA hK
    have base_of:∀ {b:Addr}{o:Obj},s₁.heap.get? b=some o->H b=none->(Nx s₁.heap H).get? b=some o:=fun e n=>Nm e n
    have noA:∀ {b:Addr}{o:Obj}{es:Array DictEntry}{ep:Nat},s₁.heap.get? b=some o->o.data= .dict es ep->H b=none:=fun {b o es ep} e d=>by
      cases q:H b with
      | none=>rfl
      | some u=>
        have e':b=a:=hA b (by rw [q];simp)
        subst e'
        rw [ha]at e;cases e
        have d':Data.seq vs.toArray _=Data.dict es ep:=d
        cases d'
    have nsK:∀ {b:Addr}{m:Str->Option Value},s₁.heap.Ns b m->(Nx s₁.heap H).Ns b m:=fun {b m} ⟨o,es,ep,e,d,r⟩=>⟨o,es,ep,base_of e (noA e d),d,r⟩
    have hKb:K.In (Nx s₁.heap H):=fun b o e=>base_of (KX b o e) (by
      cases q:H b with
      | none=>rfl
      | some u=>
        have e':b=a:=hA b (by rw [q];simp)
        subst e'
        rw [hK (by rw [q];simp)]at e;cases e)
    have hM:Mod K mg (Nx s₁.heap H):=⟨hKb,nsK hns,⟨mb,nsK hb,hbb⟩,let ⟨mc,h1,h2⟩:=hlim;⟨mc,nsK h1,h2⟩⟩
    have e0:Qu P w K mg (Nx s₁.heap H) callerA [] s₁ H:=⟨rfl,hM,fun b o e=>Qe e,Nat.le_of_eq (Mq _ _),trivial,fun b hb=>absurd (show b∈([]:List Addr)from hb) (by simp),hok,.of_eq hg⟩
    refine codeAny_mono ((F _ hKb (nsK hns)).run callerA [] s₁ H ⟨[.ref a],[]⟩ [.ref a] [.ref a] _ _ hr e0 (hbind s₁ (.ref a)) (.cons rfl .nil) (hsp H hO hS)) fun r s' h=> ?_
    cases r with
    | error e=>exact(hCX H e s' h).elim
    | ok fl=>
      cases fl with
      | next=>exact False.elim h
      | brk=>exact False.elim h
      | cont=>exact False.elim h
      | ret u=>
        obtain⟨v,H',os,bare,un,hok',r',q⟩:=h
        have q':v= .bl true:=q
        subst q'
        obtain rfl:u=Value.bool true:=r'
        refine⟨rfl,OldK.of_keep fun b o e=> ?_,os,bare⟩
        cases q:H b with
        | none=>exact un.keep b o e q (by intro z;exact absurd (show b∈([]:List Addr)from z) (by simp)) (by simp)
        | some u=>
          rcases hO b with z | ⟨ob,xs,z⟩
          . rw [q]at z;cases z
          . have z2:=un.frzs b ob _ z
            obtain⟨e1,_⟩:=hok b _ z
            obtain⟨e2,_⟩:=hok' b _ z2
            rw [e]at e1;cases e1
            exact e2
  cases hk:K.lookup a with
  | some o=>
    have e:=KX a o hk
    rw [ha]at e
    cases e
    refine core (fun _=>none) (fun _=> .inl rfl) (.inr ⟨_,vs.toArray,_,hk,rfl,rfl,rfl,by rw [List.size_toArray,lenV];exact hl,by simpa using rv⟩) (fun b u z=>by have z':(none:Option HO)=some u:=z;cases z') (fun b z=>absurd rfl z) fun z=>absurd rfl z
  | none=>
    refine core (fun b=>if b=a then some (.frz { cls:= .type "list",data:= .seq vs.toArray} (.lst (ns.map V.int)))else none) (fun b=> ?_) (.inl (.inr ⟨{ cls:= .type "list",data:= .seq vs.toArray},if_pos rfl⟩)) (fun b u z=> ?_) (fun b z=> ?_) fun _=>hk
    . by_cases hb:b=a
      . exact .inr ⟨_,_,if_pos hb⟩
      . exact .inl (if_neg hb)
    . by_cases hb:b=a
      . have z':=(if_pos hb).symm.trans z
        cases z'
        subst hb
        exact⟨ha,by rw [List.length_map];exact hl,vs,_,rv,ha⟩
      . have z':=(if_neg hb).symm.trans z
        cases z'
    . by_cases hb:b=a
      . exact hb
      . exact absurd (if_neg hb) z
end L2
namespace L2
open PySem PySem.Spec PyProof.Rows
theorem Kz {l:PySem.W.OpenLaw}{n k:Nat}{q:Program}{loose:List Str}{XP:(Str->Option Value)->Heap->Prop}{YP:World->Heap->Prop}{d:DefRec}{K:Params->PySem.W.Frag}{CX:World->CXT}{sp:World->Sp}{x:Str}
    (hn:l.most=some n) (hn2:n<=sizeLine) (hdf:d.params.defaults=[]) (hr:Ew k callerA)
    (hY:∀(w:World) (h:Heap),YP w h->(K w.params).In h)
    (F:∀(w:World) (mg:Str->Option Value) (fa:Addr) (h:Heap),(K w.params).In h->h.Ns mainGlobals mg->mg d.name=some (.ref fa)->
      ∃fd:FuncData,(∀(s:Shared) (u:Value),BindsTo s fd ⟨[u],[]⟩ [(x,u)])/\
        ∀base:Heap,(K w.params).In base->base.Ns mainGlobals mg->Hf l.prog w (K w.params) mg base (CX w) k fa fd [x] (sp w))
    (hsp:∀(w:World) (H:Hp) (a:Addr) (ns:List Int),ns.length<=n->Only H->SqL (K w.params) H a (ns.map V.int)->sp w [.ref a] H (fun v _=>v= .bl true) fun _ _ _=>False)
    (hCX:∀(w:World) (H:Hp) (s:Shared) (e:Value) (s':Shared),CX w [] H s (fun _ _ _=>False) e s'->False):
    PySem.W.WalkO q loose XP YP l.row.toRowW d [] (fun f vs=>PySem.call f vs):=by
  refine Att.Iw hn hdf fun w s₀ s₁ mg mb fa o pm cd doc a vs ns G Y ho hd hcd hmg hobj hints hlen hg=> ?_
  have KX:=hY w _ Y
  obtain⟨fd,hb,hF⟩:=F w mg fa _ KX G.T.g hmg
  exact Oi KX G.T.g G.T.b G.T.builtins G.T.nolimit hg hobj hints (Nat.le_trans hlen hn2) hr hF hb (fun H hO hS=>hsp w H a ns hlen hO hS) fun H e s'=>hCX w H s₁ e s'
end L2
/-THE LAST THEOREM (shape;LID,My.*are yours):
   My.Adr:a structure of the addresses that your layer names (classes,functions);My.Txt K t:a structure (Prop) of the equations over K;
   My.txt_mk:{K}{implicit addresses ..} (e1:nsIn K mainGlobals "law"=some (some (.ref f))) (e2:K.lookup f=some ⟨oc,od,.func (fnOf "law" "law" params body scope dV kV doc pm an cdv ct),sl⟩) (e3:codeIn K cdv "law"=true) .. :∃t,My.Txt K t
set_option maxRecDepth 100000 in
set_option maxHeartbeats 0 in
theorem PySem.Challenge.cw_LID_holds : PySem.Challenge.rw_LID.Holds := by
  w_on;o_law;k_head;(case hw=>w_witness2)
  k_fill
  refine L2.Kz (l:=PySem.Challenge.rw_LID) (n:=63) (k:=40) (x:="script") (CX:=fun w=> ..) (sp:=fun _=>My.sp_law) rfl (by decide) rfl ⟨rfl,by decide,by decide⟩ (fun w h Y=>PySem.W.kIn_of Y) ?F ?S ?C
  case F=>
    intro w mg fa h KX G hmg
    have T:∃t,My.Txt (L2.KOf KX) t:=by
      dsimp only [L2.KOf]                          --K must stand as «<heap const>w.params» for k_is
      refine' My.txt_mk ?e1 ?e2 ?e3 ..
      (case e1=>PySem.W.k_is)                    --in the order:a name->its address->its object->its parts
      (case e2=>PySem.W.k_is)
      ..
    obtain⟨t,T⟩:=T
    have e0:=hmg.symm.trans (PySem.W.mg_of KX G T.law)
    cases e0                                       --fa is the law's own address
    exact⟨_,fun s u=> .of_eq rfl,fun base kb nb=>My.law_fn T kb nb⟩     --if «.of_eq rfl» comes too early:refine' ⟨_,?b,fun base kb nb=>My.law_fn T kb nb⟩;exact fun s u=> .of_eq rfl
  case S=>exact fun w H a ns hl hO hS=> ..
  case C=>exact ..
(the tactic k_is has no namespace:write k_is)-/
namespace L2
open PySem PySem.Spec PyProof.Rows
def Cu (s:Stmt):Arguments:=match s with
  | .FunctionDef _ a _ _ _ _ _ _ _ _=>a
  | _=>{ posonlyargs:=[],args:=[],vararg:=none,kwonlyargs:=[],kw_defaults:=[],kwarg:=none,defaults:=[]}
def Ca (s:Stmt):List Stmt:=match s with
  | .FunctionDef _ _ b _ _ _ _ _ _ _=>b
  | _=>[]
def Af (s:Stmt):Scope:=match s with
  | .FunctionDef _ _ _ _ _ _ sc _ _ _=>sc
  | _=>{ kind:= .function,names:=[],isGenerator:=false,isCoroutine:=false}
abbrev CX0:CXT:=fun _ _ _ _ _ _=>False
abbrev E0:XK:=fun _ _ _=>False
theorem Vx {X:Cx}:Passes CX0 X E0:=fun _ _ _ _ _ _ _ h=>h.elim
structure Fun (K:PySem.W.Frag) (x qual:Str) (st:Stmt) (f:Addr) (fd:FuncData):Prop where
  ex:∃(oc:Value) (od:Option Addr) (kV doc pm:Value) (an:Option Addr) (cdv ct:Value) (osl:Array (Option Value)),
    fd=PySem.W.fnOf x qual (Cu st) (Ca st) (Af st) .none kV doc pm an cdv ct/\K.lookup f=some ⟨oc,od,.func fd,osl⟩/\PySem.W.codeIn K cdv qual=true
  kp:PySem.W.keepIn K (.ref f)=true
section
variable {P:Program}{w:World}{K:PySem.W.Frag}{mg:Str->Option Value}{base:Heap}
theorem Fun.ok {x qual:Str}{st:Stmt}{f:Addr}{fd:FuncData}{N ps:List Str}{k:Nat}{sp:Sp} (F:Fun K x qual st f fd) (S:Bf N ps (Af st)) (len:∀vs H Q E,sp vs H Q E->vs.length=ps.length)
    (hbody:∀(cdv:Value) (A:Around) (outer:List Env) (s:Shared) (H:Hp) (vs:List V) (Q:VK) (E:XK),Ew k (A.deeper (envOfC qual (Af st) s.heap.objs.size f cdv))->sp vs H Q E->
      ∃t,PSs (O2 CX0 P w K mg base N qual (Af st) f cdv A outer s H E).nox (Ca st) t/\t { nx:=fun _ H'=>Q .non H',rt:=Q} (start N vs) H):Hf P w K mg base CX0 (k+1) f fd ps sp:=by
  obtain⟨oc,od,kV,doc,pm,an,cdv,ct,osl,rfl,lk,hcd⟩:=F.ex
  refine Vi lk hcd S len fun A outer s H vs Q E hr hsp=> ?_
  obtain⟨t,h,q⟩:=hbody cdv A outer s H vs Q E hr hsp
  exact⟨t,h.nox,q⟩
theorem Fun.binds {x qual:Str}{st:Stmt}{f:Addr}{fd:FuncData}{ps:List Str} (F:Fun K x qual st f fd)
    (h:∀(kV doc pm:Value) (an:Option Addr) (cdv ct:Value) (us:List Value),us.length=ps.length->bindArgs (PySem.W.fnOf x qual (Cu st) (Ca st) (Af st) .none kV doc pm an cdv ct) ⟨us,[]⟩=pure (ps.zip us)):Binds K fd ps []:=by
  obtain⟨oc,od,kV,doc,pm,an,cdv,ct,osl,rfl,lk,hcd⟩:=F.ex
  exact .all (h kV doc pm an cdv ct)
theorem Pn {x qual:Str}{st:Stmt}{f:Addr}{oc:Value}{od an:Option Addr}{osl:Array (Option Value)}{kV doc pm cdv ct:Value} (l:K.lookup f=some ⟨oc,od,.func (PySem.W.fnOf x qual (Cu st) (Ca st) (Af st) .none kV doc pm an cdv ct),osl⟩)
    (c:PySem.W.codeIn K cdv qual=true) (k:PySem.W.keepIn K (.ref f)=true):Fun K x qual st f (PySem.W.fnOf x qual (Cu st) (Ca st) (Af st) .none kV doc pm an cdv ct):=⟨⟨oc,od,kV,doc,pm,an,cdv,ct,osl,rfl,l,c⟩,k⟩
end
section
variable {X:Cx}
theorem pv (i:Nat) {x:Str}{pos:Pos} (hN:X.N[i]? =some x:=by rfl) (hv:Vis X.env.scope x:=by first | exact Or.inl rfl | exact Or.inr (Or.inl rfl) | exact Or.inr (Or.inr rfl)) (hd:(x==("__debug__":Str))=false:=by decide)
    (hcd:(x==("__classdict__":Str))=false:=by decide):PE X (.Name x pos) (Rm i):=T7 hN hv hd hcd
end
def Same (H H':Hp):Prop:=∀b o,H b=some o->H' b=some o
theorem Same.refl (H:Hp):Same H H:=fun _ _ h=>h
theorem Same.trans {H H1 H2:Hp} (a:Same H H1) (b:Same H1 H2):Same H H2:=fun c o h=>b c o (a c o h)
theorem Same.free {H H':Hp} (e:Same H H') {l:Addr} (h:H' l=Option.none):H l=Option.none:=by
  cases q:H l with
  | none=>rfl
  | some o=>
    rw [e l o q]at h
    cases h
theorem Same.seq {K:PySem.W.Frag}{H H':Hp}{a:Addr}{xs:List V} (e:Same H H') (h:SqL K H a xs):SqL K H' a xs:=by
  rcases h with(h | ⟨o,h⟩) | h
  . exact .inl (.inl (e _ _ h))
  . exact .inl (.inr ⟨o,e _ _ h⟩)
  . exact .inr h
end L2
namespace L2
open PySem PySem.Spec PyProof.Rows
def Cal (P:Program) (w:World) (K:PySem.W.Frag) (mg:Str->Option Value) (base:Heap) (k:Nat) (x:Str) (ps:List Str) (sp:Sp):Prop:=
  ∃f fd,Hf P w K mg base CX0 k f fd ps sp/\mg x=some (.ref f)/\PySem.W.keepIn K (.ref f)=true/\Binds K fd ps []
structure Df (K:PySem.W.Frag) (mg:Str->Option Value) (x:Str) (st:Stmt) (ps:List Str) (f:Addr) (fd:FuncData):Prop where
  fn:Fun K x x st f fd
  bd:Binds K fd ps []
  at':mg x=some (.ref f)
theorem Df.cal {P:Program}{w:World}{K:PySem.W.Frag}{mg:Str->Option Value}{base:Heap}{k:Nat}{x:Str}{st:Stmt}{ps:List Str}{f:Addr}{fd:FuncData}{sp:Sp}
    (F:Df K mg x st ps f fd) (G:Hf P w K mg base CX0 k f fd ps sp):Cal P w K mg base k x ps sp:=⟨f,fd,G,F.at',F.fn.kp,F.bd⟩
theorem Cal.imp {P:Program}{w:World}{K:PySem.W.Frag}{mg:Str->Option Value}{base:Heap}{k:Nat}{x:Str}{ps:List Str}{sp sp':Sp}
    (C:Cal P w K mg base k x ps sp) (h:∀vs H Q E,sp' vs H Q E->sp vs H Q E):Cal P w K mg base k x ps sp':=by
  obtain⟨f,fd,G,a,b,c⟩:=C
  exact⟨f,fd,G.imp h,a,b,c⟩
theorem Nt {X:Cx}{k:Nat}{x:Str}{ps:List Str}{sp:Sp}{p pos:Pos}{e:Expr}{es:List Expr}{t:TA}
    (C:Cal X.prog X.w X.K X.mg X.base k x ps sp) (hr:Ew k X.A) (ha:PA X (e::es) t) (hg:Gl X x:=by rfl) (hdb:(x==("__debug__":Str))=false:=by decide)
    (he:starEach (e::es) X.env=(false,eval e X.env)::starEach es X.env:=by rfl) (hpl:(backTo pos (starEach es X.env)).any (·.1)=false:=by rfl):
    PE X (.Call (.Name x p) (e::es) [] pos) (Lp sp [] E0 t):=by
  obtain⟨f,fd,G,a,b,c⟩:=C
  exact Ql G hr hg a b c .nil Vx ha hdb he hpl
def Sz (n:Nat) (a:Int):Prop:=a.natAbs<2^n
theorem Sz.mono {m n:Nat}{a:Int} (h:Sz m a) (l:m<=n):Sz n a:=Nat.lt_of_lt_of_le h (Nat.pow_le_pow_right (by decide) l)
theorem Sz.add {m n:Nat}{a b:Int} (h:Sz m a) (g:Sz n b):Sz (max m n+1) (a+b):=by
  have h1:Sz (max m n) a:=h.mono (Nat.le_max_left _ _)
  have h2:Sz (max m n) b:=g.mono (Nat.le_max_right _ _)
  unfold Sz at*
  have:=Int.natAbs_add_le a b
  rw [Nat.pow_succ]
  omega
theorem Sz.neg {n:Nat}{a:Int} (h:Sz n a):Sz n (-a):=by
  unfold Sz at*
  rw [Int.natAbs_neg]
  exact h
theorem Sz.sub {m n:Nat}{a b:Int} (h:Sz m a) (g:Sz n b):Sz (max m n+1) (a-b):=by
  rw [Int.sub_eq_add_neg]
  exact h.add g.neg
theorem Sz.mulOk {m n:Nat}{a b:Int} (h:Sz m a) (g:Sz n b) (l:m+n<=134217728):IntMulOk a b:=
  IntMulOk.of_le (PySem.intBits_le_iff.mpr h) (PySem.intBits_le_iff.mpr g) l
theorem Sz.log2 {n:Nat}{a:Int} (h:Sz n a) (h0:a≠0) (l:n<=9000):a.natAbs.log2<9000:=
  Nat.lt_of_lt_of_le ((Nat.log2_lt (by omega)).mpr h) l
section
variable {X:Cx}{a b:Expr}{ta tb:TE}{pos:Pos}
theorem G7:OpR X (binaryOp .Mult) (rI IntMulOk fun i j=> .int (i*j)):=opI fun _ _ _ _ _ _ _ hc q=>mul_int q hc
end
mutual
inductive RdD (K:PySem.W.Frag) (H:Hp):V->PyData->Prop where
  | non:RdD K H .non .none
  | bl (b:Bool):RdD K H (.bl b) (.bool b)
  | int (i:Int):RdD K H (.int i) (.int i)
  | str (x:Str):RdD K H (.str x) (.str x)
  | tup {a:Addr}{xs:List V}{ds:List PyData}:SqT K H a xs->Jx K H xs ds->RdD K H (.ref a) (.tuple ds)
  | lst {a:Addr}{xs:List V}{ds:List PyData}:SqL K H a xs->Jx K H xs ds->RdD K H (.ref a) (.list ds)
inductive Jx (K:PySem.W.Frag) (H:Hp):List V->List PyData->Prop where
  | nil:Jx K H [] []
  | cons {x:V}{d:PyData}{xs:List V}{ds:List PyData}:RdD K H x d->Jx K H xs ds->Jx K H (x::xs) (d::ds)
end
section
variable {X:Cx}{pins:List (Addr × Obj)}{σ:St}{H:Hp}{s:Shared}
mutual
theorem RdD.reads (I:Inv X pins σ H s):∀ {x:V}{d:PyData}{u:Value},RdD X.K H x d->RelV x u->∃as,Reads s.heap u d as
  | _,_,_,.non,r=>by cases r;exact⟨_,.none⟩
  | _,_,_,.bl b,r=>by cases r;exact⟨_,.bool b⟩
  | _,_,_,.int i,r=>by obtain⟨t,rfl⟩:=r;exact⟨_,.int i t⟩
  | _,_,_,.str x,r=>by obtain⟨t,rfl⟩:=r;exact⟨_,.str x t⟩
  | _,_,_,.tup hq hr,r=>by
    cases r
    obtain⟨its,rv,pl,hz⟩:=I.tuple hq
    obtain⟨as,q⟩:=Jx.reads I hr rv
    obtain⟨o,ho,hc,n,hd⟩:=pl
    exact⟨_,.tuple ho hc hd (by simpa using q)⟩
  | _,_,_,.lst hq hr,r=>by
    cases r
    obtain⟨its,rv,pl,hz⟩:=I.list hq
    obtain⟨as,q⟩:=Jx.reads I hr rv
    obtain⟨o,ho,hc,n,hd⟩:=pl.isList
    exact⟨_,.list ho hc hd (by simpa using q)⟩
theorem Jx.reads (I:Inv X pins σ H s):∀ {xs:List V}{ds:List PyData}{us:List Value},Jx X.K H xs ds->Vals xs us->∃as,ReadsAll s.heap us ds as
  | _,_,_,.nil,r=>by cases r;exact⟨_,.nil⟩
  | _,_,_,.cons h t,r=>by
    cases r with
    | cons r1 r2=>
      obtain⟨as,q⟩:=RdD.reads I h r1
      obtain⟨bs,p⟩:=Jx.reads I t r2
      exact⟨_,.cons q p⟩
end
end
theorem Jx.ints {K:PySem.W.Frag}{H:Hp}:∀ns:List Int,Jx K H (ns.map V.int) (ns.map PyData.int)
  | []=> .nil
  | n::r=> .cons (.int n) (Jx.ints r)
theorem RdD.ints {K:PySem.W.Frag}{H:Hp}{a:Addr}{ns:List Int} (h:SqT K H a (ns.map V.int)):RdD K H (.ref a) (.tuple (ns.map PyData.int)):= .tup h (.ints ns)
theorem RdD.lints {K:PySem.W.Frag}{H:Hp}{a:Addr}{ns:List Int} (h:SqL K H a (ns.map V.int)):RdD K H (.ref a) (.list (ns.map PyData.int)):= .lst h (.ints ns)
theorem J3:∀ns ms:List Int,PyData.eqvAll (ns.map PyData.int) (ms.map PyData.int)=decide (ns=ms)
  | [],[]=>by simp [PyData.eqvAll]
  | [],_::_=>by simp [PyData.eqvAll]
  | _::_,[]=>by simp [PyData.eqvAll]
  | a::r,b::t=>by
    simp only [List.map_cons,PyData.eqvAll,PyData.eqv,J3 r t]
    by_cases h:a=b<;>by_cases h':r=t<;>simp [h,h']
section
variable {X:Cx}
def Vc (K:PySem.W.Frag) (f:Bool->Bool):R2:=fun x y H Q=>∃d e,RdD K H x d/\RdD K H y e/\SeqAt.shaped d=true/\SeqAt.shaped e=true/\Q (.bl (f (PyData.eqv d e))) H
theorem Pa (hu:X.A.units+64<cLine):OpR X (compareOp .Eq) (Vc X.K fun b=>b):=by
  intro pins s σ H x y v u Q I rx ry h
  obtain⟨d,e,hd,he,s1,s2,q⟩:=h
  obtain⟨as,r1⟩:=RdD.reads I hd rx
  obtain⟨bs,r2⟩:=RdD.reads I he ry
  exact eq_dataH r1 r2 s1 s2 hu ⟨.bl _,H,I,rfl,q⟩
theorem Gy:Dj X (.builtin "isinstance") (fun xs H Q=>∃x t T b,xs=[x,.ty T]/\Ir X.K H x t/\PySem.W.kitOne X.K t (.type T)=some b/\Q (.bl b) H):=by
  intro pins s σ H xs us Q I r h
  obtain⟨x,t,T,b,rfl,ht,hk,q⟩:=h
  obtain⟨u,c,rfl,ru,rc⟩:=vals2 r
  cases rc
  exact Lh I ru ht hk fun tk=>⟨.bl b,H,I.tok tk,rfl,q⟩
end
theorem Same.tup {K:PySem.W.Frag}{H H':Hp}{a:Addr}{xs:List V} (e:Same H H') (h:SqT K H a xs):SqT K H' a xs:=by
  rcases h with(h | ⟨o,h⟩) | h
  . exact .inl (.inl (e _ _ h))
  . exact .inl (.inr ⟨o,e _ _ h⟩)
  . exact .inr h
theorem Same.upd {H:Hp}{p:Addr} (h:H p=none) (o:HO):Same H (upd H p o):=fun b u q=>by
  rw [Al (Ai q h)]
  exact q
end L2
namespace L2
open PySem PySem.Spec PyProof.Rows
section
variable {X:Cx}{K:PySem.W.Frag}{σ:St}{H:Hp}{Q:VK}{D:Ends}{B:Bool->Hp->Prop}
theorem Uy {t u:TS}:Ug t u D σ H=t { D with nx:=u D} σ H:=rfl
theorem Ss:Py D σ H=D.nx σ H:=rfl
theorem Vs {c:TT}{t u:TS}:Um c t u D σ H=c σ H (fun b H1=>if b=true then t D σ H1 else u D σ H1):=rfl
theorem Va {te:TE}:Vu te D σ H=te σ H D.rt:=rfl
theorem Ry {te:TE}:Qi te D σ H=te σ H (fun _ H1=>D.nx σ H1):=rfl
theorem Vr {te:TE}{g:TG}:S6 te g D σ H=te σ H (fun x H1=>g x σ H1 D.nx):=rfl
theorem Pz {i:Nat}{v:V}{R:St->Hp->Prop}:Eo i v σ H R=R (σ.set i (some v)) H:=rfl
theorem R7 {v:V}{r:St}:Rm 0 (some v::r) H Q=Q v H:=propext ⟨fun⟨_,e,h⟩=>by cases e;exact h,fun h=>⟨v,rfl,h⟩⟩
theorem S5 {i:Nat}{o:Option V}{r:St}:Rm (i+1) (o::r) H Q=Rm i r H Q:=rfl
theorem z_c {v:V}:tC v σ H Q=Q v H:=rfl
theorem V7 {r:R2}{ta tb:TE}:tOp r ta tb σ H Q=ta σ H (fun x H1=>tb σ H1 fun y H2=>r x y H2 Q):=rfl
theorem Wq {r:V->Hp->VK->Prop}{ta:TE}:tUn r ta σ H Q=ta σ H (fun x H1=>r x H1 Q):=rfl
theorem Ws {C:Int->Int->Prop}{g:Int->Int->V}{i j:Int}:rI C g (.int i) (.int j) H Q=(C i j/\Q (g i j) H):=
  propext ⟨fun⟨_,_,e,f,h⟩=>by cases e;cases f;exact h,fun h=>⟨i,j,rfl,rfl,h⟩⟩
theorem Ve {g:Int->Int->V}{i j:Int}:rI0 g (.int i) (.int j) H Q=Q (g i j) H:=
  propext ⟨fun⟨_,_,e,f,h⟩=>by cases e;cases f;exact h,fun h=>⟨i,j,rfl,rfl,h⟩⟩
theorem V8 {g:Int->V}{i:Int}:rU g (.int i) H Q=Q (g i) H:=propext ⟨fun⟨_,e,h⟩=>by cases e;exact h,fun h=>⟨i,rfl,h⟩⟩
theorem Vf {i j:Int}:rEq (.int i) (.int j) H Q=Q (.bl (decide (i=j))) H:=by
  unfold rEq
  simp only [Rk,V.int.injEq,true_and]
theorem U9 {i j:Int}:rNe (.int i) (.int j) H Q=Q (.bl (!decide (i=j))) H:=by
  unfold rNe
  simp only [Rk,V.int.injEq,true_and]
theorem Us {i j:Bool}:rEq (.bl i) (.bl j) H Q=Q (.bl (decide (i=j))) H:=by
  unfold rEq
  simp only [Rk,V.bl.injEq,true_and]
theorem U5 {i j:Bool}:rNe (.bl i) (.bl j) H Q=Q (.bl (!decide (i=j))) H:=by
  unfold rNe
  simp only [Rk,V.bl.injEq,true_and]
theorem R0 {t:TE}:Q8 t σ H B=t σ H (fun x H'=>∃k,x= .bl k/\B k H'):=rfl
theorem V9 {t:TE}:tB t σ H B=t σ H (fun x H'=>∃k,x= .bl k/\B k H'):=rfl
theorem Ul {b:Bool}{p:Bool->Prop}:(∃k,V.bl b= .bl k/\p k)=p b:=propext ⟨fun⟨_,e,h⟩=>by cases e;exact h,fun h=>⟨b,rfl,h⟩⟩
theorem Vq {b:Int}{p:Int->Prop}:(∃k,V.int b= .int k/\p k)=p b:=propext ⟨fun⟨_,e,h⟩=>by cases e;exact h,fun h=>⟨b,rfl,h⟩⟩
theorem U8 {a b:V}{p:V->V->Prop}:(∃v w,[a,b]=[v,w]/\p v w)=p a b:=propext ⟨fun⟨_,_,e,h⟩=>by cases e;exact h,fun h=>⟨a,b,rfl,h⟩⟩
theorem Tp {b:Int}{p:Int->Prop}:(∃k,[V.int b]=[.int k]/\p k)=p b:=propext ⟨fun⟨_,e,h⟩=>by cases e;exact h,fun h=>⟨b,rfl,h⟩⟩
theorem Tz {a b:Int}{p:Int->Int->Prop}:(∃i j,[V.int a,V.int b]=[.int i,.int j]/\p i j)=p a b:=propext ⟨fun⟨_,_,e,h⟩=>by cases e;exact h,fun h=>⟨a,b,rfl,h⟩⟩
theorem Ut {t:TT}:Vb t σ H B=t σ H (fun c H1=>B (!c) H1):=rfl
theorem Vl {t u:TT}:Uv t u σ H B=t σ H (fun c H1=>if c=true then u σ H1 B else B false H1):=rfl
theorem Wa {t u:TT}:tOr t u σ H B=t σ H (fun c H1=>if c=true then B true H1 else u σ H1 B):=rfl
theorem R4 {ta tb:TE}:Qg ta tb σ H Q=ta σ H (fun x H1=>∃c,x= .bl c/\if c=true then tb σ H1 Q else Q (.bl false) H1):=rfl
theorem Rn {ta:TE}:Qp ta σ H Q=ta σ H (fun x H1=>∃c,x= .bl c/\Q (.bl (!c)) H1):=rfl
theorem T3 {sp:Sp}{dvs:List V}{E:XK}{t:TA}:Lp sp dvs E t σ H Q=t σ H (fun vs H1=>sp (vs++dvs) H1 Q E):=rfl
theorem Vd {R:List V->Hp->Prop}:Vt σ H R=R [] H:=rfl
theorem Tf {te:TE}{t:TA}{R:List V->Hp->Prop}:Oj te t σ H R=te σ H (fun x H1=>t σ H1 fun xs H2=>R (x::xs) H2):=rfl
theorem Wf {r:List V->Hp->VK->Prop}{t:TA}:tCB r t σ H Q=t σ H (fun vs H1=>r vs H1 Q):=rfl
theorem Vy {t:TA}:Uw t σ H Q=t σ H (fun xs H1=>xs.length<=sizeLine/\∀p,H1 p=none->Q (.ref p) (upd H1 p (.tup xs))):=rfl
theorem Ur {t:TA}:Vn t σ H Q=t σ H (fun xs H1=>xs.length<=sizeLine/\∀p,H1 p=none->Q (.ref p) (upd H1 p (.lst xs))):=rfl
theorem Nu {a:Addr}{xs:List V}{i:Int}{v:V} (h:SqT K H a xs) (e:atI xs i=some v) (q:Q v H):Vm K (.ref a) (.int i) H Q:=⟨a,xs,i,v,rfl,rfl,h,e,q⟩
theorem Hx {a:Addr}{xs:List V}{i:Int}{v:V} (h:SqL K H a xs) (e:atI xs i=some v) (q:Q v H):Vg K (.ref a) (.int i) H Q:=⟨a,xs,i,v,rfl,rfl,h,e,q⟩
end
def U6 (_ j:Int):Prop:=0<j/\j.natAbs.log2<9000
theorem Gv {X:Cx}:OpR X (binaryOp .FloorDiv) (rI U6 fun i j=> .int (i/j)):=opI fun i j _ _ _ _ _ hc q=>by
  have h:j≠0:=by have:=hc.1;omega
  refine floordiv_int h ?_ (.inl (PyProof.noPylong_of_log2 hc.2))
  rw [Int.fdiv_eq_ediv_of_nonneg _ (Int.le_of_lt hc.1)]
  exact q
theorem Tv:(1:Nat)<=sizeLine:=by decide
theorem Ru:(2:Nat)<=sizeLine:=by decide
end L2
namespace L2
open PySem PySem.Spec PyProof.Rows
def clF (env:Env) (cs:List (Str × Addr)) (x:Str × NameKind):List (Str × Addr):=if x.2== .free then(x.1,(env.cells.lookup x.1).getD 0)::cs else cs
theorem J9 {scope:Scope}{env:Env} (h:∀x∈scope.names,x.2= .free->∃c,env.cells.lookup x.1=some c):closureFor scope env=pure (scope.names.foldl (clF env) []):=by
  unfold closureFor
  have key:∀(names:List (Str × NameKind)) (init:List (Str × Addr)),(∀x∈names,x.2= .free->∃c,env.cells.lookup x.1=some c)->
      (forIn names init (fun(x:Str × NameKind) (cs:List (Str × Addr))=>(if x.2== .free then(do let c<-cellOf env x.1;pure (ForInStep.yield ((x.1,c)::cs)))else pure (ForInStep.yield cs):Sem (ForInStep (List (Str × Addr))))))=(pure (names.foldl (clF env) init):Sem (List (Str × Addr))):=by
    intro names
    induction names with
    | nil=>intro init _;rfl
    | cons x r ih=>
      intro init hx
      rw [List.forIn_cons,List.foldl_cons]
      by_cases hf:x.2= .free
      . obtain⟨c,hc⟩:=hx x List.mem_cons_self hf
        have e1:cellOf env x.1=pure c:=by unfold cellOf;rw [hc]
        have e2:clF env init x=(x.1,c)::init:=by unfold clF;rw [hf,hc];rfl
        rw [e2,<-ih _ fun y hy=>hx y (List.mem_cons_of_mem _ hy)]
        rw [hf,e1]
        rfl
      . have e0:(x.2==NameKind.free)=false:=by simpa using hf
        have e2:clF env init x=init:=by unfold clF;rw [e0];rfl
        rw [e2,<-ih _ fun y hy=>hx y (List.mem_cons_of_mem _ hy),e0]
        rfl
  exact(congrArg (fun m=>m>>=fun r=>pure r) (key scope.names [] h)).trans (by rfl)
theorem Jr {env:Env}:∀(names:List (Str × NameKind)) (init:List (Str × Addr)) (y:Str) (c:Addr),(∀x∈names,x.2= .free->∃c,env.cells.lookup x.1=some c)->(names.foldl (clF env) init).lookup y=some c->init.lookup y=some c\/env.cells.lookup y=some c
  | [],_,_,_,_,h=> .inl h
  | x::r,init,y,c,hx,h=>by
    rw [List.foldl_cons]at h
    rcases Jr r _ y c (fun z hz=>hx z (List.mem_cons_of_mem _ hz)) h with h1 | h1
    . unfold clF at h1
      by_cases hf:x.2= .free
      . obtain⟨d,hd⟩:=hx x List.mem_cons_self hf
        rw [hf,hd]at h1
        change List.lookup y ((x.1,d)::init)=some c at h1
        rw [List.lookup_cons]at h1
        cases hy:y==x.1 with
        | true=>
          rw [hy]at h1
          have:y=x.1:=by simpa using hy
          subst this
          exact .inr (hd.trans h1)
        | false=>
          rw [hy]at h1
          exact .inl h1
      . have e0:(x.2==NameKind.free)=false:=by simpa using hf
        rw [e0]at h1
        exact .inl h1
    . exact .inr h1
theorem Jc {env:Env}:∀(names:List (Str × NameKind)) (init:List (Str × Addr)) (y:Str),((∃x∈names,x.2= .free/\x.1=y)\/∃c,init.lookup y=some c)->∃c,(names.foldl (clF env) init).lookup y=some c
  | [],_,_,h=>by
    rcases h with⟨_,h,_⟩ | h
    . cases h
    . exact h
  | x::r,init,y,h=>by
    rw [List.foldl_cons]
    apply Jc r
    rcases h with⟨z,hz,hf,rfl⟩ | ⟨c,hc⟩
    . rcases List.mem_cons.mp hz with rfl | hz
      . refine .inr ⟨(env.cells.lookup z.1).getD 0,?_⟩
        unfold clF
        rw [hf]
        show List.lookup z.1 ((z.1,_)::init)=_
        rw [List.lookup_cons]
        simp
      . exact .inl ⟨z,hz,hf,rfl⟩
    . refine .inr ?_
      unfold clF
      by_cases hf:x.2= .free
      . rw [hf]
        show ∃c,List.lookup y ((x.1,_)::init)=some c
        rw [List.lookup_cons]
        cases y==x.1 with
        | true=>exact⟨_,rfl⟩
        | false=>exact⟨c,hc⟩
      . have e0:(x.2==NameKind.free)=false:=by simpa using hf
        rw [e0]
        exact⟨c,hc⟩
theorem Ig {prog:Program}{w:World}{A:Around}{R:Result->Shared->Prop}{s:Shared}{elt target iter:Expr}{ifs:List Expr}{scope:Scope}{pos:Pos}{it acc:Value}{env:Env} (I:Nat->Shared->Prop)
    (turn:∀n s,I n s->wpAny (model prog w) A (pyNext it) (fun r s₁=>match r with
      | none=>R (.ok .next) s₁
      | some v=>wpAny (model prog w) A (letOwnedTupleGo target it v) (fun _ s₀=>wpAny (model prog w) A (assign target env v) (fun _ s₂=>
          wpAny (model prog w) A (forIn ifs true fun c r=>if r=true then do let ok<-isTrue c env (eval c env);pure (ForInStep.yield ok)else pure (ForInStep.yield r)) (fun ok s₃=>
            if ok=true then wpAny (model prog w) A (eval elt env) (fun x s₄=>
              wpAny (model prog w) A (call (.builtin "list.append") [acc,x]) (fun _ s₅=>∃m,m<n/\I m s₅) (fun _ _=>False) s₄) (fun _ _=>False) s₃
            else ∃m,m<n/\I m s₃) (fun _ _=>False) s₂) (fun _ _=>False) s₀) (fun _ _=>False) s₁) (fun _ _=>False) s)
    (n:Nat) (h:I n s):
    codeAny (model prog w) A (.compLoop (.ListComp elt [⟨target,iter,ifs,0⟩] scope pos) 0 it acc env) R s:=by
  have no:∀(x:Value) (s':Shared),False->notedBy (model prog w) A env (fun e s'=>R (.error e) s') x s':=fun _ _ z=>z.elim
  refine codeAny_loop rfl I (fun n s hI=> ?_) n h
  show wpAny _ A ((compTurn (.ListComp elt [⟨target,iter,ifs,0⟩] scope pos) 0 it acc env).onRaise (fun x=>do noteFrame x env;theTreesLotGoes x)) _ _ s
  refine wpAny_noted ?_
  rw [compTurn_list]
  refine wpAny_bind (wpAny_standAt (wpAny_bind (wpAny_mono (turn n s hI) (fun r s₁ h₁=> ?_) no)))
  cases r with
  | none=>exact wpAny_pure h₁
  | some v=>
    refine wpAny_bind (wpAny_mono h₁ (fun _ s₀ h₀=> ?_) no)
    refine wpAny_bind (wpAny_mono h₀ (fun _ s₂ h₂=>wpAny_bind (wpAny_mono h₂ (fun ok s₃ h₃=> ?_) no)) no)
    cases ok with
    | false=>exact wpAny_pure ⟨rfl,h₃⟩
    | true=>
      exact wpAny_bind (wpAny_bind (wpAny_mono h₃ (fun x s₄ h₄=>wpAny_bind (wpAny_mono h₄ (fun _ s₅ h₅=>wpAny_pure (wpAny_pure ⟨rfl,h₅⟩)) no)) no))
def cxC (X:Cx) (N:List Str) (scope:Scope) (ex:List Addr) (s:Shared) (H:Hp):Cx where
  prog:=X.prog
  w:=X.w
  K:=X.K
  mg:=X.mg
  base:=X.base
  A:=X.A
  N:=N
  s₀:=s
  H₀:=H
  env:=compEnvC scope (scope.names.foldl (clF X.env) []) s.heap.objs.size X.env
  outer:=X.stack
  stack:=X.stack
  ex:=ex
  fn:=fun _=>false
  calm:=X.calm
  pn:=[]
  xe:=fun _ _=>False
structure Ba (X:Cx) (ts:List Str) (fs:List (Nat × Str)) (scope:Scope):Prop where
  kind:scope.kind= .function
  cell:∀y∈scope.names,y.2≠ .cell
  names:∀y∈scope.names,y.2= .local ->scope.names.lookup y.1=some .local
  free:∀y∈scope.names,y.2= .free->X.env.kindOf y.1=some .cell\/X.env.kindOf y.1=some .free
  at':∀p∈fs,X.N[p.1]? =some p.2/\(p.2,NameKind.free)∈scope.names/\((relabel scope X.env).names.lookup p.2=some .cell\/(relabel scope X.env).names.lookup p.2=some .free)
def rlb (sc scope:Scope):List (Str × NameKind):=scope.names.map fun(n,k)=>if(k==NameKind.free&&sc.kind== .function&&sc.names.lookup n==some .cell)then(n,NameKind.cell)else(n,k)
def V6 (sc:Scope) (N:List Str) (fs:List (Nat × Str)) (scope:Scope):Bool:=
  (scope.kind== .function)&&(scope.names.all fun y=>y.2 != .cell)&&(scope.names.all fun y=>y.2 != .local ||scope.names.lookup y.1==some .local)&&
  (scope.names.all fun y=>y.2 != .free||(sc.names.lookup y.1==some .cell||sc.names.lookup y.1==some .free))&&
  fs.all fun p=>N[p.1]? ==some p.2&&(scope.names.contains (p.2,NameKind.free)&&((rlb sc scope).lookup p.2==some .cell||(rlb sc scope).lookup p.2==some .free))
theorem Ba.of {X:Cx}{ts:List Str}{fs:List (Nat × Str)}{scope sc:Scope}{N:List Str} (e1:X.env.scope=sc) (e2:X.N=N) (h:V6 sc N fs scope=true):Ba X ts fs scope:=by
  unfold V6 at h
  simp only [Bool.and_eq_true,List.all_eq_true,Bool.or_eq_true,bne_iff_ne,beq_iff_eq,List.contains_iff_mem]at h
  obtain⟨⟨⟨⟨h1,h2⟩,h3⟩,h4⟩,h5⟩:=h
  refine⟨h1,h2,fun y hy e=> ?_,fun y hy e=> ?_,fun p hp=> ?_⟩
  . rcases h3 y hy with z | z
    . exact absurd e z
    . exact z
  . rcases h4 y hy with z | z
    . exact absurd e z
    . show X.env.scope.names.lookup y.1=_\/X.env.scope.names.lookup y.1=_
      rw [e1]
      exact z
  . obtain⟨a,b,c⟩:=h5 p hp
    refine⟨by rw [e2];exact a,b,?_⟩
    subst e1
    exact c
def cpN (ts:List Str) (fs:List (Nat × Str)):List Str:=ts++fs.map (·.2)
def cpσ (n:Nat) (fs:List (Nat × Str)) (σ:St):St:=List.replicate n none++fs.map fun p=>(σ[p.1]?).join
theorem Cg {env:Env}{x:Str}{k':NameKind}:∀ {names:List (Str × NameKind)},(names.map fun(n,k)=>if(k==NameKind.free&&env.scope.kind== .function&&env.kindOf n==some .cell)then(n,NameKind.cell)else(n,k)).lookup x=some k'->
    ∃k,(x,k)∈names/\(k'=k\/(k= .free/\k'= .cell))
  | [],h=>by simp at h
  | (n,k)::r,h=>by
    rw [List.map_cons]at h
    dsimp only at h
    by_cases hc:(k==NameKind.free&&env.scope.kind== .function&&env.kindOf n==some .cell)=true
    . rw [if_pos hc,List.lookup_cons]at h
      cases hx:x==n with
      | true=>
        rw [hx]at h
        have e:x=n:=by simpa using hx
        subst e
        have hk:k= .free:=by
          rw [Bool.and_eq_true,Bool.and_eq_true]at hc
          simpa using hc.1.1
        exact⟨k,List.mem_cons_self,.inr ⟨hk,(Option.some.inj h).symm⟩⟩
      | false=>
        rw [hx]at h
        obtain⟨k2,h1,h2⟩:=Cg h
        exact⟨k2,List.mem_cons_of_mem _ h1,h2⟩
    . rw [if_neg hc,List.lookup_cons]at h
      cases hx:x==n with
      | true=>
        rw [hx]at h
        have e:x=n:=by simpa using hx
        subst e
        exact⟨k,List.mem_cons_self,.inl (Option.some.inj h).symm⟩
      | false=>
        rw [hx]at h
        obtain⟨k2,h1,h2⟩:=Cg h
        exact⟨k2,List.mem_cons_of_mem _ h1,h2⟩
def PTs (X:Cx) (ifs:List Expr) (t:TT):Prop:=
  ∀(pins:List (Addr × Obj)) (s:Shared) (σ:St) (H:Hp) (B:Bool->Hp->Prop),Inv X pins σ H s->t σ H B->
    wpAny (model X.prog X.w) X.A (forIn ifs true fun c r=>if r=true then do let ok<-isTrue c X.env (eval c X.env);pure (ForInStep.yield ok)else pure (ForInStep.yield r)) (TP X pins σ B) X.xe s
def Jb:TT:=fun _ H B=>B true H
theorem El {X:Cx}:PTs X [] Jb:=fun _ _ _ H _ I h=>wpAny_pure ⟨H,I,h⟩
theorem Jp {X:Cx}{c:Expr}{t:TT} (h:PT X c t):PTs X [c] t:=by
  intro pins s σ H B I hw
  rw [List.forIn_cons]
  simp only [if_true]
  refine wpAny_bind (wpAny_bind (thn (h pins s σ H B I hw) fun b s1 q=>wpAny_pure ?_))
  exact wpAny_pure q
def Kp (σ σ':St):Prop:=σ'.length=σ.length/\∀(i:Nat) v,σ[i]? =some (some v)->σ'[i]? =some (some v)
def cIn (J:It) (cσ:St) (g:TG) (tt:TT) (te:TE) (Q:VK) (H1:Hp) (p:Addr):Prop:=∃W:Nat->Nat->List V->Hp->Prop,(∃m,W 0 m [] (upd H1 p (.lst [])))/\∀i m acc H2,W i m acc H2->
  (J.stop i H2/\Q (.ref p) H2)\/(J.go i H2/\∀x H3,J.yld i H2 x H3->g x cσ H3 fun σ4 H4=>Kp cσ σ4/\tt σ4 H4 fun b H5=>
    if b=true then te σ4 H5 fun y H6=>H6 p=some (.lst acc)/\acc.length<sizeLine/\∃m',m'<m/\W (i+1) m' (acc++ [y]) (upd H6 p (.lst (acc++ [y])))else ∃m',m'<m/\W (i+1) m' acc H5)
def Oc (n:Nat) (fs:List (Nat × Str)) (wi:TI) (g:TG) (tt:TT) (te:TE):TE:=fun σ H Q=>wi σ H fun J H1=>∀p,H1 p=none->cIn J (cpσ n fs σ) g tt te Q H1 p
section
variable {X:Cx}{elt tg iter:Expr}{ifs:List Expr}{scope:Scope}{pos:Pos}{wi:TI}{g:TG}{tt:TT}{te:TE}{ts:List Str}{fs:List (Nat × Str)}
theorem Ba.clos (S:Ba X ts fs scope) (ok:X.Ok):∀x∈scope.names,x.2= .free->∃c,X.env.cells.lookup x.1=some c:=fun x hx hf=>ok.has x.1 (S.free x hx hf)
theorem Ba.sub (S:Ba X ts fs scope) (ok:X.Ok) {y:Str}{c:Addr} (h:(scope.names.foldl (clF X.env) []).lookup y=some c):X.env.cells.lookup y=some c:=by
  rcases Jr scope.names [] y c (S.clos ok) h with z | z
  . simp at z
  . exact z
theorem Kg {pins:List (Addr × Obj)}{σ:St}{H:Hp}{s3 s4:Shared}{ex:List Addr} (S:Ba X ts fs scope) (I:Inv X pins σ H s3)
    (hex:∀b∈ex,Jd X pins H b/\∃o,s3.heap.get? b=some o) (hos:s4.os=s3.os) (hg:s4.gens=s3.gens) (hk:∀b u,s3.heap.get? b=some u->s4.heap.get? b=some u)
    (hn:s4.heap.Ns s3.heap.objs.size fun _=>none):Inv (cxC X (cpN ts fs) scope ex s3 H) [] (cpσ ts.length fs σ) H s4:=by
  have ok:=I.ok
  have noC:∀b∈ex,b≠s3.heap.objs.size:=fun b hb=>by
    obtain⟨_,o,ho⟩:=hex b hb
    exact Nat.ne_of_lt (Heap.lt_size ho)
  refine⟨⟨ok.mod,S.kind,ok.glob,ok.blt,Nat.le_refl _,fun y z c h1 h2=>ok.inj y z c (S.sub ok h1) (S.sub ok h2),fun y hy=> ?_,fun y c h _=>absurd h (by intro z;cases z),ok.hd,ok.frames,.inl rfl,fun b hb=>⟨noC b hb,fun x c e=>(hex b hb).1.2.2.2.2.1 x c (S.sub ok e)⟩,
    I.bs,Nat.le_trans ok.bsz I.sz,fun b o e hb=> ?_,fun b hb=> ?_,I.stack,I.stkFree⟩,hos,by rw [hg];exact I.bare,Un.kept hk,⟨_,hn,fun i x v h1 h2 h3=> ?_⟩,fun y c e=> ?_,I.hok.fresh (Nat.le_refl _),fun y c e=>I.freeC y c (S.sub ok e),
    fun p hp=>absurd (show p∈([]:List (Addr × Obj))from hp) (by simp),I.hok.kept hk,?_⟩
  . have z:∃k',(k'=NameKind.cell\/k'= .free)/\(scope.names.map fun(n,k)=>if(k==NameKind.free&&X.env.scope.kind== .function&&X.env.kindOf n==some .cell)then(n,NameKind.cell)else(n,k)).lookup y=some k':=by
      rcases hy with hy | hy
      . exact⟨_,.inl rfl,hy⟩
      . exact⟨_,.inr rfl,hy⟩
    obtain⟨k',hk',hl⟩:=z
    obtain⟨k,hm,h2⟩:=Cg hl
    have hf:k= .free:=by
      rcases h2 with e | ⟨e,_⟩
      . subst e
        rcases hk' with e | e
        . exact absurd e (S.cell _ hm)
        . exact e
      . exact e
    exact Jc scope.names [] y (.inl ⟨_,hm,hf,rfl⟩)
  . rcases(hex b hb).1.2.2.2.1 with z | z
    . exact ok.noex b o e z
    . exact absurd (Nat.lt_of_lt_of_le (Heap.lt_size e) (Nat.le_trans ok.bsz z)) (Nat.lt_irrefl _)
  . intro hb2
    rcases List.mem_cons.mp (I.stkSub b hb2)with e | e
    . exact(hex b hb).1.2.1 e
    . exact(hex b hb).1.2.2.1 e
  . unfold cpσ at h2
    by_cases hi:i<ts.length
    . rw [List.getElem?_append_left (by simpa using hi),List.getElem?_replicate]at h2
      split at h2<;>cases h2
    . rw [List.getElem?_append_right (by simpa using hi),List.length_replicate]at h2
      have h1':(cpN ts fs)[i]? =some x:=h1
      unfold cpN at h1'
      rw [List.getElem?_append_right (by omega)]at h1'
      rw [List.getElem?_map]at h1' h2
      cases e:fs[i-ts.length]? with
      | none=>rw [e]at h1';cases h1'
      | some p=>
        rw [e]at h1' h2
        have ex':p.2=x:=Option.some.inj h1'
        have e2:(σ[p.1]?).join=some v:=Option.some.inj h2
        have e3:σ[p.1]? =some (some v):=by
          cases q:σ[p.1]? with
          | none=>rw [q]at e2;cases e2
          | some o=>rw [q]at e2;cases o with | none=>cases e2 | some v'=>cases e2;rfl
        obtain⟨a1,a2,a3⟩:=S.at' p (List.mem_of_getElem? e)
        obtain⟨m,_,hl⟩:=I.loc
        have kd:=S.free _ a2 rfl
        have vis:Vis X.env.scope p.2:=by
          rcases kd with z | z
          . exact .inr (.inl z)
          . exact .inr (.inr z)
        obtain⟨u,r,l⟩:=hl p.1 p.2 v a1 e3 vis
        refine⟨u,r,?_⟩
        rcases l with⟨z,_⟩ | ⟨_,c,hc,hcell⟩
        . rcases kd with q | q
          . rw [q]at z;cases z
          . rw [q]at z;cases z
        . obtain⟨c',hc'⟩:=Jc (env:=X.env) scope.names [] p.2 (.inl ⟨_,a2,rfl,rfl⟩)
          have ec:c'=c:=Option.some.inj ((S.sub ok hc').symm.trans hc)
          subst ec
          subst ex'
          refine .inr ⟨?_,c',hc',?_⟩
          . exact a3
          . obtain⟨o,ho,hd⟩:=hcell
            exact⟨o,hk _ _ ho,hd⟩
  . obtain⟨v,o,ho,hd⟩:=I.cell y c (S.sub ok e)
    exact⟨v,o,hk _ _ ho,hd⟩
  . unfold cpσ
    show _=(cpN ts fs).length
    unfold cpN
    simp
theorem Oa {pins:List (Addr × Obj)}{σ σ':St}{H H':Hp}{s3 s5:Shared}{h':Heap}{ex:List Addr} (S:Ba X ts fs scope) (I:Inv X pins σ H s3) (hex:∀b∈ex,Jd X pins H b)
    (J:Inv (cxC X (cpN ts fs) scope ex s3 H) [] σ' H' s5) (sb:Heap.SameBut s3.heap.objs.size s5.heap h'):Inv X pins σ H' { s5 with heap:=h'}:=by
  have nC:H' s3.heap.objs.size=none:=J.free
  have old:∀b o,b≠s3.heap.objs.size->s5.heap.get? b=some o->h'.get? b=some o:=fun b o hb e=>sb.extBut b o hb e
  have lt:∀b o,s3.heap.get? b=some o->b≠s3.heap.objs.size:=fun b o e=>Nat.ne_of_lt (Heap.lt_size e)
  have u:Un (frs X.stack) ex H H' s3.heap s5.heap:=J.base
  have u2:Un (frs X.stack) ex H H' s3.heap h':=
    ⟨fun b o e n hb hx=>old b o (lt b o e) (u.keep b o e n hb hx),fun b o e n hb hx=>by
      obtain⟨sl,q⟩:=u.slot b o e n hb hx
      exact⟨sl,old b _ (lt b o e) q⟩,u.free,fun b o e hx=>by
      obtain⟨o',q⟩:=u.there b o e hx
      exact⟨o',old b o' (lt b o e) q⟩,u.tups,u.frzs,u.tbls⟩
  have hok:HOk X.prog X.w H' h':=fun b o e=>by
    have nb:b≠s3.heap.objs.size:=fun z=>by rw [z,nC]at e;cases e
    refine(J.hok b o e).stay (fun c v hc q=>old c v ?_ q) (fun _ q=>q) fun _ _ q=>q
    rcases hc with z | z
    . rw [z];exact nb
    . intro z2;rw [z2,nC]at z;cases z
  exact I.call' (s':={ s5 with heap:=h'}) (ch:=ex) J.os u2 hok J.bare fun b hb=>⟨(hex b hb).2.2.2.1,(hex b hb).2.1,(hex b hb).2.2.2.2.1,(hex b hb).2.2.2.2.2⟩
theorem Inv.fade {pins:List (Addr × Obj)}{σ σ':St}{H:Hp}{s:Shared} (I:Inv X pins σ' H s) (k:Kp σ σ'):Inv X pins σ H s:=by
  refine⟨I.ok,I.os,I.bare,I.base,?_,I.cell,I.free,I.freeC,I.pin,I.hok,k.1.symm.trans I.len⟩
  obtain⟨m,hn,hl⟩:=I.loc
  exact⟨m,hn,fun i x v h1 h2 h3=>hl i x v h1 (k.2 i v h2) h3⟩
theorem Nq {pins:List (Addr × Obj)}{σ:St}{H3:Hp}{s3 s4:Shared}{Q:VK}{R:Result->Shared->Prop}{fp:List Addr}{it p:Addr}{tn:Nat->Heap->Prop}{J:It}{W:Nat->Nat->List V->Hp->Prop}{m0:Nat} (hc:X.calm=true) (S:Ba X ts fs scope)
    (hg:∀ex s H,PG (cxC X (cpN ts fs) scope ex s H) tg g) (ht:∀ex s H,PTs (cxC X (cpN ts fs) scope ex s H) ifs tt) (he:∀ex s H,PE (cxC X (cpN ts fs) scope ex s H) elt te)
    (I3:Inv X pins σ H3 s3) (T:Turn X.prog X.w X.K tg J fp it tn) (hex:∀b∈fp,Jd X pins H3 b) (lt:∀b∈fp,b<s3.heap.objs.size)
    (I4:Inv (cxC X (cpN ts fs) scope fp s3 H3) [] (cpσ ts.length fs σ) H3 s4) (st4:tn 0 s4.heap) (w0:W 0 m0 [] H3)
    (fin:∀H5 s6,Inv (cxC X (cpN ts fs) scope fp s3 H3) [] (cpσ ts.length fs σ) H5 s6->Q (.ref p) H5->R (.ok .next) s6)
    (turn:∀i m acc H2,W i m acc H2->(J.stop i H2/\Q (.ref p) H2)\/(J.go i H2/\∀x H3,J.yld i H2 x H3->g x (cpσ ts.length fs σ) H3 fun σ4 H4=>Kp (cpσ ts.length fs σ) σ4/\tt σ4 H4 fun b H5=>
      if b=true then te σ4 H5 fun y H6=>H6 p=some (.lst acc)/\acc.length<sizeLine/\∃m',m'<m/\W (i+1) m' (acc++ [y]) (upd H6 p (.lst (acc++ [y])))else ∃m',m'<m/\W (i+1) m' acc H5)):
    codeAny (model X.prog X.w) X.A (.compLoop (.ListComp elt [⟨tg,iter,ifs,0⟩] scope pos) 0 (.ref it) (.ref p) (cxC X (cpN ts fs) scope fp s3 H3).env) R s4:=by
  have stat:∀ {H':Hp},(∀b∈fp,H' b=none)->∀b∈fp,Jd (cxC X (cpN ts fs) scope fp s3 H3) [] H' b:=fun hn b hb=>
    ⟨hn b hb,Nat.ne_of_lt (lt b hb),fun z=>(List.mem_cons.mp (I3.stkSub b z)).elim (hex b hb).2.1 (hex b hb).2.2.1,.inl hb,fun x c e=>(hex b hb).2.2.2.2.1 x c (S.sub I3.ok e),fun q hq=>absurd (show q∈([]:List (Addr × Obj))from hq) (by simp)⟩
  refine Ig (fun n s'=>∃i acc H',Inv (cxC X (cpN ts fs) scope fp s3 H3) [] (cpσ ts.length fs σ) H' s'/\tn i s'.heap/\(∀b∈fp,H' b=none)/\W i n acc H') ?_ m0 ⟨0,[],H3,I4,st4,fun b hb=>(hex b hb).1,w0⟩
  rintro n s5 ⟨i,acc,H5,I5,st5,fr5,w5⟩
  rcases turn i n acc H5 w5 with⟨stop,q⟩ | ⟨go,step⟩
  . refine thn (T.done (cxC X (cpN ts fs) scope fp s3 H3) rfl rfl rfl hc i [] s5 _ H5 _ I5 (stat fr5) st5 stop) fun r s6 ⟨hr,I6⟩=> ?_
    subst hr
    exact fin H5 s6 I6 q
  . refine thn (T.item (cxC X (cpN ts fs) scope fp s3 H3) rfl rfl rfl hc i [] s5 _ H5 _ I5 (stat fr5) st5 go) fun r s6 ⟨u,hr,h6⟩=> ?_
    subst hr
    refine thn h6 fun _ s7 ⟨x,H7,I7,r7,y7,st7,fr7⟩=> ?_
    have I7':=I7.pinned (stat fr7) (T.obj _ _ st7)
    refine thn (hg fp s3 H3 _ s7 _ H7 x u _ I7' r7 (step x H7 y7)) fun _ s8 ⟨σ8,H8,I8,kp,q8⟩=> ?_
    have again:∀ {H9:Hp}{s9:Shared}{acc':List V}{m':Nat},Inv (cxC X (cpN ts fs) scope fp s3 H3) ([]++Hi fp s7.heap) σ8 H9 s9->m'<n->W (i+1) m' acc' H9->
        ∃m,m<n/\∃i acc H',Inv (cxC X (cpN ts fs) scope fp s3 H3) [] (cpσ ts.length fs σ) H' s9/\tn i s9.heap/\(∀b∈fp,H' b=none)/\W i m acc H':=fun {H9 s9 acc' m'} I9 hm w9=>by
      refine⟨m',hm,i+1,acc',H9,(I9.fade kp).unpinned,T.keep _ _ _ st7 fun b hb o e=>(I9.pin (b,o) (List.mem_append_right _ (List.mem_append_right _ (Cm hb e)))).1,fun b hb=> ?_,w9⟩
      obtain⟨o,e,d⟩:=T.obj _ _ st7 b hb
      exact(I9.pin (b,o) (List.mem_append_right _ (List.mem_append_right _ (Cm hb e)))).2.1
    refine thn (ht fp s3 H3 _ s8 σ8 H8 _ I8 q8) fun ok s9 ⟨H9,I9,q9⟩=> ?_
    cases ok with
    | false=>
      rw [if_neg Bool.false_ne_true]at q9 ⊢
      obtain⟨m',hm,w9⟩:=q9
      exact again I9 hm w9
    | true=>
      rw [if_pos rfl]at q9 ⊢
      refine thn (he fp s3 H3 _ s9 σ8 H9 _ I9 q9) fun y s10 ⟨yv,H10,I10,r10,hp10,hlen,m',hm,w10⟩=> ?_
      exact thn (Dm _ s10 σ8 H10 (.ref p) [yv] (.ref p) [y] _ I10 rfl (.cons r10 .nil) ⟨p,acc,yv,rfl,rfl,hp10,hlen,w10⟩) fun _ s11 ⟨_,H11,I11,_,w11⟩=>again I11 hm w11
set_option maxHeartbeats 2000000 in
theorem Kc {pos':Pos}{pins:List (Addr × Obj)}{σ:St}{H:Hp}{s:Shared}{Q:VK}{QQ:Value->Shared->Prop}{use:Option (Value->Sem Unit)} (hc:X.calm=true) (S:Ba X ts fs scope) (hi:PI X tg iter wi) (hg:∀ex s H,PG (cxC X (cpN ts fs) scope ex s H) tg g) (ht:∀ex s H,PTs (cxC X (cpN ts fs) scope ex s H) ifs tt)
    (he:∀ex s H,PE (cxC X (cpN ts fs) scope ex s H) elt te) (hs:∀x,foldedSetIterable iter X.env x=pure x) (I:Inv X pins σ H s) (h:Oc ts.length fs wi g tt te σ H Q)
    (fin:∀(H3:Hp) (s3:Shared) (fp:List Addr) (p:Addr) (H5:Hp) (s6:Shared),Inv X pins σ H3 s3->(∀b∈fp,Jd X pins H3 b)->Inv (cxC X (cpN ts fs) scope fp s3 H3) [] (cpσ ts.length fs σ) H5 s6->Q (.ref p) H5->compPost (model X.prog X.w) X.A X.xe use QQ (.ref p) s3.heap.objs.size (.ok .next) s6):
    wpAny (model X.prog X.w) X.A (comprehension (.ListComp elt [⟨tg,iter,ifs,0⟩] scope pos) scope X.env pos' (newList []) false (eval iter X.env) use) QQ X.xe s:=by
  refine wpAny_comprehension_free (use:=use) rfl hs (J9 (S.clos I.ok)) S.kind S.names (thn (hi pins s σ H _ I h) fun v s1 h1=>thn h1 fun itv s2 h2=> ?_)
  obtain⟨it,fp,tn,J,H2,rfl,I2,T,st2,f2,hw⟩:=h2
  refine wpAny_newObj_type (wpAny_newFunctionEnv S.cell (by intro y hy;simp at hy) (fun h₁ hns₁ hsb₁=> ?_) S.kind)
  dsimp only at hns₁ hsb₁ ⊢
  have I3:=I2.lnew (its:=[]) (ys:=[]) (t':=s2.toks) .nil (Nat.zero_le _)
  have hD:H2 s2.heap.objs.size=none:=I2.fresh
  obtain⟨W,⟨m0,w0⟩,turn⟩:=hw _ hD
  have up:∀b o,s2.heap.get? b=some o->(s2.heap.push { cls:= .type "list",data:= .seq ([]:List Value).toArray}).get? b=some o:=fun b o e=>Heap.get?_push_of_some _ e
  have hex:∀b∈fp,Jd X pins (upd H2 s2.heap.objs.size (.lst [])) b/\∃o,(s2.heap.push { cls:= .type "list",data:= .seq ([]:List Value).toArray}).get? b=some o:=fun b hb=>by
    obtain⟨o,ho,_⟩:=T.obj _ _ st2 b hb
    have nb:b≠s2.heap.objs.size:=Nat.ne_of_lt (Heap.lt_size ho)
    exact⟨⟨by rw [Al nb];exact(f2 b hb).1,(f2 b hb).2⟩,o,up b o ho⟩
  have hk4:∀b u,(s2.heap.push { cls:= .type "list",data:= .seq ([]:List Value).toArray}).get? b=some u->h₁.get? b=some u:=fun b u e=>
    hsb₁.extBut b u (Nat.ne_of_lt (Heap.lt_size e)) (Heap.get?_push_of_some _ e)
  have I4:=Kg (s4:={ s2 with heap:=h₁,toks:=s2.toks}) S I3 hex rfl rfl hk4 hns₁
  have st4:tn 0 h₁:=T.keep _ _ _ st2 fun b _ o e=>hk4 b o (up b o e)
  have run:=Nq (elt:=elt) (iter:=iter) (pos:=pos) hc S hg ht he I3 T (fun b hb=>(hex b hb).1) (fun b hb=>Heap.lt_size (hex b hb).2.choose_spec) I4 st4 w0 (fun H5 s6 I6 q=>fin _ _ fp _ H5 s6 I3 (fun b hb=>(hex b hb).1) I6 q) turn
  exact codeAny_compStart_list run (T.self X.A 0 _ _ _ st4 run)
theorem Cy (hc:X.calm=true) (S:Ba X ts fs scope) (hi:PI X tg iter wi) (hg:∀ex s H,PG (cxC X (cpN ts fs) scope ex s H) tg g) (ht:∀ex s H,PTs (cxC X (cpN ts fs) scope ex s H) ifs tt)
    (he:∀ex s H,PE (cxC X (cpN ts fs) scope ex s H) elt te) (hs:∀x,foldedSetIterable iter X.env x=pure x:=by intro _;rfl):
    PE X (.ListComp elt [⟨tg,iter,ifs,0⟩] scope pos) (Oc ts.length fs wi g tt te):=by
  intro pins s σ H Q I h
  rw [eval_ListComp]
  refine Kc (use:=none) hc S hi hg ht he hs I h fun H3 s3 fp p H5 s6 I3 hex I6 q=> ?_
  obtain⟨m,hn,_⟩:=I6.loc
  exact⟨m,hn,fun h' sb=>⟨.ref p,H5,Oa S I3 hex I6 sb,rfl,q⟩⟩
end
section
variable {K:PySem.W.Frag}{H1:Hp}{p:Addr}{cσ:St}{g:TG}{te:TE}{Q:VK}{α:Type}{es:List α}{inj:α->V}
def Wk (J:It) (H1:Hp) (es:List α) (inj:α->V):Prop:=∀i H',Same H1 H'->(es[i]? =none->J.stop i H')/\∀e,es[i]? =some e->J.go i H'/\∀x H3,J.yld i H' x H3->H3=H'/\x=inj e
theorem Qw {a:Addr} (h:SqL K H1 a (es.map inj)):Wk (Itl K a) H1 es inj:=fun i H' s=>by
  have h':=s.seq h
  refine⟨fun e=>⟨_,h',?_⟩,fun e he=>⟨⟨_,inj e,h',by rw [List.getElem?_map,he];rfl⟩,fun x H3 ⟨e1,e2⟩=>⟨e1,?_⟩⟩⟩
  . rw [List.length_map]
    exact List.getElem?_eq_none_iff.mp e
  . have z:=e2 _ h'
    rw [List.getElem?_map,he]at z
    exact(Option.some.inj z).symm
theorem Kv {a:Addr} (h:SqT K H1 a (es.map inj)):Wk (Itt K a) H1 es inj:=fun i H' s=>by
  have h':=s.tup h
  refine⟨fun e=>⟨_,h',?_⟩,fun e he=>⟨⟨_,inj e,h',by rw [List.getElem?_map,he];rfl⟩,fun x H3 ⟨e1,e2⟩=>⟨e1,?_⟩⟩⟩
  . rw [List.length_map]
    exact List.getElem?_eq_none_iff.mp e
  . have z:=e2 _ h'
    rw [List.getElem?_map,he]at z
    exact(Option.some.inj z).symm
theorem Np {lo:Int}{n:Nat}:Wk (Itr lo n) H1 (List.range n) (fun i=> .int (lo+(i:Nat))):=fun i H' s=>by
  refine⟨fun e=> ?_,fun e he=> ?_⟩
  . have:=List.getElem?_eq_none_iff.mp e
    show n<=i
    simpa using this
  . obtain⟨h,z⟩:=List.getElem?_eq_some_iff.mp he
    have hi:i<n:=by simpa using h
    have z':i=e:=by simpa using z
    subst z'
    exact⟨hi,fun x H3 ⟨e1,e2⟩=>⟨e1,e2⟩⟩
theorem Je {J:It} (f:α->V) (hz:es.length<=sizeLine) (hp:H1 p=none) (hJ:Wk J H1 es inj)
    (step:∀e H' R,e∈es->Same H1 H'->(∀H6,Same H' H6->R (f e) H6)->g (inj e) cσ H' fun σ4 H4=>Kp cσ σ4/\te σ4 H4 R)
    (done:∀H',Same H1 H'->H' p=some (.lst (es.map f))->Q (.ref p) H'):cIn J cσ g Jb te Q H1 p:=by
  have su:∀ {H':Hp}{o:HO},Same H1 H'->Same H1 (upd H' p o):=fun {H' o} s b u e=>by
    rw [Al (Ai e hp)]
    exact s b u e
  refine⟨fun i m acc H'=>m=es.length-i/\i<=es.length/\acc=(es.take i).map f/\H' p=some (.lst acc)/\Same H1 H',⟨es.length,by simp,Nat.zero_le _,by simp,Ad,su (Same.refl _)⟩,?_⟩
  rintro i m acc H' ⟨rfl,hi,rfl,hH,s⟩
  cases he:es[i]? with
  | none=>
    have hl:=List.getElem?_eq_none_iff.mp he
    have e:i=es.length:=Nat.le_antisymm hi hl
    subst e
    rw [List.take_length]at hH
    exact .inl ⟨(hJ _ _ s).1 he,done _ s hH⟩
  | some e=>
    obtain⟨go,yl⟩:=(hJ _ _ s).2 e he
    refine .inr ⟨go,fun x H3 y=> ?_⟩
    obtain⟨rfl,rfl⟩:=yl x H3 y
    obtain⟨hlt,e'⟩:=List.getElem?_eq_some_iff.mp he
    have tk:es.take (i+1)=es.take i++ [e]:=by rw [List.take_succ,he];rfl
    have q:=step e H3 (fun y H6=>H6 p=some (.lst ((es.take i).map f))/\((es.take i).map f).length<sizeLine/\∃m',m'<es.length-i/\m'=es.length-(i+1)/\i+1<=es.length/\(es.take i).map f++ [y]=(es.take (i+1)).map f/\
        upd H6 p (.lst ((es.take i).map f++ [y])) p=some (.lst ((es.take i).map f++ [y]))/\Same H1 (upd H6 p (.lst ((es.take i).map f++ [y])))) (List.mem_of_getElem? he) s
      (fun H6 s6=>⟨s6 _ _ hH,by rw [List.length_map,List.length_take];omega,_,by omega,rfl,hlt,by rw [tk,List.map_append];rfl,Ad,su (s.trans s6)⟩)
    have eq:∀(R:VK) (B:Hp->Prop),(fun σ4 H4=>Kp cσ σ4/\Jb σ4 H4 fun b H5=>if b=true then te σ4 H5 R else B H5)=(fun σ4 H4=>Kp cσ σ4/\te σ4 H4 R):=fun R B=>by
      funext σ4 H4
      show(Kp cσ σ4/\if true=true then te σ4 H4 R else B H4)=_
      rw [if_pos rfl]
    rw [eq]
    exact q
end
section
variable {X:Cx}{K:PySem.W.Frag}{σ:St}{H:Hp}{Q:VK}{R:It->Hp->Prop}
theorem R5 {n:Nat}{fs:List (Nat × Str)}{wi:TI}{g:TG}{tt:TT}{te:TE}:Oc n fs wi g tt te σ H Q=wi σ H (fun J H1=>∀p,H1 p=none->cIn J (cpσ n fs σ) g tt te Q H1 p):=rfl
theorem Rz {ta:TA}:Q7 ta σ H R=ta σ H (fun vs H1=>∃j:Int,vs=[.int j]/\ -(2^62)<=j/\j<2^62/\R (Itr 0 j.toNat) H1):=rfl
theorem Qq {tl:TE}:Qk K tl σ H R=tl σ H (fun x H1=>∃a,x= .ref a/\(∃xs,SqL K H1 a xs)/\R (Itl K a) H1):=rfl
theorem S9 {tl:TE}:Vo K tl σ H R=tl σ H (fun x H1=>∃a,x= .ref a/\(∃xs,SqT K H1 a xs)/\R (Itt K a) H1):=rfl
theorem Ui {a:Addr}{p:Addr->Prop}:(∃b,V.ref a= .ref b/\p b)=p a:=propext ⟨fun⟨_,e,h⟩=>by cases e;exact h,fun h=>⟨a,rfl,h⟩⟩
theorem Uu {v:Option V}{r:St}:Kp (none::r) (v::r)=True:=by
  refine eq_true ⟨rfl,fun i u e=> ?_⟩
  cases i with
  | zero=>cases e
  | succ i=>exact e
theorem U0 {v v':Option V}{r:St}:Kp (none::none::r) (v::v'::r)=True:=by
  refine eq_true ⟨rfl,fun i u e=> ?_⟩
  cases i with
  | zero=>cases e
  | succ i=>
    cases i with
    | zero=>cases e
    | succ i=>exact e
theorem Tr {k:Bool}{p:Int->Prop}{q:Bool->Prop}:((∃i,[V.bl k]=[V.int i]/\p i)\/∃k',[V.bl k]=[V.bl k']/\q k')=q k:=
  propext ⟨fun h=>h.elim (fun⟨_,e,_⟩=>by cases e) fun⟨_,e,h⟩=>by cases e;exact h,fun h=> .inr ⟨k,rfl,h⟩⟩
end
end L2
namespace L2
open PySem PySem.Spec PyProof.Rows
def FI (J:It) (g:TG) (tb:TS) (D:Ends) (σ:St) (H:Hp):Prop:=∃W:Nat->Nat->St->Hp->Prop,(∃m,W 0 m σ H)/\∀i m σ H,W i m σ H->
  (J.stop i H/\D.nx σ H)\/(J.go i H/\∃N:St->Hp->Prop,(∀σ' H',N σ' H'->∃m',m'<m/\W (i+1) m' σ' H')/\∀x H',J.yld i H x H'->g x σ H' fun σ2 H2=>tb { D with nx:=N,ct:=N,bk:=D.nx} σ2 H2)
theorem Uz {wi:TI}{g:TG}{tb:TS}{D:Ends}{σ:St}{H:Hp}:Uk wi g tb D σ H=wi σ H (fun J H1=>FI J g tb D σ H1):=rfl
section
variable {K:PySem.W.Frag}{σ:St}{H:Hp}{g:TG}{tb:TS}{D:Ends}{α:Type}{es:List α}{inj:α->V}
def Ud (J:It) (H:Hp) (es:List α) (inj:α->V):Prop:=∀i,(es[i]? =none->J.stop i H)/\∀e,es[i]? =some e->J.go i H/\∀x H3,J.yld i H x H3->H3=H/\x=inj e
theorem Hv {a:Addr} (h:SqL K H a (es.map inj)):Ud (Itl K a) H es inj:=fun i=>Qw h i H (Same.refl _)
theorem Fo {lo:Int}{n:Nat}:Ud (Itr lo n) H (List.range n) (fun i=> .int (lo+(i:Nat))):=fun i=>Np i H (Same.refl _)
theorem Rf {J:It} (Pv:List α->St->Hp->Prop) (h0:Pv [] σ H) (hw:∀pre σ H,Pv pre σ H->Ud J H es inj)
    (hs:∀pre e post σ H,es=pre++e::post->Pv pre σ H->g (inj e) σ H fun σ2 H2=>tb { D with nx:=Pv (pre++ [e]),ct:=Pv (pre++ [e]),bk:=D.nx} σ2 H2) (hd:∀σ H,Pv es σ H->D.nx σ H):FI J g tb D σ H:=by
  refine⟨fun i m σ H=>m=es.length-i/\i<=es.length/\Pv (es.take i) σ H,⟨es.length,by simp,Nat.zero_le _,h0⟩,?_⟩
  rintro i m σ H ⟨rfl,hi,p⟩
  have w:=hw _ _ _ p i
  cases he:es[i]? with
  | none=>
    have e:i=es.length:=Nat.le_antisymm hi (List.getElem?_eq_none_iff.mp he)
    subst e
    rw [List.take_length]at p
    exact .inl ⟨w.1 he,hd _ _ p⟩
  | some e=>
    obtain⟨hlt,ee⟩:=List.getElem?_eq_some_iff.mp he
    have tk:es.take (i+1)=es.take i++ [e]:=by rw [List.take_succ,he];rfl
    have sp:es=es.take i++e::es.drop (i+1):=by
      rw [<-ee,<-List.drop_eq_getElem_cons hlt,List.take_append_drop]
    refine .inr ⟨(w.2 e he).1,Pv (es.take i++ [e]),fun σ' H' q=>⟨es.length-(i+1),by omega,rfl,hlt,by rw [tk];exact q⟩,fun x H' y=> ?_⟩
    obtain⟨rfl,rfl⟩:=(w.2 e he).2 x H' y
    exact hs _ e _ σ H' sp p
end
end L2
namespace L2
open PySem PySem.Spec PyProof.Rows
section
variable {K:PySem.W.Frag}{σ:St}{H:Hp}{Q:VK}
theorem Wn {r:V->Option Int->Option Int->Hp->VK->Prop}{te:TE}{tl th:TO}:tSl r te tl th σ H Q=te σ H (fun x H1=>tl σ H1 fun l H2=>th σ H2 fun u H3=>r x l u H3 Q):=rfl
theorem Ol {R:Option Int->Hp->Prop}:Jo σ H R=R none H:=rfl
theorem Sh {t:TE}{R:Option Int->Hp->Prop}:Qz t σ H R=t σ H (fun x H1=>∃i,x= .int i/\R (some i) H1):=rfl
theorem Wo {T:String}{r:V->List V->Hp->VK->Prop}{to:TE}{t:TA}:tBM K T r to t σ H Q=to σ H (fun x H1=>tyV K T x H1/\t σ H1 fun xs H2=>r x xs H2 Q):=rfl
end
section
variable {CX:CXT}{P:Program}{w:World}{K:PySem.W.Frag}{mg:Str->Option Value}{base:Heap}{N:List Str}{qual:Str}{scope:Scope}{f:Addr}{cd:Value}{A:Around}{outer:List Env}{s:Shared}{H H1 H2:Hp}{E:XK}{Q:VK}{a b:Addr}{ns ms:List Int}{g:Bool->Bool}
theorem Vp:(O2 CX P w K mg base N qual scope f cd A outer s H E).K=K:=rfl
theorem Tq:(O2 CX P w K mg base N qual scope f cd A outer s H E).nox.K=K:=rfl
theorem Ea (ns:List Int):SeqAt.shaped (.list (ns.map PyData.int))=true:=by
  simp [SeqAt.shaped,PyData.canLay0,PyData.depth,PySem.W.ke_canLayAll0,PySem.W.ke_depthAll]
theorem Ow (ha:SqL K H a (ns.map V.int)) (hb:SqL K H b (ms.map V.int)) (h:Q (.bl (g (decide (ns=ms)))) H):Vc K g (.ref a) (.ref b) H Q:=
  ⟨_,_,.lints ha,.lints hb,Ea _,Ea _,by rw [PyData.eqv,J3];exact h⟩
end
end L2
namespace L2
open PySem PySem.Spec PyProof.Rows
section
variable {c:TT}{tb:TS}{D:Ends}{σ:St}{H:Hp}
def WB (Pv:St->Hp->Prop) (μ:St->Hp->Nat) (tb:TS) (D:Ends) (n:Nat) (σ:St) (H:Hp):Prop:=
  ∃N:St->Hp->Prop,(∀σ' H',N σ' H'->∃m',m'<n/\(m'=μ σ' H'/\Pv σ' H'))/\tb { D with nx:=N,ct:=N,bk:=D.nx} σ H
theorem U7 {Pv:St->Hp->Prop}{μ:St->Hp->Nat}{n:Nat} (h:tb { D with nx:=fun σ' H'=>Pv σ' H'/\μ σ' H'<n,ct:=fun σ' H'=>Pv σ' H'/\μ σ' H'<n,bk:=D.nx} σ H):WB Pv μ tb D n σ H:=
  ⟨_,fun _ _ ⟨p,l⟩=>⟨_,l,rfl,p⟩,h⟩
theorem N8 (Pv:St->Hp->Prop) (μ:St->Hp->Nat) (h0:Pv σ H) (hs:∀σ H,Pv σ H->c σ H fun b H1=>if b=true then WB Pv μ tb D (μ σ H) σ H1 else D.nx σ H1):M4 c tb D σ H:=by
  refine⟨fun m σ H=>m=μ σ H/\Pv σ H,⟨_,rfl,h0⟩,?_⟩
  rintro m σ H ⟨rfl,p⟩
  exact hs σ H p
end
theorem Sg {a:Addr}{p:Addr->Prop}:(∃b,[V.ref a]=[.ref b]/\p b)=p a:=propext ⟨fun⟨_,e,h⟩=>by cases e;exact h,fun h=>⟨a,rfl,h⟩⟩
section
variable {K:PySem.W.Frag}{σ:St}{H:Hp}{Q:St->Hp->Prop}{R:VK}{p a b:Addr}{v w:V}{i j:Nat}{xs:List V}{ns ms:List Int}{f:Bool->Bool}
theorem Fb (h:SqT K H p [v,w]) (q:Q ((σ.set i (some v)).set j (some w)) H):Q6 K 2 (Gp (Eo i) (Gp (Eo j) Rx)) (.ref p) σ H Q:=⟨p,_,rfl,h,rfl,v,_,rfl,w,_,rfl,rfl,q⟩
end
end L2
namespace L2
open PySem PySem.Spec PyProof.Rows
section
variable {prog:Program}{w:World}{A:Around}{E:Value->Shared->Prop}{s:Shared}{j u:Addr}{i:Nat}{xs:Array Value}
theorem nextT {y:Value}{Q:Value->Shared->Prop} (hj:s.heap.IsTupleIter j u i) (hu:s.heap.IsTuple u xs) (hy:xs[i]? =some y)
    (k:∀g,g.IsTupleIter j u (i+1)->Heap.SameBut j s.heap g->Q y { s with heap:=g}):wpAny (model prog w) A (Builtin.SmallTypes.nextOf (.ref j)) Q E s:=by
  obtain⟨oj,ej,cj,dj⟩:=id hj
  obtain⟨ou,eu,_,nu,du⟩:=hu
  unfold Builtin.SmallTypes.nextOf
  refine wpAny_bind (wpAny_callSpecial?_slot (name:=Str.ofString "__next__") hj.typeIs F.slot_tuple_iterator_next (wpAny_call_entry F.slot_tuple_iterator_next hj.typeIs F.entry_tuple_iterator_next ?_ (F.args_tuple_iterator_next_1 _)))
  show wpAny _ _ (field (.ref j) 0>>=_) _ _ s
  refine wpAny_bind (wpAny_field ej dj (x:= .ref u) rfl ?_)
  show wpAny _ _ (if(Value.ref u==Value.none)=true then _ else _) _ _ s
  rw [if_neg (show ¬((Value.ref u==Value.none)=true)from Bool.false_ne_true)]
  show wpAny _ _ (field (.ref j) 1>>=_) _ _ s
  refine wpAny_bind (wpAny_field ej dj (x:= .int i 0) rfl ?_)
  show wpAny _ _ (seqItems? (.ref u)>>=_) _ _ s
  refine wpAny_bind (wpAny_seqItems eu du ?_)
  simp only [hy,Int.toNat_natCast]
  refine wpAny_bind (wpAny_setField ej dj (by simp) (wpAny_pure ⟨y,rfl,wpAny_pure (k _ ?_ (Heap.SameBut.update ..))⟩))
  exact⟨_,Heap.get?_update_self _ ej (Obj.isFreed_of_fields (Obj.data_mapFields dj _)),(Obj.cls_mapFields ..).trans cj,by rw [Obj.data_mapFields dj];simp [rawInt]⟩
theorem M5 {Q:Value->Shared->Prop} (hh:A.handled=none) (hj:s.heap.IsTupleIter j u i) (hu:s.heap.IsTuple u xs) (hy:xs[i]? =none)
    (k:∀g e,Heap.ExtBut j s.heap g->(∃o,g.get? e=some o/\o.cls= .type "StopIteration")->E (.ref e) { s with heap:=g}):wpAny (model prog w) A (Builtin.SmallTypes.nextOf (.ref j)) Q E s:=by
  obtain⟨oj,ej,cj,dj⟩:=id hj
  obtain⟨ou,eu,_,nu,du⟩:=hu
  unfold Builtin.SmallTypes.nextOf
  refine wpAny_bind (wpAny_callSpecial?_slot (name:=Str.ofString "__next__") hj.typeIs F.slot_tuple_iterator_next (wpAny_call_entry F.slot_tuple_iterator_next hj.typeIs F.entry_tuple_iterator_next ?_ (F.args_tuple_iterator_next_1 _)))
  show wpAny _ _ (field (.ref j) 0>>=_) _ _ s
  refine wpAny_bind (wpAny_field ej dj (x:= .ref u) rfl ?_)
  show wpAny _ _ (if(Value.ref u==Value.none)=true then _ else _) _ _ s
  rw [if_neg (show ¬((Value.ref u==Value.none)=true)from Bool.false_ne_true)]
  show wpAny _ _ (field (.ref j) 1>>=_) _ _ s
  refine wpAny_bind (wpAny_field ej dj (x:= .int i 0) rfl ?_)
  show wpAny _ _ (seqItems? (.ref u)>>=_) _ _ s
  refine wpAny_bind (wpAny_seqItems eu du ?_)
  simp only [hy,Int.toNat_natCast]
  refine wpAny_bind (wpAny_rule (wpAny_bind (wpAny_setField ej dj (by simp) ?_)))
  show wpAny _ A.in1 (newExc (.type "StopIteration") []>>=_) _ _ _
  refine wpAny_bind ?_
  simp only [newTuple,newExc]
  refine wpAny_bind (wpAny_newObj_type ?_ (by size_fits))
  refine wpAny_bind (m:=firstArgMember _ _) (wpAny_of_eq (a:=Value.none) (by first | rfl | (simp only [firstArgMember];rfl)) ?_)
  refine(wpAny_newObj_type ?_ (by size_fits))
  simp only [raiseNew]
  refine wpAny_bind (wpAny_handled ?_)
  first | rw [show A.in1.handled=none from hh] | (rw [hh])
  refine wpAny_bind (wpAny_pure (wpAny_throw ?_))
  exact k _ _ (((Heap.SameBut.update ..).extBut.push _).push _) ⟨_,Heap.get?_push_size _ rfl,rfl⟩
end
open AutoSeq1 (wpAny_loadPart')in
section
variable {X:Cx}{pins:List (Addr × Obj)}{σ:St}{H:Hp}{s:Shared}{h':Heap}
theorem Inv.turnL {t':Nat}{fp:List Addr} (I:Inv X pins σ H s) (k:∀b o,b∉fp->s.heap.get? b=some o->h'.get? b=some o) (hf:∀b∈fp,Jd X pins H b):Inv X pins σ H { s with heap:=h',toks:=t'}:=by
  have nf:∀b u,H b=some u->b∉fp:=fun b u e z=>by
    have:=(hf b z).1
    rw [this]at e
    cases e
  refine I.step (g':=s.gens) (d':=s.drawn) (ch:=fp) (fun b hb=>⟨(hf b hb).2.2.2.1,(hf b hb).2.1,(hf b hb).2.2.2.2.1,(hf b hb).2.2.2.2.2⟩) (fun b o _ _ hc e _=>k b o hc e) (fun b o _ _ hc e _=>⟨o.slots,k b o hc e⟩) (fun _ _ _ _ n=>n)
    (fun b o hc e=>⟨o,k b o hc e⟩) (fun _ _ e=>e) (fun _ _ _ e=>e) (fun b ps e=>⟨#[],by rw [e];simp⟩) (fun m hm=> ?_) (fun b u e=> ?_) I.bare
  . obtain⟨o,es,ep,ho,r⟩:=hm
    exact⟨o,es,ep,k _ o (fun z=>(hf _ z).2.1 rfl) ho,r⟩
  . refine(I.hok b u e).stay (fun c v hc q=>k c v ?_ q) (fun _ q=>q) fun _ _ q=>q
    rcases hc with z | z
    . rw [z]
      exact nf b u e
    . exact nf c _ z
end
end L2
namespace L2
open PySem PySem.Spec PyProof.Rows
section
variable {X:Cx}
def Uq (K:PySem.W.Frag):R2:=fun x y H Q=>∃a b xs ys,x= .ref a/\y= .ref b/\SqT K H a xs/\SqT K H b ys/\xs.length+ys.length<=sizeLine/\∀z H',Same H H'->SqT K H' z (xs++ys)->Q (.ref z) H'
theorem Ed:OpR X (binaryOp .Add) (Uq X.K):=by
  intro pins s σ H x y v u Q I rx ry h
  obtain⟨a,b,xs,ys,rfl,rfl,ha,hb,hz,q⟩:=h
  by_cases hx:xs=[]
  . subst hx
    cases rx
    cases ry
    obtain⟨its,r1,p1,_⟩:=I.tuple ha
    obtain⟨its2,r2,p2,_⟩:=I.tuple hb
    cases r1
    obtain⟨⟨c1,d1,t1,l1⟩,ho,hc,n,hd⟩:=(show s.heap.IsTuple a ([]:List Value).toArray from p1)
    obtain⟨⟨c2,d2,t2,l2⟩,ho2,hc2,n2,hd2⟩:=(show s.heap.IsTuple b its2.toArray from p2)
    simp only at hc hd hc2 hd2
    subst hc hd hc2 hd2
    exact concat_meets ⟨_,ho,rfl⟩ ⟨_,ho2,rfl⟩ noFill_tuple_add seq_tuple_add PySem.F.slot_tuple_add PySem.F.entry_tuple_add (PySem.F.args_tuple_add_2 _ _)
      (tuple_addW0 a b #[] its2.toArray n n2 d1 d2 l1 l2 rfl) ⟨ho,ho2,⟨.ref b,H,I,rfl,q b H (Same.refl _) hb⟩⟩
  . exact Qd pins s σ H _ _ v u Q I rx ry ⟨a,b,xs,ys,rfl,rfl,ha,hb,hx,hz,fun e=>q a H (Same.refl _) (by rw [e,List.append_nil];exact ha),fun _ p hp=>q p _ (Same.upd hp _) (.of Ad)⟩
theorem Gw (hc:X.calm=true):Dj X (.builtin "all") (fun xs H Q=>∃(a:Addr) (bs:List Bool),xs=[.ref a]/\SqL X.K H a (bs.map V.bl)/\Q (.bl (bs.all id)) H):=by
  intro pins s σ H xs us Q I r h
  obtain⟨a,bs,rfl,ha,q⟩:=h
  obtain⟨u,rfl,ru⟩:=vals1 r
  cases ru
  obtain⟨its,rv,p,hz⟩:=I.list ha
  have hl:s.heap.IsList a its.toArray:=p.isList
  have lt:a<s.heap.objs.size:=by
    obtain⟨_,e,_⟩:=hl
    exact Heap.lt_size e
  have ln:its.length=bs.length:=by
    have:=rv.length
    rw [List.length_map]at this
    exact this.symm
  refine call_all_walk (wpAny_pyIter_list hl ?_)
  refine⟨s.heap.objs.size,[s.heap.objs.size,a],[s.heap.objs.size],its.toArray.size,_,_,fun i=>(bs[i]?).getD true,rfl,Walks.list (A:=X.A.in1) (I.ok.hd hc) _ a (Nat.ne_of_lt lt) its.toArray,
    ⟨⟨_,Heap.get?_push_size _ rfl,rfl,rfl⟩,hl.push _⟩,fun i v s' Q' E' hP hQ=> ?_,fun g tk hk=> ?_⟩
  . have hv:its[i]? =some v:=by simpa using hP
    have hi:i<its.length:=(List.getElem?_eq_some_iff.mp hv).1
    have hb:bs[i]? =some bs[i]:=List.getElem?_eq_getElem (by omega)
    obtain⟨w',hw,rw'⟩:=rv.get (show(bs.map V.bl)[i]? =some (V.bl bs[i])by rw [List.getElem?_map,hb];rfl)
    rw [hv]at hw
    cases hw
    cases rw'
    simp only [hb,Option.getD_some]at hQ
    exact wpAny_truthy_bool hQ
  . have e:((List.range its.toArray.size).all fun i=>(bs[i]?).getD true)=bs.all id:=by
      rw [List.size_toArray,ln,Bool.eq_iff_iff,List.all_eq_true,List.all_eq_true]
      constructor
      . intro h x hx
        obtain⟨i,hi,ei⟩:=List.getElem_of_mem hx
        have:=h i (List.mem_range.mpr hi)
        rw [List.getElem?_eq_getElem hi,ei]at this
        exact this
      . intro h i hi
        have hi':=List.mem_range.mp hi
        rw [List.getElem?_eq_getElem hi']
        exact h _ (List.getElem_mem hi')
    rw [e]
    exact⟨.bl _,H,I.kept (t':=tk) fun b o q'=>hk b o (fun hm=>by rw [List.mem_singleton.mp hm]at q';exact Nat.lt_irrefl _ (Heap.lt_size q')) (Heap.get?_push_of_some _ q'),rfl,q⟩
end
open AutoSeq1 (wpAny_loadPart')in
open AutoSeq1 (wpAny_loadPart')in
open AutoSeq1 (wpAny_loadPart')in
section
variable {X:Cx}
theorem Lq (K:PySem.W.Frag) (h:X.K=K:=by rfl):IxR X (Vm K):=by subst h;exact Lk
end
section
variable {X:Cx}
theorem Ob:Dj X (.builtin "isinstance") (fun xs H Q=>∃(a:Addr) (ys:List V) (T:String) (b:Bool),xs=[.ref a,.ty T]/\SqT X.K H a ys/\PySem.W.kitOne X.K (.type "tuple") (.type T)=some b/\Q (.bl b) H):=by
  intro pins s σ H xs us Q I r h
  obtain⟨a,ys,T,b,rfl,ht,hk,q⟩:=h
  obtain⟨u,c,rfl,ru,rc⟩:=vals2 r
  cases rc
  cases ru
  obtain⟨its,rv,p,_⟩:=I.tuple ht
  obtain⟨o,h1,h2,_⟩:=(show s.heap.IsTuple a its.toArray from p)
  exact PySem.W.kia_one PySem.W.kitx_tuple I.kIn ⟨o,h1,h2⟩ hk (fun z=>nomatch z) fun tk=>⟨.bl b,H,I.tok tk,rfl,q⟩
end
section
variable {prog:Program}{w:World}{A:Around}{E:Value->Shared->Prop}{s:Shared}
theorem Le {t sl:Addr}{ys:Array Value}{vl vu:Value}{lo hi:Option Int}{Q:Value->Shared->Prop} (ht:IsTup s.heap t ys) (hs:s.heap.IsSliceOf sl vl vu .none) (pl:IsPart vl lo) (pu:IsPart vu hi)
    (w1:HT.sIx ys.size 0 lo=0) (w2:HT.sIx ys.size ys.size hi=ys.size) (h:Q (.ref t) s):wpAny (model prog w) A (getItem (.ref t) (.ref sl)) Q E s:=by
  obtain⟨os,eos,cs,ds⟩:=id hs
  have ty:s.TypeIs (.ref sl) "slice":=⟨os,eos,cs⟩
  unfold getItem
  try with_reducible refine(wpAny_holding ?_)
  first | refine(wpAny_bind (wpAny_pure ?_)) | skip
  refine wpAny_bind (wpAny_sequenceKey ht.typeIs (by decide) (?_))
  refine wpAny_bind (wpAny_callSpecial?_slot (name:=Str.ofString "__getitem__") ht.typeIs PyProof.Rows.slot_tuple_getitem (wpAny_call_entry PyProof.Rows.slot_tuple_getitem ht.typeIs entry_tuple_getitem ?_ (args_tuple_getitem _ _)))
  show wpAny _ A.in1 (Builtin.Tuple.tupleItemsOf (.ref t)>>=_) _ _ s
  refine wpAny_bind (tupleItemsOf_ ht (?_))
  refine wpAny_bind (wpAny_typeOf ty ?_)
  rw [if_pos (by decide)]
  refine wpAny_bind (HT.Bx hs pl pu ?_)
  have yes:(((HT.sIx ys.size 0 lo:Nat):Int)==0&&(1:Int)==1&&(HT.sIx ys.size ys.size hi-HT.sIx ys.size 0 lo)==ys.size)=true:=by
    rw [w1,w2]
    simp
  show wpAny _ A.in1 (if(((HT.sIx ys.size 0 lo:Nat):Int)==0&&(1:Int)==1&&(HT.sIx ys.size ys.size hi-HT.sIx ys.size 0 lo)==ys.size)=true then _ else _) _ _ s
  rw [if_pos yes]
  refine wpAny_bind ?_
  unfold Builtin.Tuple.tupleIsExact
  refine wpAny_bind (wpAny_typeOf ht.typeIs (wpAny_pure ?_))
  rw [if_pos (by decide)]
  exact wpAny_bind (wpAny_rule (wpAny_pure ⟨_,rfl,wpAny_pure h⟩))
end
section
variable {X:Cx}
def Wb (K:PySem.W.Frag):V->Option Int->Option Int->Hp->VK->Prop:=fun x lo hi H Q=>∃a xs,x= .ref a/\SqT K H a xs/\∀z H',Same H H'->SqT K H' z (Il xs lo hi)->Q (.ref z) H'
theorem Cv:SlR X (Wb X.K):=by
  intro pins s σ H x v vl vu lo hi sl Q I rx hs pl pu h
  obtain⟨a,xs,rfl,hx,q⟩:=h
  by_cases hw:HT.sIx xs.length 0 lo=0/\HT.sIx xs.length xs.length hi=xs.length
  . cases rx
    obtain⟨its,r,ht,hz⟩:=I.tuple hx
    have hlen:its.toArray.size=xs.length:=by rw [List.size_toArray];exact r.length.symm
    refine⟨"tuple",_,PyProof.Rows.slot_tuple_getitem.lookup,ht.typeIs,Le ht hs pl pu (by rw [hlen];exact hw.1) (by rw [hlen];exact hw.2) ⟨.ref a,H,I,rfl,q a H (Same.refl _) ?_⟩⟩
    have e:Il xs lo hi=xs:=by
      unfold Il
      rw [hw.1,hw.2,List.drop_zero,Nat.sub_zero,List.take_length]
    rw [e]
    exact hx
  . exact Tc pins s σ H _ v vl vu lo hi sl Q I rx hs pl pu ⟨a,xs,rfl,hx,hw,fun p hp=>q p _ (Same.upd hp _) (.of Ad)⟩
end
end L2
namespace L2
open PySem PySem.Spec PyProof.Rows
section
variable {X:Cx}{e st:Expr}{te tst:TE}{pos p2:Pos}
theorem Vals.rev {xs:List V}{us:List Value} (h:Vals xs us):Vals xs.reverse us.reverse:=by
  induction h with
  | nil=>exact .nil
  | cons r _ ih=>
    rw [List.reverse_cons,List.reverse_cons]
    exact ih.append (.cons r .nil)
end
end L2
namespace L2
open PySem PySem.Spec PyProof.Rows
set_option maxRecDepth 100000
open AutoSeq1 (wpAny_loadPart')in
theorem Dn {X:Cx}{es:List Expr}{k:Nat}{pos:Pos}{t:TGs} (K:PySem.W.Frag) (n:Nat) (hK:X.K=K) (hc:X.calm=true) (h:PGs X es t)
    (hn:(assignEach es X.env).length=n:=by rfl) (hst:(assignEach es X.env).findIdx? (·.1)=none:=by rfl):PG X (.Tuple es k pos) (Q6 K n t):=by
  subst hK
  exact Di hc h hn hst
end L2
namespace L2
open PySem PySem.Spec PyProof.Rows
set_option maxRecDepth 100000
theorem Bd.has {P:Program}{w:World}{H:Hp}{h:Heap}{a:Addr}{o:HO} (x:Bd P w H h a o):∃ob,h.get? a=some ob:=by
  cases o with
  | lst xs=>obtain⟨_,_,_,_,e⟩:=x;exact⟨_,e⟩
  | tup xs=>obtain⟨_,_,_,ob,e,_⟩:=x;exact⟨_,e⟩
  | dK kvs=>obtain⟨_,_,_,_,o,_,_,e,_⟩:=x;exact⟨_,e⟩
  | dT kvs=>obtain⟨_,_,_,_,o,_,_,e,_⟩:=x;exact⟨_,e⟩
  | set S n=>obtain⟨o,_,_,_,e,_⟩:=x;exact⟨_,e⟩
  | ins C dx fs=>obtain⟨_,_,_,e,_⟩:=x;exact⟨_,e⟩
  | own y=>exact x
  | xd fs=>obtain⟨_,⟨_,_,_,e,_⟩,_⟩:=x;exact⟨_,e⟩
  | rng lo hi=>obtain⟨_,_,_,e⟩:=x;exact⟨_,e⟩
  | frz ob u=>obtain⟨e,_⟩:=x;exact⟨_,e⟩
  | tbl ps=>exact⟨_,show h.get? a=some _ from x⟩
  | met f y=>exact⟨_,show h.get? a=some _ from x⟩
  | ext φ=>exact x.2.1
structure FX (P:Program) (w:World) (fr:List Addr) (H:Hp) (h0:Heap) (B:Heap) (H':Hp) (h:Heap):Prop where
  stay:B.StaysIn h
  k1:∀b o,h0.get? b=some o->b∉fr->∃o',B.get? b=some o'/\(H b=none->o'=o)
  k2:∀b u,H' b=some u->∃o,B.get? b=some o
  fr0:∀b∈fr,H b=none/\∃o,h0.get? b=some o/\∀vs,o.data≠ .fields vs
  un:Un fr [] H H' h0 h
  hok:HOk P w H' h
theorem FX.step {P:Program}{w:World}{fr:List Addr}{H H':Hp}{h0 B h h':Heap} (x:FX P w fr H h0 B H' h) (k:B.StaysIn h') (u:h.UpToSlots h'):FX P w fr H h0 B H' h':=by
  have slot:∀b o,h0.get? b=some o->H b=none->b∈fr->∃sl,h'.get? b=some { o with slots:=sl}:=fun b o e n hb=>by
    obtain⟨sl,e1⟩:=x.un.slot b o e n hb (by simp)
    obtain⟨_,o2,e2,hf⟩:=x.fr0 b hb
    rw [e]at e2;cases e2
    obtain⟨sl',e3⟩:=u b _ e1 hf
    exact⟨sl',e3⟩
  refine⟨k,x.k1,x.k2,x.fr0,⟨fun b o e n hb _=> ?_,fun b o e n hb _=>slot b o e n hb,x.un.free,fun b o e _=> ?_,x.un.tups,x.un.frzs,x.un.tbls⟩,fun b v e=>(x.hok b v e).stay (fun c z hc q=> ?_) (fun _ q=>q) fun _ _ q=>q⟩
  . obtain⟨o',e1,e2⟩:=x.k1 b o e hb
    rw [e2 n]at e1
    exact k b o e1
  . by_cases hb:b∈fr
    . obtain⟨sl,e1⟩:=slot b o e (x.fr0 b hb).1 hb
      exact⟨_,e1⟩
    . obtain⟨o',e1,_⟩:=x.k1 b o e hb
      exact⟨o',k b o' e1⟩
  . have t:∃o,B.get? c=some o:=by
      rcases hc with z | z
      . rw [z];exact x.k2 _ _ e
      . exact x.k2 _ _ z
    obtain⟨o,eo⟩:=t
    have:=x.stay c o eo
    rw [q]at this;cases this
    exact k c _ eo
section
variable {X:Cx}{pins:List (Addr × Obj)}{σ:St}{H H':Hp}{s s':Shared}{B:Heap}
theorem Inv.old (I:Inv X pins σ H s) {b:Addr}{o:Obj} (e:X.s₀.heap.get? b=some o) (hb:b∉X.fs):b∉frs X.stack:=fun z=>by
  rcases List.mem_cons.mp (I.stkSub b z)with q | q
  . exact absurd (Nat.lt_of_lt_of_le (Heap.lt_size e) I.ok.above) (by rw [q];exact Nat.lt_irrefl _)
  . exact hb q
theorem Inv.fr0 (I:Inv X pins σ H s):∀b∈X.fs,X.H₀ b=none/\∃o,X.s₀.heap.get? b=some o/\∀vs,o.data≠ .fields vs:=fun b hb=>by
  obtain⟨_,o,ho,hd⟩:=I.ok.funs.mem hb
  exact⟨I.ok.frf b hb,o,ho,hd⟩
theorem Inv.one (I:Inv X pins σ H s) (hex:X.ex=[]) {b:Addr}{o:Obj} (e:X.s₀.heap.get? b=some o) (hb:b∉X.fs):∃o',s.heap.get? b=some o'/\(X.H₀ b=none->o'=o/\H b=none):=by
  by_cases n:X.H₀ b=none
  . exact⟨o,I.base.keep b o e n hb (by rw [hex];simp),fun _=>⟨rfl,I.base.free b o e n (by rw [hex];simp)⟩⟩
  . obtain⟨o',e1⟩:=I.base.there b o e (by rw [hex];simp)
    exact⟨o',e1,fun z=>absurd z n⟩
end
def CXE (P:Program) (w:World):CXT:=fun outer H s E e s'=>∃(x C:Addr) (a0:Value) (B:Heap) (H':Hp),e= .ref x/\s'.os=s.os/\AllBare s'.gens/\Heap.FlyingW B outer x (.ref C) a0 s'.heap/\FX P w (frs outer) H s.heap B H' s'.heap/\E (.ref C) none H'
abbrev VE:List Value:=[.type "ValueError",.type "Exception",.type "BaseException",.type "object"]
def Vv (K:PySem.W.Frag) (C:Addr):Prop:=PySem.W.excIn K C VE "ValueError.__new__"=true
def Wc (h:Heap) (C:Addr):Prop:=∃bm N nm q bs hdct sn sub ab col dd k0 k1 k2 k3 k5 mN,h.get? C=some (excClassObj nm q C N bs bm hdct sn sub ab col dd k0 k1 k2 k3 k5 "ValueError.__new__")/\h.Ns N mN/\mN "__init__"=none/\OwnTail h VE bm
theorem Vv.obj {K:PySem.W.Frag}{C:Addr}{h:Heap} (q:Vv K C) (X:K.In h):Wc h C:=by
  unfold Vv PySem.W.excIn at q
  cases e:K.lookup C with
  | none=>rw [e]at q;cases q
  | some ob=>
    rw [e]at q
    have eX:=X _ _ e
    split at q
    . rename_i dd cd sl z
      cases z
      split at q
      . rename_i C1 bm a0 a1 a2 a3 n a5 hm hs
        rw [Bool.and_eq_true,Bool.and_eq_true,Bool.and_eq_true,Bool.and_eq_true,Bool.and_eq_true]at q
        obtain⟨⟨⟨⟨⟨z1,z2⟩,z3⟩,z4⟩,z5⟩,z6⟩:=q
        have y1:C1=C:=by simpa using z1
        have y2:n="ValueError.__new__":=by simpa using z2
        have y3:cd.hasDel=false:=by simpa using z3
        have y6:PySem.W.nsIn K cd.ns "__init__"=some none:=by simpa using z6
        obtain⟨c1,c2,c3,c4,c5,c6,c7,c8,c9,c10,c11⟩:=cd
        have hl:sl= #[a0,a1,a2,a3,some (.builtin n),a5]:=by
          cases sl
          exact congrArg Array.mk hs
        dsimp only at hm y3 y6 z5
        rw [hl,hm,y1,y2,y3]at eX
        exact⟨bm,c4,c1,c5,c2,c6,c7,c8,c9,c10,dd,a0,a1,a2,a3,a5,_,eX,Heap.Ns.of_isNs (PySem.W.isNs_of_in X z5),PySem.W.nsMap_none_of_in X z5 y6,PySem.W.tail_of_in X z4⟩
      . cases q
    . cases q
theorem PS.nox {X:Cx}{st:Stmt}{t:TS} (h:PS X.nox st t):PS X st t:=fun pins s σ H D I hw=>
  wpAny_mono (h pins s σ H D (I.wish _) hw) (fun _ _ q=>q.unwish) fun _ _ z=>False.elim z
def V2 (P:Program) (w:World) (K:PySem.W.Frag) (mg:Str->Option Value) (base:Heap) (k:Nat) (x:Str) (ps:List Str) (sp:Sp):Prop:=
  ∃f fd,Hf P w K mg base (CXE P w) k f fd ps sp/\mg x=some (.ref f)/\PySem.W.keepIn K (.ref f)=true/\Binds K fd ps []
theorem V2.calm {P:Program}{w:World}{K:PySem.W.Frag}{mg:Str->Option Value}{base:Heap}{k:Nat}{x:Str}{ps:List Str}{sp sp':Sp}
    (C:V2 P w K mg base k x ps sp) (h:∀vs H Q E,sp' vs H Q E->sp vs H Q E0):Cal P w K mg base k x ps sp':=by
  obtain⟨f,fd,G,a,b,c⟩:=C
  refine⟨f,fd,⟨fun vs H Q E z=>G.len vs H Q E0 (h _ _ _ _ z),fun A outer s H args us vs Q E hr he hb hv hs=> ?_⟩,a,b,c⟩
  refine codeAny_mono (G.run A outer s H args us vs Q E0 hr he hb hv (h _ _ _ _ hs)) fun r s' q=> ?_
  cases r with
  | ok fl=>cases fl<;>exact q
  | error e=>
    obtain⟨_,_,_,_,_,_,_,_,_,_,z⟩:=q
    exact z.elim
end L2
namespace L2
open PySem PySem.Spec PyProof.Rows
set_option maxRecDepth 100000
end L2
namespace L2
open PySem PySem.Spec PyProof.Rows
set_option maxRecDepth 100000
structure V3 (K:PySem.W.Frag) (C:Addr):Prop where
  ga:PySem.W.findIn K (.ref C) "__getattribute__"=some (some (.builtin "BaseException.__getattribute__"))
  gn:PySem.W.findIn K (.ref C) "__getattr__"=some none
  cl:PySem.W.findIn K (.ref C) "__class__"=some (some (.builtin "object.__class__"))
  ob:PySem.W.mroIn K C (.type "object")=some true
  be:PySem.W.mroIn K C (.type "BaseException")=some true
theorem V3.is {K:PySem.W.Frag}{C:Addr} (Z:V3 K C):(PySem.W.clsIn K C).isSome=true:=by
  obtain⟨cd,a,_⟩:=Option.bind_eq_some_iff.mp Z.ob
  rw [a];rfl
theorem nw {H H':Hp}{p:Addr}{o:HO} (hp:H p=none) (e:upd H p o=H'):Same H H'/\H' p=some o:=by
  subst e
  exact⟨Same.upd hp _,Ad⟩
end L2
namespace L2
open PySem PySem.Spec PyProof.Rows
def Bm:Expr->Bool
  | .Starred _ _=>false
  | _=>true
theorem Dh {e:Expr}{es:List Expr}{env:Env} (h:Bm e=true):starEach (e::es) env=(false,eval e env)::starEach es env:=by
  cases e<;>first | rfl | cases h
theorem Ec {env:Env}{pos:Pos}:∀ {es:List Expr},es.all Bm=true->(backTo pos (starEach es env)).any (·.1)=false
  | [],_=>rfl
  | e::es,h=>by
    rw [List.all_cons,Bool.and_eq_true]at h
    rw [Dh h.1]
    have ih:=Ec (env:=env) (pos:=pos) h.2
    unfold backTo at ih ⊢
    rw [List.map_cons,List.any_cons,ih]
    rfl
section
variable {X:Cx}{e:Expr}{es:List Expr}{te:TE}{t:TA}{x:Str}{p pos:Pos}{id T:String}{r:List V->Hp->VK->Prop}{k:Nat}{ps:List Str}{sp:Sp}
theorem Aa (ha:PE X e te) (hr:PA X es t) (h:Bm e=true:=by rfl):PA X (e::es) (Oj te t):=Qm ha hr (Dh h)
theorem Bo (hc:Dj X (.builtin id) r) (hg:Gl X x) (hm:X.mg x=none) (hv:bootBuiltins x=some (.builtin id)) (ha:PA X (e::es) t) (h1:Bm e=true:=by rfl) (h2:es.all Bm=true:=by rfl) (hn:x≠"__name__":=by decide) (hdb:(x==("__debug__":Str))=false:=by decide):
    PE X (.Call (.Name x p) (e::es) [] pos) (tCB r t):=Oe hc hg hm hv ha hn hdb (Dh h1) (Ec h2)
theorem Dy (hc:Dj X (.type T) r) (hg:Gl X x) (hm:X.mg x=none) (hv:bootBuiltins x=some (.type T)) (ha:PA X (e::es) t) (h1:Bm e=true:=by rfl) (h2:es.all Bm=true:=by rfl) (hn:x≠"__name__":=by decide) (hdb:(x==("__debug__":Str))=false:=by decide):
    PE X (.Call (.Name x p) (e::es) [] pos) (tCB r t):=Lx hc hg hm hv ha hn hdb (Dh h1) (Ec h2)
theorem Bc (C:Cal X.prog X.w X.K X.mg X.base k x ps sp) (hr:Ew k X.A) (ha:PA X (e::es) t) (h1:Bm e=true:=by rfl) (h2:es.all Bm=true:=by rfl) (hg:Gl X x:=by rfl) (hdb:(x==("__debug__":Str))=false:=by decide):
    PE X (.Call (.Name x p) (e::es) [] pos) (Lp sp [] E0 t):=Nt C hr ha hg hdb (Dh h1) (Ec h2)
end
end L2
namespace L2
open PySem PySem.Spec PyProof.Rows
section
variable {X:Cx}{tg:Expr}
theorem Uo {i j:Int}{G:Int->Int->Prop}:(∃i' j':Int,[V.int i,.int j,.int (-1)]=[.int i',.int j',.int (-1)]/\G i' j')=G i j:=propext ⟨fun⟨_,_,e,h⟩=>by cases e;exact h,fun h=>⟨i,j,rfl,h⟩⟩
end
end L2
namespace L2
open PySem PySem.Spec PyProof.Rows
theorem Vz {σ:St}{H:Hp}{g:TG}{tb:TS}{D:Ends}{J:It} (n:Nat) (inj:Nat->V) (Pv:Nat->St->Hp->Prop) (h0:Pv 0 σ H) (hw:∀i σ H,Pv i σ H->Ud J H (List.range n) inj)
    (hs:∀i σ H,i<n->Pv i σ H->g (inj i) σ H fun σ2 H2=>tb { D with nx:=Pv (i+1),ct:=Pv (i+1),bk:=D.nx} σ2 H2) (hd:∀σ H,Pv n σ H->D.nx σ H):FI J g tb D σ H:=by
  refine Rf (es:=List.range n) (inj:=inj) (fun pre=>Pv pre.length) h0 (fun pre σ H p=>hw pre.length σ H p) (fun pre e post σ H he p=> ?_) (fun σ H p=>hd σ H (by rw [List.length_range]at p;exact p))
  have hl:=congrArg List.length he
  rw [List.length_range,List.length_append,List.length_cons]at hl
  have ee:e=pre.length:=by
    have:=congrArg (fun l=>l[pre.length]?) he
    simp only [List.getElem?_append_right (Nat.le_refl _),Nat.sub_self,List.getElem?_cons_zero]at this
    rw [List.getElem?_range (by omega)]at this
    exact(Option.some.inj this).symm
  subst ee
  have:=hs pre.length σ H (by omega) p
  rw [List.length_append,List.length_singleton]
  exact this
theorem Same.put {H H':Hp}{p:Addr}{o:HO} (s:Same H H') (hp:H p=none):Same H (L2.upd H' p o):=fun b u e=>by
  rw [Al (Ai e hp)]
  exact s b u e
end L2
namespace L2
theorem Bl {t u:TS}{D:Ends}{σ:St}{H:Hp} (P:St->Hp->Prop) (h1:∀N:St->Hp->Prop,(∀σ' H',P σ' H'->N σ' H')->t { D with nx:=N} σ H) (h2:∀σ' H',P σ' H'->u D σ' H'):Ug t u D σ H:=h1 (u D) h2
end L2
namespace L2
open PySem PySem.SeqAt PySem.Spec PyProof.Rows
section
variable {X:Cx}
theorem Pg:OpR X (compareOp .Is) (fun x y H Q=>∃a b:Bool,x= .bl a/\y= .bl b/\Q (.bl (a==b)) H):=by
  intro pins s σ H x y v u Q I rx ry h
  obtain⟨a,b,rfl,rfl,q⟩:=h
  cases rx
  cases ry
  exact is_bool ⟨.bl _,H,I,rfl,q⟩
theorem Mv:OpR X (compareOp .IsNot) (fun x y H Q=>∃a b:Bool,x= .bl a/\y= .bl b/\Q (.bl (a != b)) H):=by
  intro pins s σ H x y v u Q I rx ry h
  obtain⟨a,b,rfl,rfl,q⟩:=h
  cases rx
  cases ry
  exact isnot_bool ⟨.bl _,H,I,rfl,q⟩
open Classical in
end
end L2
namespace L2
open PySem PySem.Spec PyProof.Rows
def It1 (t:Bool) (h:Heap) (j u:Addr) (k:Nat):Prop:=if t=true then h.IsTupleIter j u k else h.IsListIter j u k
def Sq1 (t:Bool) (h:Heap) (u:Addr) (xs:Array Value):Prop:=if t=true then h.IsTuple u xs else h.IsList u xs
theorem It1.ext {t:Bool}{h g:Heap}{j u b:Addr}{k:Nat} (x:It1 t h j u k) (e:Heap.ExtBut b h g) (n:j≠b):It1 t g j u k:=by
  cases t
  . exact Heap.IsListIter.extBut x e n
  . exact Heap.IsTupleIter.extBut x e n
theorem It1.to {t:Bool}{h g:Heap}{j u:Addr}{k:Nat} (x:It1 t h j u k) (e:∀o,h.get? j=some o->g.get? j=some o):It1 t g j u k:=by
  cases t
  . exact Heap.IsListIter.at x e
  . exact Heap.IsTupleIter.at x e
theorem Sq1.ext {t:Bool}{h g:Heap}{u b:Addr}{xs:Array Value} (x:Sq1 t h u xs) (e:Heap.ExtBut b h g) (n:u≠b):Sq1 t g u xs:=by
  cases t
  . exact Heap.IsList.extBut x e n
  . exact Heap.IsTuple.extBut x e n
theorem It1.there {t:Bool}{h:Heap}{j u:Addr}{k:Nat} (x:It1 t h j u k):∃o,h.get? j=some o/\∀v,o.data≠ .cell v:=by
  cases t
  . obtain⟨o,e,_,d⟩:=(show h.IsListIter j u k from x)
    exact⟨o,e,fun v z=>by rw [d]at z;cases z⟩
  . obtain⟨o,e,_,d⟩:=(show h.IsTupleIter j u k from x)
    exact⟨o,e,fun v z=>by rw [d]at z;cases z⟩
section
variable {prog:Program}{w:World}{A:Around}{E:Value->Shared->Prop}{s:Shared}
theorem Qj {t:Bool}{j u:Addr}{k:Nat}{xs:Array Value}{y:Value}{Q:Value->Shared->Prop} (hj:It1 t s.heap j u k) (hu:Sq1 t s.heap u xs) (hy:xs[k]? =some y)
    (c:∀g,It1 t g j u (k+1)->Heap.SameBut j s.heap g->Q y { s with heap:=g}):wpAny (model prog w) A (Builtin.SmallTypes.nextOf (.ref j)) Q E s:=by
  cases t
  . exact wpAny_nextOf_list_item hj hu hy c
  . exact nextT hj hu hy c
theorem Ib {t:Bool}{j u:Addr}{k:Nat}{xs:Array Value}{Q:Value->Shared->Prop} (hh:A.handled=none) (hj:It1 t s.heap j u k) (hu:Sq1 t s.heap u xs) (hy:xs[k]? =none)
    (c:∀g e,Heap.ExtBut j s.heap g->(∃o,g.get? e=some o/\o.cls= .type "StopIteration")->E (.ref e) { s with heap:=g}):wpAny (model prog w) A (Builtin.SmallTypes.nextOf (.ref j)) Q E s:=by
  cases t
  . exact wpAny_nextOf_list_end hh hj hu hy c
  . exact M5 hh hj hu hy c
theorem Mx {t1 t2:Bool}{zz TI TO i1 i2 u1 u2:Addr}{k1 k2:Nat}{xs ys:Array Value}{x y p q:Value}{Q:Value->Shared->Prop} (D:ZipApart zz TI TO i1 i2 u1 u2)
    (hz:IsZip s.heap zz TI TO .none) (hTI:IsPair s.heap TI (.ref i1) (.ref i2)) (hTO:IsPair s.heap TO p q) (j1:It1 t1 s.heap i1 u1 k1) (j2:It1 t2 s.heap i2 u2 k2) (a1:Sq1 t1 s.heap u1 xs) (a2:Sq1 t2 s.heap u2 ys) (hx:xs[k1]? =some x) (hy:ys[k2]? =some y)
    (c:∀g,IsZip g zz TI TO (rawInt s.heap.objs.size)->IsPair g TO x y->It1 t1 g i1 u1 (k1+1)->It1 t2 g i2 u2 (k2+1)->IsPair g s.heap.objs.size x y->g.objs.size=s.heap.objs.size+1->
      (∀b o,b≠zz->b≠TO->b≠i1->b≠i2->s.heap.get? b=some o->g.get? b=some o)->Q (.ref s.heap.objs.size) { s with heap:=g}):
    wpAny (model prog w) A (Builtin.«zip.__next__» ⟨[.ref zz],[]⟩) (fun fin s'=>∃v,fin= .done (.ret v)/\Q v s') E s:=by
  show wpAny _ _ (field (.ref zz) 2>>=_) _ _ s
  refine wpAny_bind (wpAny_field hz rfl (x:= .bool false) rfl ?z1)
  case z1=>
  show wpAny _ _ (field (.ref zz) 3>>=_) _ _ s
  refine wpAny_bind (wpAny_field hz rfl (x:= .ref TI) rfl (wpAny_bind (wpAny_seqItems hTI rfl ?z2)))
  case z2=>
  show wpAny _ _ (Builtin.SmallTypes.ownedTupleIsFree (.ref zz)>>=_) _ _ s
  refine wpAny_bind (m:=Builtin.SmallTypes.ownedTupleIsFree (.ref zz)) ?z3
  case z3=>
  unfold Builtin.SmallTypes.ownedTupleIsFree;refine wpAny_bind (wpAny_field hz rfl (x:= .none) rfl (wpAny_pure ?z4))
  case z4=>
  simp only [if_true];refine wpAny_bind (wpAny_rule (wpAny_bind (wpAny_field hz rfl (x:= .ref TO) rfl (wpAny_bind (wpAny_setField_rec hz (by simp) fun g1 (z1:IsZip g1 zz TI TO .ellipsis) b1=> ?z5)))))
  case z5=>
  refine wpAny_bind ?z6
  case z6=>
  simp only [List.forIn_cons,List.forIn_nil,List.zipIdx_cons,List.zipIdx_nil]
  refine wpAny_bind (wpAny_bind (wpAny_onRaise ?z7))
  case z7=>
  show wpAny _ _ (Builtin.SmallTypes.nextOf (.ref i1)>>=_) _ _ { s with heap:=g1}
  refine wpAny_bind (Qj (j1.ext b1.extBut D.i1z) (a1.ext b1.extBut D.l1z) hx fun g2 n1 b2=>wpAny_pure ?z8)
  case z8=>
  have o2:IsPair g2 TO p q:=b2.extBut _ _ D.TOi1 (b1.extBut _ _ D.TOz hTO)
  refine wpAny_bind (wpAny_seqItems o2 rfl (wpAny_bind (wpAny_updateSeq_pair o2 fun g3 (o3:IsPair g3 TO x q) b3=>wpAny_bind (wpAny_letGo (wpAny_pure (wpAny_bind (wpAny_bind (wpAny_onRaise ?z9))))))))
  case z9=>
  show wpAny _ _ (Builtin.SmallTypes.nextOf (.ref i2)>>=_) _ _ { s with heap:=g3}
  refine wpAny_bind (Qj (((j2.ext b1.extBut D.i2z).ext b2.extBut D.i12.symm).ext b3.extBut D.TOi2.symm) (((a2.ext b1.extBut D.l2z).ext b2.extBut D.l2i1).ext b3.extBut D.l2TO) hy fun g4 n2 b4=>wpAny_pure ?z10)
  case z10=>
  have o4:IsPair g4 TO x q:=b4.extBut _ _ D.TOi2 o3
  refine wpAny_bind (wpAny_seqItems o4 rfl (wpAny_bind (wpAny_updateSeq_pair o4 fun g5 (o5:IsPair g5 TO x y) b5=>wpAny_bind (wpAny_letGo (wpAny_pure (wpAny_pure (wpAny_bind (wpAny_seqItems o5 rfl (wpAny_bind (wpAny_newTuple ?z11))))))))))
  case z11=>
  have sz:g5.objs.size=s.heap.objs.size:=by rw [b5.1,b4.1,b3.1,b2.1,b1.1]
  have z5:IsZip g5 zz TI TO .ellipsis:=b5.extBut _ _ D.TOz.symm (b4.extBut _ _ D.i2z.symm (b3.extBut _ _ D.TOz.symm (b2.extBut _ _ D.i1z.symm z1)))
  have k5:∀b o,b≠zz->b≠TO->b≠i1->b≠i2->s.heap.get? b=some o->g5.get? b=some o:=fun b o c1 c2 c3 c4 e=>b5.extBut _ _ c2 (b4.extBut _ _ c4 (b3.extBut _ _ c2 (b2.extBut _ _ c3 (b1.extBut _ _ c1 e))))
  have m1:It1 t1 g5 i1 u1 (k1+1):=((n1.ext b3.extBut D.TOi1.symm).ext b4.extBut D.i12).ext b5.extBut D.TOi1.symm
  have m2:It1 t2 g5 i2 u2 (k2+1):=n2.ext b5.extBut D.TOi2.symm
  have zlt:zz<g5.objs.size:=Heap.lt_size z5
  show wpAny _ _ (Builtin.SmallTypes.ownedTupleHandOut (.ref zz) (.ref g5.objs.size)>>=_) _ _ _
  refine wpAny_bind (m:=Builtin.SmallTypes.ownedTupleHandOut (.ref zz) (.ref g5.objs.size)) ?z12
  case z12=>
  unfold Builtin.SmallTypes.ownedTupleHandOut
  have z6:IsZip (g5.push { cls:= .type "tuple",data:= .seq #[x,y]}) zz TI TO .ellipsis:=Heap.get?_push_of_some _ z5
  refine wpAny_bind (wpAny_setField_rec z6 (by simp) fun g7 (z7:IsZip g7 zz TI TO (rawInt g5.objs.size)) b7=>wpAny_setField_rec z7 (by simp) fun g8 (z8:IsZip g8 zz TI TO (rawInt g5.objs.size)) b8=> ?z13)
  case z13=>
  have up:∀b o,b≠zz->g5.get? b=some o->g8.get? b=some o:=fun b o c1 e=>b8.extBut _ _ c1 (b7.extBut _ _ c1 (Heap.get?_push_of_some _ e))
  have t8:IsPair g8 g5.objs.size x y:=b8.extBut _ _ (Nat.ne_of_gt zlt) (b7.extBut _ _ (Nat.ne_of_gt zlt) (Heap.get?_push_size _ rfl))
  have w8:g8.objs.size=g5.objs.size+1:=by rw [b8.1,b7.1,Heap.size_push]
  rw [sz]at z8 t8 w8
  refine wpAny_pure ⟨_,rfl,?z14⟩
  case z14=>
  show Q (.ref g5.objs.size) _
  rw [sz]
  exact c g8 z8 (up _ _ D.TOz o5) (m1.to fun o e=>up _ o D.i1z e) (m2.to fun o e=>up _ o D.i2z e) t8 w8 fun b o c1 c2 c3 c4 e=>up b o c1 (k5 b o c1 c2 c3 c4 e)
theorem Nb {t1 t2:Bool}{zz TI TO i1 i2 u1 u2:Addr}{k1 k2:Nat}{xs ys:Array Value}{p q:Value}{Q:Fin->Shared->Prop} (hh:A.handled=none) (D:ZipApart zz TI TO i1 i2 u1 u2)
    (hz:IsZip s.heap zz TI TO .none) (hTI:IsPair s.heap TI (.ref i1) (.ref i2)) (hTO:IsPair s.heap TO p q) (j1:It1 t1 s.heap i1 u1 k1) (j2:It1 t2 s.heap i2 u2 k2) (a1:Sq1 t1 s.heap u1 xs) (a2:Sq1 t2 s.heap u2 ys) (he:xs[k1]? =none\/ys[k2]? =none)
    (c:∀g e,(∀b o,b≠zz->b≠TO->b≠i1->b≠i2->s.heap.get? b=some o->g.get? b=some o)->(∃o,g.get? e=some o/\o.cls= .type "StopIteration")->E (.ref e) { s with heap:=g}):
    wpAny (model prog w) A (Builtin.«zip.__next__» ⟨[.ref zz],[]⟩) Q E s:=by
  show wpAny _ _ (field (.ref zz) 2>>=_) _ _ s
  refine wpAny_bind (wpAny_field hz rfl (x:= .bool false) rfl ?z1)
  case z1=>
  show wpAny _ _ (field (.ref zz) 3>>=_) _ _ s
  refine wpAny_bind (wpAny_field hz rfl (x:= .ref TI) rfl (wpAny_bind (wpAny_seqItems hTI rfl ?z2)))
  case z2=>
  show wpAny _ _ (Builtin.SmallTypes.ownedTupleIsFree (.ref zz)>>=_) _ _ s
  refine wpAny_bind (m:=Builtin.SmallTypes.ownedTupleIsFree (.ref zz)) ?z3
  case z3=>
  unfold Builtin.SmallTypes.ownedTupleIsFree;refine wpAny_bind (wpAny_field hz rfl (x:= .none) rfl (wpAny_pure ?z4))
  case z4=>
  simp only [if_true];refine wpAny_bind (wpAny_rule (wpAny_bind (wpAny_field hz rfl (x:= .ref TO) rfl (wpAny_bind (wpAny_setField_rec hz (by simp) fun g1 (z1:IsZip g1 zz TI TO .ellipsis) b1=> ?z5)))))
  case z5=>
  refine wpAny_bind ?z6
  case z6=>
  simp only [List.forIn_cons,List.forIn_nil,List.zipIdx_cons,List.zipIdx_nil]
  refine wpAny_bind (wpAny_bind (wpAny_onRaise ?z7))
  case z7=>
  show wpAny _ _ (Builtin.SmallTypes.nextOf (.ref i1)>>=_) _ _ { s with heap:=g1}
  cases hx:xs[k1]? with
  | none=>
    refine wpAny_bind (Ib hh (j1.ext b1.extBut D.i1z) (a1.ext b1.extBut D.l1z) hx fun g2 e b2 ⟨oe,hoe,hce⟩=> ?_)
    have z2:IsZip g2 zz TI TO .ellipsis:=b2 _ _ D.i1z.symm z1
    have ne:e≠zz:=fun y=>by subst y;rw [z2]at hoe;cases hoe;simp at hce
    exact wpAny_setField_rec z2 (by simp) fun g3 _ b3=>c g3 e (fun b o c1 _ c3 _ y=>b3.extBut _ _ c1 (b2 _ _ c3 (b1.extBut _ _ c1 y))) ⟨oe,b3.extBut _ _ ne hoe,hce⟩
  | some x=>
    have hy:ys[k2]? =none:=by
      rcases he with h | h
      . rw [hx]at h;cases h
      . exact h
    refine wpAny_bind (Qj (j1.ext b1.extBut D.i1z) (a1.ext b1.extBut D.l1z) hx fun g2 n1 b2=>wpAny_pure ?_)
    have o2:IsPair g2 TO p q:=b2.extBut _ _ D.TOi1 (b1.extBut _ _ D.TOz hTO)
    refine wpAny_bind (wpAny_seqItems o2 rfl (wpAny_bind (wpAny_updateSeq_pair o2 fun g3 o3 b3=>wpAny_bind (wpAny_letGo (wpAny_pure (wpAny_bind (wpAny_bind (wpAny_onRaise ?z9))))))))
    case z9=>
    show wpAny _ _ (Builtin.SmallTypes.nextOf (.ref i2)>>=_) _ _ { s with heap:=g3}
    refine wpAny_bind (Ib hh (((j2.ext b1.extBut D.i2z).ext b2.extBut D.i12.symm).ext b3.extBut D.TOi2.symm) (((a2.ext b1.extBut D.l2z).ext b2.extBut D.l2i1).ext b3.extBut D.l2TO) hy fun g4 e b4 ⟨oe,hoe,hce⟩=> ?_)
    have z4:IsZip g4 zz TI TO .ellipsis:=b4 _ _ D.i2z.symm (b3.extBut _ _ D.TOz.symm (b2.extBut _ _ D.i1z.symm z1))
    have ne:e≠zz:=fun y=>by subst y;rw [z4]at hoe;cases hoe;simp at hce
    exact wpAny_setField_rec z4 (by simp) fun g5 _ b5=>c g5 e (fun b o c1 c2 c3 c4 y=>b5.extBut _ _ c1 (b4 _ _ c4 (b3.extBut _ _ c2 (b2.extBut _ _ c3 (b1.extBut _ _ c1 y))))) ⟨oe,b5.extBut _ _ ne hoe,hce⟩
theorem Lj {t1 t2:Bool}{zz TI TO i1 i2 u1 u2:Addr}{k1 k2:Nat}{xs ys:Array Value}{x y p q:Value}{Q:Option Value->Shared->Prop} (D:ZipApart zz TI TO i1 i2 u1 u2)
    (hz:IsZip s.heap zz TI TO .none) (hTI:IsPair s.heap TI (.ref i1) (.ref i2)) (hTO:IsPair s.heap TO p q) (j1:It1 t1 s.heap i1 u1 k1) (j2:It1 t2 s.heap i2 u2 k2) (a1:Sq1 t1 s.heap u1 xs) (a2:Sq1 t2 s.heap u2 ys) (hx:xs[k1]? =some x) (hy:ys[k2]? =some y)
    (c:∀g,IsZip g zz TI TO (rawInt s.heap.objs.size)->IsPair g TO x y->It1 t1 g i1 u1 (k1+1)->It1 t2 g i2 u2 (k2+1)->IsPair g s.heap.objs.size x y->g.objs.size=s.heap.objs.size+1->
      (∀b o,b≠zz->b≠TO->b≠i1->b≠i2->s.heap.get? b=some o->g.get? b=some o)->Q (some (.ref s.heap.objs.size)) { s with heap:=g}):wpAny (model prog w) A (pyNext (.ref zz)) Q E s:=by
  have ty:s.TypeIs (.ref zz) "zip":=⟨_,hz,rfl⟩
  unfold pyNext
  exact wpAny_bind (wpAny_attempt (wpAny_callSpecial?_slot (name:=Str.ofString "__next__") ty F.slot_zip_next (wpAny_call_entry F.slot_zip_next ty F.entry_zip_next
    (Mx D hz hTI hTO j1 j2 a1 a2 hx hy fun g b1 b2 b3 b4 b5 b6 b7=>wpAny_pure (c g b1 b2 b3 b4 b5 b6 b7)) (F.args_zip_next_1 _))))
theorem M8 {t1 t2:Bool}{zz TI TO i1 i2 u1 u2:Addr}{k1 k2:Nat}{xs ys:Array Value}{p q:Value}{Q:Option Value->Shared->Prop} (hh:A.handled=none) (D:ZipApart zz TI TO i1 i2 u1 u2)
    (hz:IsZip s.heap zz TI TO .none) (hTI:IsPair s.heap TI (.ref i1) (.ref i2)) (hTO:IsPair s.heap TO p q) (j1:It1 t1 s.heap i1 u1 k1) (j2:It1 t2 s.heap i2 u2 k2) (a1:Sq1 t1 s.heap u1 xs) (a2:Sq1 t2 s.heap u2 ys) (he:xs[k1]? =none\/ys[k2]? =none)
    (c:∀g,(∀b o,b≠zz->b≠TO->b≠i1->b≠i2->s.heap.get? b=some o->g.get? b=some o)->Q none { s with heap:=g}):wpAny (model prog w) A (pyNext (.ref zz)) Q E s:=by
  have ty:s.TypeIs (.ref zz) "zip":=⟨_,hz,rfl⟩
  unfold pyNext
  refine wpAny_bind (wpAny_attempt (wpAny_callSpecial?_slot (name:=Str.ofString "__next__") ty F.slot_zip_next (wpAny_call_entry F.slot_zip_next ty F.entry_zip_next (Nb hh D hz hTI hTO j1 j2 a1 a2 he fun g e hk ⟨o,ho,hc⟩=> ?_) (F.args_zip_next_1 _))))
  exact wpAny_bind (wpAny_isInstance (T:="StopIteration") (b:=true) ⟨o,ho,hc⟩ isSubtype_stop (wpAny_pure (c _ hk)))
end
def R6 (t:Bool):String:=if t=true then "tuple_iterator" else "list_iterator"
abbrev Jh (t:Bool) (u:Addr):Obj:={ cls:= .type (R6 t),data:= .fields #[.ref u,.int 0 0]}
theorem iter1 {prog:Program}{w:World}{A:Around}{E:Value->Shared->Prop}{s:Shared}{t:Bool}{u:Addr}{xs:Array Value}{Q:Value->Shared->Prop} (h:Sq1 t s.heap u xs) (q:Q (.ref s.heap.objs.size) { s with heap:=s.heap.push (Jh t u)}):wpAny (model prog w) A (pyIter (.ref u)) Q E s:=by
  cases t
  . exact wpAny_pyIter_list h q
  . exact wpAny_pyIter_tuple h q
theorem Mw {t:Bool}{u j:Addr}{g:Heap} (e:g.get? j=some (Jh t u)):It1 t g j u 0:=by
  cases t
  . exact⟨_,e,rfl,rfl⟩
  . exact⟨_,e,rfl,rfl⟩
theorem Sq1.push {t:Bool}{h:Heap}{u:Addr}{xs:Array Value} (x:Sq1 t h u xs) (o:Obj):Sq1 t (h.push o) u xs:=by
  cases t
  . exact Heap.IsList.push x _
  . obtain⟨ob,e,r⟩:=(show h.IsTuple u xs from x)
    exact⟨ob,Heap.get?_push_of_some _ e,r⟩
abbrev zA1 (t1:Bool) (h:Heap) (u1:Addr):Heap:=h.push (Jh t1 u1)
abbrev zA2 (t1 t2:Bool) (h:Heap) (u1 u2:Addr):Heap:=(zA1 t1 h u1).push (Jh t2 u2)
abbrev zA3 (t1 t2:Bool) (h:Heap) (u1 u2:Addr):Heap:=(zA2 t1 t2 h u1 u2).push { cls:= .type "tuple",data:= .seq #[.ref h.objs.size,.ref (zA1 t1 h u1).objs.size]}
abbrev zA4 (t1 t2:Bool) (h:Heap) (u1 u2:Addr):Heap:=(zA3 t1 t2 h u1 u2).push { cls:= .type "tuple",data:= .seq #[.none,.none]}
abbrev zA5 (t1 t2:Bool) (h:Heap) (u1 u2:Addr):Heap:=(zA4 t1 t2 h u1 u2).push { cls:= .type "zip",data:= .fields #[.none,.bool false,.bool false,.ref (zA2 t1 t2 h u1 u2).objs.size,.ref (zA3 t1 t2 h u1 u2).objs.size]}
theorem Kr (t1 t2:Bool) (u1 u2:Addr) (xs ys:Array Value):
    Meets (Builtin.«zip.__new__» ⟨[.type "zip",.ref u1,.ref u2],[]⟩) (fun _ R s=>Sq1 t1 s.heap u1 xs/\Sq1 t2 s.heap u2 ys/\R (.ok (.ret (.ref (zA4 t1 t2 s.heap u1 u2).objs.size))) { s with heap:=zA5 t1 t2 s.heap u1 u2}):=
  .of_wp fun prog w A R s h=>by
    obtain⟨hp,g,d,tk,os⟩:=s;obtain⟨b1,b2,h⟩:=h
    have su:=sub_zip
    have L1:Sq1 t1 (Shared.heap ⟨hp,g,d,tk,os⟩) u1 xs:=b1
    have L2:Sq1 t2 (Shared.heap ⟨hp.push (Jh t1 u1),g,d,tk,os⟩) u2 ys:=b2.push _
    wp_walk using iter1 L1,iter1 L2
    exact⟨_,rfl,h⟩
theorem Lg {prog:Program}{w:World}{A:Around}{E:Value->Shared->Prop}{s:Shared}{t1 t2:Bool}{u1 u2:Addr}{xs ys:Array Value}{Q:Value->Shared->Prop} (b1:Sq1 t1 s.heap u1 xs) (b2:Sq1 t2 s.heap u2 ys)
    (c:∀g,IsZip g (s.heap.objs.size+4) (s.heap.objs.size+2) (s.heap.objs.size+3) .none->IsPair g (s.heap.objs.size+2) (.ref s.heap.objs.size) (.ref (s.heap.objs.size+1))->IsPair g (s.heap.objs.size+3) .none .none->
      It1 t1 g s.heap.objs.size u1 0->It1 t2 g (s.heap.objs.size+1) u2 0->(∀b o,s.heap.get? b=some o->g.get? b=some o)->Q (.ref (s.heap.objs.size+4)) { s with heap:=g}):wpAny (model prog w) A (call (.type "zip") [.ref u1,.ref u2]) Q E s:=by
  refine callType_new F.called_zip (by decide) (F.typeCall_zip_2 _ _) (F.newCall_zip_2 _ _) (fun obj=>F.args_object_init_3 obj _ _) F.entry_zip_new (Kr t1 t2 u1 u2 xs ys) ⟨b1,b2,?_⟩
  have w1:(zA1 t1 s.heap u1).objs.size=s.heap.objs.size+1:=Heap.size_push ..
  have w2:(zA2 t1 t2 s.heap u1 u2).objs.size=s.heap.objs.size+2:=by rw [Heap.size_push,w1]
  have w3:(zA3 t1 t2 s.heap u1 u2).objs.size=s.heap.objs.size+3:=by rw [Heap.size_push,w2]
  have w4:(zA4 t1 t2 s.heap u1 u2).objs.size=s.heap.objs.size+4:=by rw [Heap.size_push,w3]
  have e5:(zA5 t1 t2 s.heap u1 u2).get? (zA4 t1 t2 s.heap u1 u2).objs.size=some _:=Heap.get?_push_size _ rfl
  have e4:(zA5 t1 t2 s.heap u1 u2).get? (zA3 t1 t2 s.heap u1 u2).objs.size=some _:=Heap.get?_push_of_some _ (Heap.get?_push_size _ rfl)
  have e3:(zA5 t1 t2 s.heap u1 u2).get? (zA2 t1 t2 s.heap u1 u2).objs.size=some _:=Heap.get?_push_of_some _ (Heap.get?_push_of_some _ (Heap.get?_push_size _ rfl))
  have e2:(zA5 t1 t2 s.heap u1 u2).get? (zA1 t1 s.heap u1).objs.size=some (Jh t2 u2):=Heap.get?_push_of_some _ (Heap.get?_push_of_some _ (Heap.get?_push_of_some _ (Heap.get?_push_size _ rfl)))
  have e1:(zA5 t1 t2 s.heap u1 u2).get? s.heap.objs.size=some (Jh t1 u1):=Heap.get?_push_of_some _ (Heap.get?_push_of_some _ (Heap.get?_push_of_some _ (Heap.get?_push_of_some _ (Heap.get?_push_size _ rfl))))
  show _/\_
  rw [w2,w3,w4]at e5
  rw [w1,w2]at e3
  rw [w3]at e4
  rw [w1]at e2
  rw [w4]
  exact⟨⟨_,e5,rfl⟩,c _ e5 e3 e4 (Mw e1) (Mw e2) fun b o x=>Heap.get?_push_of_some _ (Heap.get?_push_of_some _ (Heap.get?_push_of_some _ (Heap.get?_push_of_some _ (Heap.get?_push_of_some _ x))))⟩
def SqB (t:Bool) (K:PySem.W.Frag) (H:Hp) (a:Addr) (xs:List V):Prop:=if t=true then SqT K H a xs else SqL K H a xs
theorem Inv.sqB {X:Cx}{pins:List (Addr × Obj)}{σ:St}{H:Hp}{s:Shared}{t:Bool}{a:Addr}{xs:List V} (I:Inv X pins σ H s) (h:SqB t X.K H a xs):∃its:List Value,Vals xs its/\Sq1 t s.heap a its.toArray:=by
  cases t
  . obtain⟨its,r,p,_⟩:=I.list h
    exact⟨its,r,p.isList⟩
  . obtain⟨its,r,p,_⟩:=I.tuple h
    exact⟨its,r,p⟩
theorem Inv.sqB_inj {X:Cx}{pins:List (Addr × Obj)}{σ:St}{H:Hp}{s:Shared}{t:Bool}{a:Addr}{xs ys:List V} (I:Inv X pins σ H s) (h:SqB t X.K H a xs) (h':SqB t X.K H a ys):xs=ys:=by
  cases t
  . exact I.list_inj h h'
  . exact I.tuple_inj h h'
def Uc (t1 t2:Bool) (K:PySem.W.Frag) (a b:Addr):It:=
  ⟨fun i H=>∃xs ys x y,SqB t1 K H a xs/\SqB t2 K H b ys/\xs[i]? =some x/\ys[i]? =some y,
   fun i H x H'=>∃p u v,(∀xs,SqB t1 K H a xs->xs[i]? =some u)/\(∀ys,SqB t2 K H b ys->ys[i]? =some v)/\H p=none/\x= .ref p/\H'=upd H p (.tup [u,v]),
   fun i H=>∃xs ys,SqB t1 K H a xs/\SqB t2 K H b ys/\(xs.length<=i\/ys.length<=i)⟩
theorem Lw {P:Program}{w:World}{K:PySem.W.Frag}{el:List Expr}{x1}{tp:Pos} (t1 t2:Bool) (a b z TI TO i1 i2:Addr) (D:ZipApart z TI TO i1 i2 a b):
    Turn P w K (.Tuple el x1 tp) (Uc t1 t2 K a b) [z,TI,TO,i1,i2] z (fun i h=>IsZip h z TI TO .none/\IsPair h TI (.ref i1) (.ref i2)/\(∃c d,IsPair h TO c d)/\It1 t1 h i1 a i/\It1 t2 h i2 b i) where
  mem:=by simp
  obj:=fun i h st c hc=>by
    obtain⟨hz,hTI,⟨u,v,hTO⟩,h1,h2⟩:=st
    simp only [List.mem_cons,List.not_mem_nil,or_false]at hc
    rcases hc with rfl | rfl | rfl | rfl | rfl
    . exact⟨_,hz,fun v z=>by cases(show Data.fields _=Data.cell v from z)⟩
    . exact⟨_,hTI,fun v z=>by cases(show Data.seq _ _=Data.cell v from z)⟩
    . exact⟨_,hTO,fun v z=>by cases(show Data.seq _ _=Data.cell v from z)⟩
    . exact h1.there
    . exact h2.there
  keep:=fun i h h' st k=>by
    obtain⟨hz,hTI,⟨u,v,hTO⟩,h1,h2⟩:=st
    exact⟨k z (by simp) _ hz,k TI (by simp) _ hTI,⟨u,v,k TO (by simp) _ hTO⟩,h1.to fun o e=>k i1 (by simp) _ e,h2.to fun o e=>k i2 (by simp) _ e⟩
  item:=by
    intro X hP hw hK hc i pins s σ H E I hf st hg
    subst hP hw hK
    obtain⟨xs,ys,x,y,hqx,hqy,hx,hy⟩:=hg
    obtain⟨its,rv,p⟩:=I.sqB hqx
    obtain⟨its2,rv2,p2⟩:=I.sqB hqy
    obtain⟨u,hu,ru⟩:=rv.get hx
    obtain⟨v,hv,rv'⟩:=rv2.get hy
    obtain⟨hz,hTI,⟨c,d,hTO⟩,h1,h2⟩:=st
    refine Lj D hz hTI hTO h1 h2 p p2 (x:=u) (y:=v) (by simpa using hu) (by simpa using hv) fun g a1 a2 a3 a4 a5 a6 hk=>⟨_,rfl,?_⟩
    refine wpAny_letOwnedTupleGo_zip a1 fun g2 hz2 sb2=> ?_
    replace sb2:Heap.SameBut z g g2:=sb2
    have lt:∀b∈ [z,TI,TO,i1,i2],b≠s.heap.objs.size:=fun b hb=>by
      obtain⟨o1,e1,_⟩:=h1.there
      obtain⟨o2,e2,_⟩:=h2.there
      simp only [List.mem_cons,List.not_mem_nil,or_false]at hb
      rcases hb with rfl | rfl | rfl | rfl | rfl
      . exact Nat.ne_of_lt (Heap.lt_size hz)
      . exact Nat.ne_of_lt (Heap.lt_size hTI)
      . exact Nat.ne_of_lt (Heap.lt_size hTO)
      . exact Nat.ne_of_lt (Heap.lt_size e1)
      . exact Nat.ne_of_lt (Heap.lt_size e2)
    have hn:H s.heap.objs.size=none:=I.fresh
    have I1:Inv X pins σ (upd H s.heap.objs.size (.tup [x,y])) { s with heap:=s.heap.push { cls:= .type "tuple",data:= .seq #[u,v]},toks:=s.toks}:=
      I.laid (fun b o q=>Heap.get?_push_of_some _ q) (Nat.le_refl _) ⟨by show 2<=sizeLine;decide,[u,v],.cons ru (.cons rv' .nil),⟨_,Heap.get?_push_size _ rfl,rfl,_,rfl⟩⟩
    have fp':∀b∈ [z,TI,TO,i1,i2],Jd X pins (upd H s.heap.objs.size (.tup [x,y])) b:=fun b hb=>
      ⟨by rw [Al (lt b hb)];exact(hf b hb).1,(hf b hb).2⟩
    have I2:=I1.turnL (h':=g2) (t':=s.toks) (fp:=[z,TI,TO,i1,i2]) (fun b o hb q=>by
      have n1:b≠z:=fun e=>hb (by simp [e])
      refine(sb2.2 b n1).trans ?_
      rcases Heap.get?_push_cases q with⟨rfl,rfl⟩ | q0
      . exact a5
      . exact hk b o n1 (fun e=>hb (by simp [e])) (fun e=>hb (by simp [e])) (fun e=>hb (by simp [e])) q0) fp'
    refine⟨.ref s.heap.objs.size,_,I2,rfl,⟨_,x,y,fun zs hz=>by rw [I.sqB_inj hz hqx];exact hx,fun zs hz=>by rw [I.sqB_inj hz hqy];exact hy,hn,rfl,rfl⟩,⟨hz2,?_,⟨u,v,sb2.extBut _ _ D.TOz a2⟩,a3.ext sb2.extBut D.i1z,a4.ext sb2.extBut D.i2z⟩,fun b hb=>(fp' b hb).1⟩
    exact sb2.extBut _ _ D.TIz (hk _ _ D.TIz D.TITO D.TIi1 D.TIi2 hTI)
  done:=by
    intro X hP hw hK hc i pins s σ H E I hf st hg
    subst hP hw hK
    obtain⟨xs,ys,hqx,hqy,hxy⟩:=hg
    obtain⟨its,rv,p⟩:=I.sqB hqx
    obtain⟨its2,rv2,p2⟩:=I.sqB hqy
    obtain⟨hz,hTI,⟨c,d,hTO⟩,h1,h2⟩:=st
    have l1:=rv.length
    have l2:=rv2.length
    exact M8 (I.ok.hd hc) D hz hTI hTO h1 h2 p p2 (by
      rcases hxy with h | h
      . exact .inl (by simp;omega)
      . exact .inr (by simp;omega)) fun g hk=>⟨rfl,I.turnL (t':=s.toks) (fp:=[z,TI,TO,i1,i2]) (fun b o hb q=>hk b o (fun e=>hb (by simp [e])) (fun e=>hb (by simp [e])) (fun e=>hb (by simp [e])) (fun e=>hb (by simp [e])) q) hf⟩
  self:=fun _ _ _ _ _ st h=>wpAny_pyIter_zip st.1 h
section
variable {X:Cx}{a b:Expr}{ta:TA}{el:List Expr}{x1}{tp p pos:Pos}
def Qo (t1 t2:Bool) (K:PySem.W.Frag) (ta:TA):TI:=fun σ H R=>ta σ H fun vs H1=>∃a b,vs=[.ref a,.ref b]/\(∃xs,SqB t1 K H1 a xs)/\(∃ys,SqB t2 K H1 b ys)/\R (Uc t1 t2 K a b) H1
theorem En (t1 t2:Bool) (hg:Gl X "zip") (hm:X.mg "zip"=none) (ha:PA X [a,b] ta) (hs:starEach [a,b] X.env=[(false,eval a X.env),(false,eval b X.env)]:=by rfl) (hs2:starEach [b] X.env=[(false,eval b X.env)]:=by rfl):
    PI X (.Tuple el x1 tp) (.Call (.Name "zip" p) [a,b] [] pos) (Qo t1 t2 X.K ta):=by
  intro pins s σ H R I h
  refine Call_ (Ii I hg hm boot_zip (PyProof.Rows.callWith_type1 (thn (ha pos pins s σ H _ I h) fun us s1 ⟨vs,H1,I1,r1,q1⟩=> ?_) (by rw [hs,hs2]) (by rw [hs2];rfl)))
  obtain⟨u,v,rfl,⟨xs,hqx⟩,⟨ys,hqy⟩,q⟩:=q1
  obtain⟨v1,v2,rfl,r1,r2⟩:=vals2 r1
  cases r1
  cases r2
  obtain⟨its,rx,px⟩:=I1.sqB hqx
  obtain⟨its2,ry,py⟩:=I1.sqB hqy
  have lt1:u<s1.heap.objs.size:=by
    cases t1
    . obtain⟨o,e,_⟩:=(show s1.heap.IsList u _ from px)
      exact Heap.lt_size e
    . obtain⟨o,e,_⟩:=(show s1.heap.IsTuple u _ from px)
      exact Heap.lt_size e
  have lt2:v<s1.heap.objs.size:=by
    cases t2
    . obtain⟨o,e,_⟩:=(show s1.heap.IsList v _ from py)
      exact Heap.lt_size e
    . obtain⟨o,e,_⟩:=(show s1.heap.IsTuple v _ from py)
      exact Heap.lt_size e
  refine Lg px py fun h' hz hTI hTO hi1 hi2 hk=> ?_
  have I2:Inv X pins σ H1 { s1 with heap:=h'}:=I1.kept (t':=s1.toks) fun c o' e=>hk c o' e
  refine wpAny_pyIter_zip hz ⟨s1.heap.objs.size+4,[s1.heap.objs.size+4,s1.heap.objs.size+2,s1.heap.objs.size+3,s1.heap.objs.size,s1.heap.objs.size+1],_,_,H1,rfl,I2,Lw t1 t2 u v _ _ _ _ _ (zipApart_new lt1 lt2),⟨hz,hTI,⟨_,_,hTO⟩,hi1,hi2⟩,fun c hcm=> ?_,q⟩
  have hge:s1.heap.objs.size<=c:=by
    simp only [List.mem_cons,List.not_mem_nil,or_false]at hcm
    rcases hcm with rfl | rfl | rfl | rfl | rfl
    . exact Nat.le_add_right _ 4
    . exact Nat.le_add_right _ 2
    . exact Nat.le_add_right _ 3
    . exact Nat.le_refl _
    . exact Nat.le_add_right _ 1
  exact I1.fpOk hge (I1.hok.fresh hge)
end
theorem Px {t1 t2:Bool}{K:PySem.W.Frag}{ta:TA}{σ:St}{H:Hp}{R:It->Hp->Prop}:Qo t1 t2 K ta σ H R=ta σ H (fun vs H1=>∃a b,vs=[.ref a,.ref b]/\(∃xs,SqB t1 K H1 a xs)/\(∃ys,SqB t2 K H1 b ys)/\R (Uc t1 t2 K a b) H1):=rfl
end L2
namespace L2
open PySem PySem.Spec PyProof.Rows
set_option maxRecDepth 100000
abbrev TB:=St->Hp->(St->Hp->Prop)->XK->Prop
end L2
namespace L2
open PySem PySem.Spec PyProof.Rows
section
variable {κ:Type} [DecidableEq κ]
def Gz (kvs:List (κ × V)) (k:κ):Option V:=(kvs.find? fun kv=>decide (kv.1=k)).map (·.2)
def putK (kvs:List (κ × V)) (k:κ) (v:V):List (κ × V):=
  if(kvs.any fun kv=>decide (kv.1=k))=true then kvs.map (fun kv=>if kv.1=k then(kv.1,v)else kv)else kvs++ [(k,v)]
def Rv (kvs:List (κ × V)) (k:κ):List (κ × V):=kvs.filter fun kv=>decide (kv.1≠k)
theorem Gh {p:κ × V}{r:List (κ × V)}{k:κ} (e:p.1=k):Gz (p::r) k=some p.2:=by simp [Gz,List.find?_cons,e]
theorem Gb {p:κ × V}{r:List (κ × V)}{k:κ} (e:¬p.1=k):Gz (p::r) k=Gz r k:=by simp [Gz,List.find?_cons,e]
theorem Dg (k:κ):∀kvs:List (κ × V),(kvs.any fun kv=>decide (kv.1=k))=(Gz kvs k).isSome
  | []=>rfl
  | p::r=>by
    rw [List.any_cons]
    by_cases e:p.1=k
    . simp only [Gh e,decide_eq_true e,Bool.true_or,Option.isSome_some]
    . rw [Gb e,decide_eq_false e,Bool.false_or];exact Dg k r
theorem Cr (kvs:List (κ × V)) (k:κ) (v:V):(putK kvs k v).length<=kvs.length+1:=by
  unfold putK
  split
  . rw [List.length_map];omega
  . rw [List.length_append,List.length_cons,List.length_nil];omega
theorem Nj {kvs:List (κ × V)}{k:κ} (v:V) (h:Gz kvs k=none):putK kvs k v=kvs++ [(k,v)]:=by
  unfold putK
  rw [Dg,h]
  exact if_neg (by decide)
theorem Ng.isSome_eq {o:Option V}{u:Option Value} (r:Ng o u):o.isSome=u.isSome:=by
  cases o with
  | none=>cases u with
    | none=>rfl
    | some _=>exact(show False from r).elim
  | some _=>cases u with
    | none=>exact(show False from r).elim
    | some _=>rfl
theorem Ng.getD {o:Option V}{u:Option Value}{d:V}{d':Value} (r:Ng o u) (rd:RelV d d'):RelV (o.getD d) (u.getD d'):=by
  cases o with
  | none=>cases u with
    | none=>exact rd
    | some _=>exact(show False from r).elim
  | some _=>cases u with
    | none=>exact(show False from r).elim
    | some _=>exact r
theorem KV.val {kvs:List (κ × V)}{vs:List (κ × Value)} (r:KV kvs vs) (k:κ):Ng (Gz kvs k) (valueAt vs k):=by
  unfold KV at r
  induction r with
  | nil=>exact True.intro
  | @cons p q ps qs h t ih=>
    obtain⟨h1,h2⟩:=h
    by_cases e:p.1=k
    . have e':q.1=k:=h1.symm.trans e
      have b:valueAt (q::qs) k=some q.2:=by simp [valueAt,List.find?_cons,e']
      rw [Gh e,b];exact h2
    . have e':¬q.1=k:=fun z=>e (h1.trans z)
      have b:valueAt (q::qs) k=valueAt qs k:=by simp [valueAt,List.find?_cons,e']
      rw [Gb e,b];exact ih
theorem KV.any {kvs:List (κ × V)}{vs:List (κ × Value)} (r:KV kvs vs) (k:κ):(kvs.any fun kv=>decide (kv.1=k))=vs.any fun kv=>decide (kv.1=k):=by
  unfold KV at r
  induction r with
  | nil=>rfl
  | cons h t ih=>rw [List.any_cons,List.any_cons,ih,h.1]
theorem KV.repl {kvs:List (κ × V)}{vs:List (κ × Value)} (r:KV kvs vs) (k:κ) {y:V}{u:Value} (ry:RelV y u):
    KV (kvs.map fun kv=>if kv.1=k then(kv.1,y)else kv) (vs.map fun kv=>if kv.1=k then(kv.1,u)else kv):=by
  unfold KV at r ⊢
  induction r with
  | nil=>exact .nil
  | @cons p q ps qs h t ih=>
    rw [List.map_cons,List.map_cons]
    refine .cons ?_ ih
    obtain⟨h1,h2⟩:=h
    by_cases e:p.1=k
    . rw [if_pos e,if_pos (h1.symm.trans e)];exact⟨h1,ry⟩
    . rw [if_neg e,if_neg (fun z=>e (h1.trans z))];exact⟨h1,h2⟩
theorem KV.put {kvs:List (κ × V)}{vs:List (κ × Value)} (r:KV kvs vs) (k:κ) {y:V}{u:Value} (ry:RelV y u):KV (putK kvs k y) (stored vs k u):=by
  unfold putK stored
  rw [r.any k]
  by_cases e:(vs.any fun kv=>decide (kv.1=k))=true
  . rw [if_pos e,if_pos e];exact r.repl k ry
  . rw [if_neg e,if_neg e];exact Paired.snoc r ⟨rfl,ry⟩
theorem KV.drop {kvs:List (κ × V)}{vs:List (κ × Value)} (r:KV kvs vs) (k:κ):KV (Rv kvs k) (without vs k):=by
  unfold KV at r ⊢
  unfold Rv without
  induction r with
  | nil=>exact .nil
  | @cons p q ps qs h t ih=>
    obtain⟨h1,h2⟩:=h
    rw [List.filter_cons,List.filter_cons]
    by_cases e:p.1=k
    . have a:¬decide (p.1≠k)=true:=by simp [e]
      have b:¬decide (q.1≠k)=true:=by simp [h1.symm.trans e]
      rw [if_neg a,if_neg b];exact ih
    . have e':¬q.1=k:=fun z=>e (h1.trans z)
      have a:decide (p.1≠k)=true:=by simp [e]
      have b:decide (q.1≠k)=true:=by simp [e']
      rw [if_pos a,if_pos b];exact .cons ⟨h1,h2⟩ ih
theorem KV.length {kvs:List (κ × V)}{vs:List (κ × Value)} (r:KV kvs vs):kvs.length=vs.length:=Paired.length r
end
theorem Qv {P:Program}{w:World}{k:Key}{u:Value} (r:RelV (kV k) u):(Bb P w).is k u=true:=by
  cases k with
  | inl i=>obtain⟨t,e⟩:=(show ∃t,u=Value.int i t from r);subst e;exact Jg P w i t
  | inr x=>obtain⟨t,e⟩:=(show ∃t,u=Value.str x t from r);subst e;exact Jf P w x t
theorem Hy {P:Program}{w:World}:∀ {ks:List Key}{us:List Value},Vals (ks.map kV) us->ItemsAre (Bb P w) ks us
  | [],_,r=>by rw [List.map_nil]at r;cases r;exact .nil
  | k::ks,_,r=>by
    rw [List.map_cons]at r
    cases r with
    | cons h t=>exact .cons (Qv h) (Hy t)
abbrev KT (H:Hp):List (List Key × V)->List (List Key × Addr × Value)->Prop:=Paired fun p q=>p.1=q.1/\H q.2.1=some (.tup (p.1.map kV))/\RelV p.2 q.2.2
theorem KT.val {H:Hp}{kvs:List (List Key × V)}{xs:List (List Key × Addr × Value)} (r:KT H kvs xs) (k:List Key):Ng (Gz kvs k) ((atKey xs k).map (·.2)):=by
  induction r with
  | nil=>exact True.intro
  | @cons p q ps qs h t ih=>
    obtain⟨h1,_,h2⟩:=h
    by_cases e:p.1=k
    . have e':q.1=k:=h1.symm.trans e
      have b:atKey (q::qs) k=some q.2:=by simp [atKey,List.find?_cons,e']
      rw [Gh e,b];exact h2
    . have e':¬q.1=k:=fun z=>e (h1.trans z)
      have b:atKey (q::qs) k=atKey qs k:=by simp [atKey,List.find?_cons,e']
      rw [Gb e,b];exact ih
theorem KT.repl {H:Hp}{kvs:List (List Key × V)}{xs:List (List Key × Addr × Value)} (r:KT H kvs xs) (k:List Key) {y:V}{u:Value} (ry:RelV y u):
    KT H (kvs.map fun kv=>if kv.1=k then(kv.1,y)else kv) (xs.map (putAt k u)):=by
  induction r with
  | nil=>exact .nil
  | @cons p q ps qs h t ih=>
    rw [List.map_cons,List.map_cons]
    refine .cons ?_ ih
    obtain⟨h1,h2,h3⟩:=h
    unfold putAt
    by_cases e:p.1=k
    . rw [if_pos e,if_pos (h1.symm.trans e)];exact⟨h1,h2,ry⟩
    . rw [if_neg e,if_neg (fun z=>e (h1.trans z))];exact⟨h1,h2,h3⟩
theorem KT.put {H:Hp}{kvs:List (List Key × V)}{xs:List (List Key × Addr × Value)} (r:KT H kvs xs) (k:List Key) {b:Addr}{y:V}{u:Value} (hb:H b=some (.tup (k.map kV))) (ry:RelV y u):
    KT H (putK kvs k y) (storedH xs k b u):=by
  have e:(kvs.any fun kv=>decide (kv.1=k))=(atKey xs k).isSome:=by
    rw [Dg,(r.val k).isSome_eq,Option.isSome_map]
  unfold putK storedH
  rw [e]
  by_cases q:(atKey xs k).isSome=true
  . rw [if_pos q,if_pos q];exact r.repl k ry
  . rw [if_neg q,if_neg q];exact Paired.snoc r ⟨rfl,hb,ry⟩
theorem KT.keeps {H H':Hp}{kvs:List (List Key × V)}{xs:List (List Key × Addr × Value)} (r:KT H kvs xs) (ht:∀b ys,H b=some (.tup ys)->H' b=some (.tup ys)):KT H' kvs xs:=
  Paired.mapP r fun _ _ z=>⟨z.1,ht _ _ z.2.1,z.2.2⟩
section
variable {P:Program}{w:World}{H:Hp}{h:Heap}{a:Addr}
theorem T6 {u:HO} (ok:HOk P w H h) (e:Rd H a u):Bd P w H h a u:=e.ok ok
theorem Qs {kvs:List (Key × V)} (ok:HOk P w H h) (e:Rd H a (.dK kvs)):kvs.length<=sizeLine/\(a==sysModules)=false/\∃vs,KV kvs vs/\h.DictOf (Bb P w) a vs:=
  show Bd P w H h a (.dK kvs)from T6 ok e
theorem Uh {kvs:List (Key × V)} (ok:HOk P w H h) (e:H a=some (.dK kvs)):kvs.length<=sizeLine/\(a==sysModules)=false/\∃vs,KV kvs vs/\h.DictOf (Bb P w) a vs:=Qs ok (.inl e)
theorem M9 {ks:List Key} (ok:HOk P w H h) (e:H a=some (.tup (ks.map kV))):(tupleKind (Bb P w)).is h ks a:=by
  obtain⟨_,its,r,o,h1,h2,n,h3⟩:=(show Bd P w H h a (.tup (ks.map kV))from ok a _ e)
  exact⟨o,its.toArray,n,h1,h2,h3,by simpa using Hy r⟩
theorem P0 {kvs:List (List Key × V)} (ok:HOk P w H h) (e:Rd H a (.dT kvs)):kvs.length<=sizeLine/\(a==sysModules)=false/\
    ∃xs,KT H kvs xs/\h.DictOfH (tupleKind (Bb P w)) a xs:=by
  obtain⟨z,y,xs,r,o,es,ep,h1,h2,h3,h4,h5⟩:=(show Bd P w H h a (.dT kvs)from T6 ok e)
  refine⟨z,y,xs,r,o,es,ep,h1,h2,h3,h4,fun x hx=> ?_,h5⟩
  have all:∀ {l:List (List Key × V)}{m:List (List Key × Addr × Value)},KT H l m->∀x∈m,(tupleKind (Bb P w)).is h x.1 x.2.1:=by
    intro l m q
    induction q with
    | nil=>intro x hx;exact nomatch hx
    | @cons p q ps qs hq t ih=>
      intro x hx
      rcases List.mem_cons.mp hx with e | hx
      . subst e
        exact M9 ok (by rw [<-hq.1];exact hq.2.1)
      . exact ih x hx
  exact all r x hx
theorem Uj {kvs:List (List Key × V)} (ok:HOk P w H h) (e:H a=some (.dT kvs)):kvs.length<=sizeLine/\(a==sysModules)=false/\
    ∃xs,KT H kvs xs/\h.DictOfH (tupleKind (Bb P w)) a xs:=P0 ok (.inl e)
end
def O1 (H:Hp) (a:Addr) (y:V) (r:Option V):Prop:=
  (∃kvs k,Rd H a (.dK kvs)/\y=kV k/\r=Gz kvs k)\/∃kvs k b,Rd H a (.dT kvs)/\y= .ref b/\H b=some (.tup (k.map kV))/\r=Gz kvs k
def O9 (H:Hp) (a:Addr) (y v:V) (H':Hp):Prop:=
  (∃kvs k,H a=some (.dK kvs)/\y=kV k/\kvs.length<sizeLine/\H'=upd H a (.dK (putK kvs k v)))\/
  ∃kvs k b,H a=some (.dT kvs)/\y= .ref b/\H b=some (.tup (k.map kV))/\kvs.length<sizeLine/\H'=upd H a (.dT (putK kvs k v))
theorem O1.k {H:Hp}{a:Addr}{kvs:List (Key × V)}{k:Key} (e:H a=some (.dK kvs)):O1 H a (kV k) (Gz kvs k):= .inl ⟨kvs,k,.inl e,rfl,rfl⟩
theorem O1.t {H:Hp}{a b:Addr}{kvs:List (List Key × V)}{k:List Key} (e:H a=some (.dT kvs)) (eb:H b=some (.tup (k.map kV))):O1 H a (.ref b) (Gz kvs k):= .inr ⟨kvs,k,b,.inl e,rfl,eb,rfl⟩
theorem O9.k {H:Hp}{a:Addr}{kvs:List (Key × V)}{k:Key}{v:V} (e:H a=some (.dK kvs)) (hl:kvs.length<sizeLine):O9 H a (kV k) v (upd H a (.dK (putK kvs k v))):= .inl ⟨kvs,k,e,rfl,hl,rfl⟩
theorem O9.t {H:Hp}{a b:Addr}{kvs:List (List Key × V)}{k:List Key}{v:V} (e:H a=some (.dT kvs)) (eb:H b=some (.tup (k.map kV))) (hl:kvs.length<sizeLine):
    O9 H a (.ref b) v (upd H a (.dT (putK kvs k v))):= .inr ⟨kvs,k,b,e,rfl,eb,hl,rfl⟩
section
variable {X:Cx}{pins:List (Addr × Obj)}{σ:St}{H:Hp}{s:Shared}{a:Addr}{y v:V}{u r:Value}{o:Option V}{A:Around}{E:Value->Shared->Prop}
theorem Inv.big (I:Inv X pins σ H s):sysModules<s.heap.objs.size:=by
  have h:mainGlobals<s.heap.objs.size:=(I.mod.glob.keeps I.bk).lt
  exact Nat.lt_trans (by decide) h
theorem K4 {h':Heap}{t':Nat}{ob:HO} (I:Inv X pins σ H s) (mu:Mut (H a)) (hs:Heap.SameBut a s.heap h') (he:∃q,h'.get? a=some q) (new:Bd X.prog X.w (upd H a ob) h' a ob):
    Inv X pins σ (upd H a ob) { s with heap:=h',toks:=t'}:=
  I.write (x:=a) (e:=a) mu (.inl rfl) (fun b q hb z=>(hs.2 b hb).trans z) he new
theorem R8 {P:Program}{w:World}{H':Hp}{h':Heap}{kvs:List (Key × V)}{vs:List (Key × Value)} (z:kvs.length<=sizeLine) (hd:(a==sysModules)=false) (rel:KV kvs vs) (dd:h'.DictOf (Bb P w) a vs):
    Bd P w H' h' a (.dK kvs):=⟨z,hd,vs,rel,dd⟩
theorem Ku {H':Hp}{Q:Unit->Shared->Prop} (hu:A.units+1<cLine) (I:Inv X pins σ H s) (g:O9 H a y v H') (ry:RelV y u) (rv:RelV v r) (h:∀s',Inv X pins σ H' s'->Q () s'):
    wpAny (model X.prog X.w) A (setItem (.ref a) u r) Q E s:=by
  rcases g with⟨kvs,k,e,ey,l,eH⟩ | ⟨kvs,k,b,e,ey,eb,l,eH⟩
  . subst ey eH
    obtain⟨z,hd,vs,rel,dd⟩:=Uh I.hok e
    have hz:vs.length<=sizeLine:=by rw [<-rel.length];exact z
    have hl:(putK kvs k v).length<=sizeLine:=by have:=Cr kvs k v;omega
    refine wpAny_setItem_pairs (hsz:=hz) (Qv ry) dd fun h' dd' hs=>h _ ?_
    have he:∃q,h'.get? a=some q:=let ⟨q,_,_,hq,_⟩:=dd';⟨q,hq⟩
    exact K4 I (by rw [e];exact True.intro) hs he (R8 hl hd (rel.put k rv) dd')
  . subst ey eH
    cases(show u=Value.ref b from ry)
    obtain⟨z,hd,xs,rel,dd⟩:=Uj I.hok e
    have hz:xs.length<=sizeLine:=by rw [<-Paired.length rel];exact z
    have hl:(putK kvs k v).length<=sizeLine:=by have:=Cr kvs k v;omega
    refine wpAny_setItem_heap (hsz:=hz) (tupleKind_room_in1 hu) (M9 I.hok eb) dd fun h' dd' hs=>h _ ?_
    obtain⟨q,es,ep,hq,h2,h3,h4,_,h5⟩:=dd'
    refine K4 I (by rw [e];exact True.intro) hs ⟨q,hq⟩ ⟨hl,hd,_,(rel.put k eb rv).keeps fun c ys ec=> ?_,q,es,ep,hq,h2,h3,h4,h5⟩
    rw [Al (Ka ec e (fun z=>nomatch z))]
    exact ec
end
def Qf (td ty tv:TE):TS:=fun D σ H=>tv σ H fun v H1=>td σ H1 fun x H2=>ty σ H2 fun y H3=>∃a H4,x= .ref a/\O9 H3 a y v H4/\D.nx σ H4
section
variable {X:Cx}{o i e value:Expr}{pos pos' tpos:Pos}{td ty tv:TE}
theorem Iu (hu:X.A.units+1<cLine) (ho:PE X o td) (hi:PE X i ty) (hv:PE X value tv) (hs:swapsWith value (some (.Subscript o i pos')) pos.line X.env=pure false):
    PS X (.Assign [.Subscript o i pos'] value pos) (Qf td ty tv):=by
  intro pins s σ H D I h
  refine wpAny_Assign_Subscript (thn (hv pins s σ H _ I h) fun r s1 ⟨v,H1,I1,rv,q1⟩=>thn (ho pins s1 σ H1 _ I1 q1) fun u s2 ⟨x,H2,I2,rx,q2⟩=>thn (hi pins s2 σ H2 _ I2 q2) fun iv s3 ⟨y,H3,I3,ry,a,H4,ex,g,q3⟩=> ?_) hs
  subst ex
  obtain rfl:u=Value.ref a:=rx
  exact Ku hu I3 g ry rv fun s4 I4=>⟨σ,H4,I4,q3⟩
end
theorem Ov {P:Program}{w:World}{H:Hp} (h:Heap) (hb:sysModules<h.objs.size):Bd P w H (h.push { cls:= .type "dict",data:= .dict #[]}) h.objs.size (.dT []):=
  ⟨Nat.zero_le _,beq_eq_false_iff_ne.mpr (Ne.symm (Nat.ne_of_lt hb)),[],.nil,_,#[],0,Heap.get?_push_size _ rfl,⟨rfl,rfl,rfl⟩,rfl,rfl,List.nodup_nil⟩
def M7:TE:=fun _ H Q=>∀p,H p=none->Q (.ref p) (upd H p (.dT []))
section
variable {X:Cx}{pos:Pos}
theorem Gk:PE X (.Dict [] [] pos) M7:=fun pins s σ H Q I h=>
  wpAny_Dict_empty ⟨.ref s.heap.objs.size,_,I.laid (a:=s.heap.objs.size) (o:= .dT []) (t':=s.toks) (fun _ _ q=>Heap.get?_push_of_some _ q) (Nat.le_refl _) (Ov s.heap I.big),rfl,h _ (I.hok.fresh (Nat.le_refl _))⟩
end
structure M1 (X:Cx) (o:Expr) (m:Str) (apos:Pos) (e:Expr) (cpos:Pos):Prop where
  base:attributeBase o m X.env (eval o X.env)=eval o X.env
  few:((backTo cpos (starEach [e] X.env)).all (fun x=> !x.1)&&(backToKw cpos (keywordEach [] X.env)).all (fun x=>x.1.isSome)
    &&decide (([e]:List Expr).length+([]:List Keyword).length+(if([]:List Keyword).isEmpty then 0 else 1)<30))=true
  line:(apos.endLine==cpos.line)=true
  trees:backTo cpos (starEach [e] X.env)=[(false,eval e X.env)]
structure M2 (X:Cx) (o:Expr) (m:Str) (apos:Pos) (e f:Expr) (cpos:Pos):Prop where
  base:attributeBase o m X.env (eval o X.env)=eval o X.env
  few:((backTo cpos (starEach [e,f] X.env)).all (fun x=> !x.1)&&(backToKw cpos (keywordEach [] X.env)).all (fun x=>x.1.isSome)
    &&decide (([e,f]:List Expr).length+([]:List Keyword).length+(if([]:List Keyword).isEmpty then 0 else 1)<30))=true
  line:(apos.endLine==cpos.line)=true
  trees:backTo cpos (starEach [e,f] X.env)=[(false,eval e X.env),(false,eval f X.env)]
def IsD (H:Hp) (a:Addr):Prop:=(∃kvs,Rd H a (.dK kvs))\/∃kvs,Rd H a (.dT kvs)
theorem Pr {X:Cx}{pins:List (Addr × Obj)}{σ:St}{H:Hp}{s:Shared}{a:Addr} (I:Inv X pins σ H s) (d:IsD H a):
    s.TypeIs (.ref a) "dict"/\(∀b,Value.ref a= .ref b->∃ob,s.heap.get? b=some ob/\ob.dict=none)/\(a==sysModules)=false:=by
  rcases d with⟨kvs,e⟩ | ⟨kvs,e⟩
  . obtain⟨_,hd,vs,_,dd⟩:=Qs I.hok e
    refine⟨dd.typeIs,fun b q=> ?_,hd⟩
    cases q
    obtain⟨ob,_,_,h1,h2,_⟩:=dd
    exact⟨ob,h1,h2.2.1⟩
  . obtain⟨_,hd,xs,_,dd⟩:=P0 I.hok e
    refine⟨dd.typeIs,fun b q=> ?_,hd⟩
    cases q
    obtain⟨ob,_,_,h1,h2,_⟩:=dd
    exact⟨ob,h1,h2.2.1⟩
section
variable {X:Cx}{pins:List (Addr × Obj)}{σ:St}{H:Hp}{s:Shared}{a:Addr}{y d:V}{u r:Value}{o:Option V}{A:Around}{E:Value->Shared->Prop}
theorem T9 {Q:Value->Shared->Prop} (hu:A.units+1<cLine) (I:Inv X pins σ H s) (g:O1 H a y o) (ry:RelV y u) (rd:RelV d r) (h:∀w' s',Inv X pins σ H s'->RelV (o.getD d) w'->Q w' s'):
    wpAny (model X.prog X.w) A (call (.builtin "dict.get") [.ref a,u,r]) Q E s:=by
  rcases g with⟨kvs,k,e,ey,l⟩ | ⟨kvs,k,b,e,ey,eb,l⟩
  . subst ey
    obtain⟨z,hd,vs,rel,dd⟩:=Qs I.hok e
    refine call_meetsIn PySem.F.slot_dict_get dd.typeIs PySem.F.entry_dict_get (PySem.F.args_dict_get_3 _ _ _) (meets_dict_get_default (Bb X.prog X.w) a (Qv ry) hd r) ⟨_,dd.mapOf,h _ _ (I.tok _) ?_⟩
    rw [l]
    exact(rel.val k).getD rd
  . subst ey
    cases(show u=Value.ref b from ry)
    obtain⟨z,hd,xs,rel,dd⟩:=P0 I.hok e
    refine call_meetsIn PySem.F.slot_dict_get dd.typeIs PySem.F.entry_dict_get (PySem.F.args_dict_get_3 _ _ _) (meetsH_dict_get_default (tupleKind (Bb X.prog X.w)) a b hd r) ⟨tupleKind_room_in1 hu,k,xs,M9 I.hok eb,dd,h _ _ (I.tok _) ?_⟩
    rw [l]
    exact(rel.val k).getD rd
end
def Lz (td ty tx:TE):TE:=fun σ H Q=>td σ H fun x H1=>∃a,x= .ref a/\IsD H1 a/\ty σ H1 fun y H2=>tx σ H2 fun z H3=>∃o,O1 H3 a y o/\Q (o.getD z) H3
section
variable {X:Cx}{o e f:Expr}{apos cpos:Pos}{td ty tx:TE}
theorem Gx (hu:X.A.units+1<cLine) (ho:PE X o td) (he:PE X e ty) (hf:PE X f tx) (m:M2 X o "get" apos e f cpos):PE X (.Call (.Attribute o "get" apos) [e,f] [] cpos) (Lz td ty tx):=by
  intro pins s σ H Q I h
  refine wpAny_Call_method m.base m.few m.line PySem.F.plainAttrs_dict PySem.F.slot_dict_get PySem.F.type_dict_get (thn (ho pins s σ H _ I h) fun u s1 ⟨x,H1,I1,rx,a,ex,d,q1⟩=> ?_)
  subst ex
  obtain rfl:u=Value.ref a:=rx
  obtain⟨t1,t2,_⟩:=Pr I1 d
  refine⟨t1,t2,?_⟩
  rw [m.trees]
  refine Calls.callWith_builtin rfl (Calls.evalArgs_plain (Calls.spliced_cons (thn (he pins s1 σ H1 _ I1 q1) fun iv s2 ⟨y,H2,I2,ry,q2⟩=>
    Calls.spliced_cons (thn (hf pins s2 σ H2 _ I2 q2) fun fv s3 ⟨z,H3,I3,rz,ov,g,q3⟩=>Calls.spliced_nil ?_))))
  exact T9 hu I3 g ry rz fun w' s4 I4 rw'=>⟨_,H3,I4,rw',q3⟩
end
end L2
namespace L2
open PySem PySem.Spec PyProof.Rows
section
variable {κ:Type} [DecidableEq κ]
theorem Nr {kvs:List (κ × V)}{k:κ} (h:Gz kvs k=none):¬k∈kvs.map (·.1):=by
  intro m
  obtain⟨p,hp,e⟩:=List.mem_map.mp m
  have q:(kvs.any fun kv=>decide (kv.1=k))=true:=List.any_eq_true.mpr ⟨p,hp,decide_eq_true e⟩
  rw [Dg,h]at q
  exact absurd q (by simp)
theorem Ls:∀ {l:List κ}{k:κ},l.Nodup->¬k∈l->(l++ [k]).Nodup
  | [],k,_,_=>by simp
  | a::r,k,h,hk=>by
    obtain⟨h1,h2⟩:=List.nodup_cons.mp h
    show(a::(r++ [k])).Nodup
    refine List.nodup_cons.mpr ⟨fun m=> ?_,Ls h2 fun m=>hk (List.mem_cons.mpr (Or.inr m))⟩
    rcases List.mem_append.mp m with q | q
    . exact h1 q
    . exact hk (List.mem_cons.mpr (Or.inl (List.mem_singleton.mp q).symm))
theorem Qc {kvs:List (κ × V)}{k:κ} (v:V) (hn:(kvs.map (·.1)).Nodup) (h:Gz kvs k=none):((putK kvs k v).map (·.1)).Nodup:=by
  rw [Nj v h,List.map_append]
  exact Ls hn (Nr h)
end
end L2
namespace L2
open PySem PySem.Spec PyProof.Rows
theorem hu1 {A:Around} (h:A.units+64<cLine):A.units+1<cLine:=Nat.lt_of_le_of_lt (Nat.add_le_add_left (by decide:1<=64) _) h
section
variable {td ty tx tv:TE}{σ:St}{H:Hp}{Q:VK}{D:Ends}
theorem Q5:Lz td ty tx σ H Q=td σ H fun x H1=>∃a,x= .ref a/\IsD H1 a/\ty σ H1 fun y H2=>tx σ H2 fun z H3=>∃o,O1 H3 a y o/\Q (o.getD z) H3:=rfl
theorem Sy:Qf td ty tv D σ H=tv σ H fun v H1=>td σ H1 fun x H2=>ty σ H2 fun y H3=>∃a H4,x= .ref a/\O9 H3 a y v H4/\D.nx σ H4:=rfl
end
end L2
namespace L2
open PySem PySem.Spec PyProof.Rows
theorem Ny {t1 t2:Bool}{K:PySem.W.Frag}{a b:Addr}{xs ys:List V}{H1:Hp}{p:Addr}{cσ:St}{g:TG}{te:TE}{Q:VK} (n:Nat) (hn:n=min xs.length ys.length) (f:Nat->V) (hz:n<=sizeLine) (hp:H1 p=none)
    (wx:∀H',Same H1 H'->SqB t1 K H' a xs) (wy:∀H',Same H1 H'->SqB t2 K H' b ys)
    (step:∀(i:Nat) (H':Hp) (q:Addr) (R:VK),i<n->Same H1 H'->H' q=some (.tup [xs.getD i .non,ys.getD i .non])->(∀H6,Same H' H6->R (f i) H6)->g (.ref q) cσ H' fun σ4 H4=>Kp cσ σ4/\te σ4 H4 R)
    (done:∀H',Same H1 H'->H' p=some (.lst ((List.range n).map f))->Q (.ref p) H'):cIn (Uc t1 t2 K a b) cσ g Jb te Q H1 p:=by
  have su:∀ {H':Hp}{o:HO},Same H1 H'->Same H1 (upd H' p o):=fun {H' o} s b u e=>by
    rw [Al (Ai e hp)]
    exact s b u e
  refine⟨fun i m acc H'=>m=n-i/\i<=n/\acc=(List.range i).map f/\H' p=some (.lst acc)/\Same H1 H',⟨n,by simp,Nat.zero_le _,by simp,Ad,su (Same.refl _)⟩,?_⟩
  rintro i m acc H' ⟨rfl,hi,rfl,hH,s⟩
  by_cases he:i=n
  . subst he
    exact .inl ⟨⟨xs,ys,wx _ s,wy _ s,by omega⟩,done _ s hH⟩
  . have hl:i<n:=by omega
    have ex:xs[i]? =some (xs.getD i .non):=by rw [List.getD_eq_getElem?_getD,List.getElem?_eq_getElem (by omega)];rfl
    have ey:ys[i]? =some (ys.getD i .non):=by rw [List.getD_eq_getElem?_getD,List.getElem?_eq_getElem (by omega)];rfl
    refine .inr ⟨⟨xs,ys,_,_,wx _ s,wy _ s,ex,ey⟩,fun x H3 y=> ?_⟩
    obtain⟨q,u,v,hu,hv,hq,rfl,rfl⟩:=y
    have eu:=hu _ (wx _ s)
    have ev:=hv _ (wy _ s)
    rw [ex]at eu
    rw [ey]at ev
    cases eu
    cases ev
    have sq:=Same.upd hq (.tup [xs.getD i .non,ys.getD i .non])
    have q0:=step i (upd H' q (.tup [xs.getD i .non,ys.getD i .non])) q (fun y H6=>H6 p=some (.lst ((List.range i).map f))/\((List.range i).map f).length<sizeLine/\∃m',m'<n-i/\m'=n-(i+1)/\i+1<=n/\(List.range i).map f++ [y]=(List.range (i+1)).map f/\
        upd H6 p (.lst ((List.range i).map f++ [y])) p=some (.lst ((List.range i).map f++ [y]))/\Same H1 (upd H6 p (.lst ((List.range i).map f++ [y])))) hl (s.trans sq) Ad
      (fun H6 s6=>⟨s6 _ _ (sq _ _ hH),by rw [List.length_map,List.length_range];omega,_,by omega,rfl,hl,by rw [List.range_succ,List.map_append];rfl,Ad,su ((s.trans sq).trans s6)⟩)
    have eq:∀(R:VK) (B:Hp->Prop),(fun σ4 H4=>Kp cσ σ4/\Jb σ4 H4 fun b H5=>if b=true then te σ4 H5 R else B H5)=(fun σ4 H4=>Kp cσ σ4/\te σ4 H4 R):=fun R B=>by
      funext σ4 H4
      simp only [Jb,if_pos]
    rw [eq]
    exact q0
end L2
namespace L2
open PySem PySem.W PyProof.Rows
structure LO (n:Nat) (lt:Nat->Nat->Bool):Prop where
  tri:∀i j,i<n->j<n->i≠j->lt i j= !lt j i
  trans:∀i j k,i<n->j<n->k<n->lt i j=true->lt j k=true->lt i k=true
def KOk {α:Type} (lt:Nat->Nat->Bool) (n:Nat):KasT α->(α->Prop)->Prop
  | .ret a,P=>P a
  | .ask i j k,P=>i<n/\j<n/\i≠j/\KOk lt n (k (lt i j)) P
theorem KOk.bind {α β:Type}{lt:Nat->Nat->Bool}{n:Nat}{f:α->KasT β}{P:β->Prop}:∀ {t:KasT α},KOk lt n t (fun a=>KOk lt n (f a) P)->KOk lt n (t.bind f) P
  | .ret _,h=>h
  | .ask _ _ k,h=>⟨h.1,h.2.1,h.2.2.1,KOk.bind (t:=k _) h.2.2.2⟩
theorem KOk.mono {α:Type}{lt:Nat->Nat->Bool}{n:Nat}{P Q:α->Prop} (hq:∀a,P a->Q a):∀ {t:KasT α},KOk lt n t P->KOk lt n t Q
  | .ret a,h=>hq a h
  | .ask _ _ k,h=>⟨h.1,h.2.1,h.2.2.1,KOk.mono hq (t:=k _) h.2.2.2⟩
theorem KOk.wp {α:Type}{lt:Nat->Nat->Bool}{n:Nat}{I:Shared->Prop}{cmp:Nat->Nat->(Bool->Shared->Prop)->Shared->Prop}{P:α->Prop}{Q:α->Shared->Prop}
    (hc:∀i j C s,I s->i<n->j<n->i≠j->(∀s',I s'->C (lt i j) s')->cmp i j C s) (hq:∀a s,P a->I s->Q a s):∀ {t:KasT α}{s:Shared},I s->KOk lt n t P->t.kasWp cmp Q s
  | .ret a,s,i,h=>hq a s h i
  | .ask a b k,s,i,h=>hc a b _ s i h.1 h.2.1 h.2.2.1 fun s' i'=>KOk.wp hc hq (t:=k _) i' h.2.2.2
def aT (p:Array Nat) (i:Nat):Nat:=p.getD i 0
theorem Oq {p q:Array Nat}{i j:Nat} (h:p[i]? =q[j]?):aT p i=aT q j:=by
  unfold aT
  rw [Array.getD_eq_getD_getElem?,Array.getD_eq_getD_getElem?,h]
structure PM (n:Nat) (p:Array Nat):Prop where
  sz:p.size=n
  lt:∀i,i<n->aT p i<n
  ne:∀i j,i<n->j<n->i≠j->aT p i≠aT p j
  pm:p.toList.Perm (List.range n)
theorem PM.of {n:Nat}{p:Array Nat} (h:p.toList.Perm (List.range n)):PM n p:=by
  have sz:p.size=n:=by
    have:=h.length_eq
    simpa using this
  have nd:p.toList.Nodup:=h.nodup_iff.mpr List.nodup_range
  refine⟨sz,fun i hi=> ?_,fun i j hi hj hn e=> ?_,h⟩
  . have hi':i<p.size:=by omega
    have e:aT p i=p[i]:=by simp [aT,hi']
    have m:p[i]∈p.toList:=by simp
    rw [e]
    exact List.mem_range.mp (h.mem_iff.mp m)
  . have hi':i<p.toList.length:=by rw [Array.length_toList];omega
    have hj':j<p.toList.length:=by rw [Array.length_toList];omega
    have e1:aT p i=p.toList[i]:=by simp [aT,show i<p.size by omega]
    have e2:aT p j=p.toList[j]:=by simp [aT,show j<p.size by omega]
    have pw:=List.pairwise_iff_getElem.mp nd
    have e3:p.toList[i]=p.toList[j]:=by rw [<-e1,<-e2,e]
    rcases Nat.lt_or_gt_of_ne hn with l | l
    . exact pw i j hi' hj' l e3
    . exact pw j i hj' hi' l e3.symm
theorem PM.start (n:Nat):PM n (List.toArray (List.range n)):=PM.of (by simp)
theorem PM.perm {n:Nat}{p q:Array Nat} (h:PM n p) (e:q.Perm p):PM n q:=PM.of (e.toList.trans h.pm)
theorem PM.rev {n:Nat}{p:Array Nat} (h:PM n p) (i j:Nat):PM n (kas_rev p i j):=h.perm (mirror_perm _ _ _ _)
section
variable {n:Nat}{lt:Nat->Nat->Bool}
def StT (lt:Nat->Nat->Bool) (p:Array Nat) (k:Nat):Prop:=∀i j,i<j->j<k->lt (aT p i) (aT p j)=true
def DsT (lt:Nat->Nat->Bool) (p:Array Nat) (k:Nat):Prop:=∀i j,i<j->j<k->lt (aT p j) (aT p i)=true
theorem Mh (L:LO n lt) {p:Array Nat} (h:PM n p):∀(f m:Nat),1<=m->m+f<=n->StT lt p m->
    KOk lt n (kas_asc p f m) fun r=>m<=r/\r<=m+f/\StT lt p r/\(r<m+f->lt (aT p r) (aT p (r-1))=true)
  | 0,m,_,_,st=>⟨Nat.le_refl _,Nat.le_refl _,st,fun x=>absurd x (Nat.lt_irrefl _)⟩
  | f+1,m,h1,hm,st=>by
    refine⟨h.lt m (by omega),h.lt (m-1) (by omega),h.ne m (m-1) (by omega) (by omega) (by omega),?_⟩
    show KOk lt n (if lt (aT p m) (aT p (m-1))=true then KasT.ret m else kas_asc p f (m+1)) _
    by_cases c:lt (aT p m) (aT p (m-1))=true
    . rw [if_pos c]
      exact⟨Nat.le_refl _,by omega,st,fun _=>c⟩
    . rw [if_neg c]
      have c2:lt (aT p (m-1)) (aT p m)=true:=by
        have:=L.tri _ _ (h.lt m (by omega)) (h.lt (m-1) (by omega)) (h.ne m (m-1) (by omega) (by omega) (by omega))
        cases e:lt (aT p (m-1)) (aT p m)
        . rw [e]at this
          exact absurd this c
        . rfl
      have st':StT lt p (m+1):=fun i j hij hj=>by
        by_cases e:j=m
        . subst e
          by_cases e2:i=j-1
          . subst e2
            exact c2
          . exact L.trans _ _ _ (h.lt _ (by omega)) (h.lt _ (by omega)) (h.lt _ (by omega)) (st i (j-1) (by omega) (by omega)) c2
        . exact st i j hij (by omega)
      refine(Mh L h f (m+1) (by omega) (by omega) st').mono fun r hr=> ?_
      exact⟨by omega,by omega,hr.2.2.1,fun x=>hr.2.2.2 (by omega)⟩
theorem K8 (L:LO n lt) {p:Array Nat} (h:PM n p):∀(f m:Nat),1<=m->m+f<=n->DsT lt p m->
    KOk lt n (kas_desc f p m 0) fun r=>r.1=p/\r.2.2=0/\m<=r.2.1/\r.2.1<=m+f/\DsT lt p r.2.1
  | 0,m,_,_,st=>⟨rfl,rfl,Nat.le_refl _,Nat.le_refl _,st⟩
  | f+1,m,h1,hm,st=>by
    refine⟨h.lt m (by omega),h.lt (m-1) (by omega),h.ne m (m-1) (by omega) (by omega) (by omega),?_⟩
    show KOk lt n (if lt (aT p m) (aT p (m-1))=true then(if 0>0 then kas_desc f (kas_rev p (m-(0+1)) m) (m+1) 0 else kas_desc f p (m+1) 0)
      else .ask (aT p (m-1)) (aT p m) fun d=>if d=true then .ret (p,m,0)else kas_desc f p (m+1) (0+1)) _
    by_cases c:lt (aT p m) (aT p (m-1))=true
    . rw [if_pos c,if_neg (by omega)]
      have st':DsT lt p (m+1):=fun i j hij hj=>by
        by_cases e:j=m
        . subst e
          by_cases e2:i=j-1
          . subst e2
            exact c
          . exact L.trans _ _ _ (h.lt _ (by omega)) (h.lt _ (by omega)) (h.lt _ (by omega)) c (st i (j-1) (by omega) (by omega))
        . exact st i j hij (by omega)
      refine(K8 L h f (m+1) (by omega) (by omega) st').mono fun r hr=> ?_
      exact⟨hr.1,hr.2.1,by omega,by omega,hr.2.2.2.2⟩
    . rw [if_neg c]
      have c2:lt (aT p (m-1)) (aT p m)=true:=by
        have:=L.tri _ _ (h.lt m (by omega)) (h.lt (m-1) (by omega)) (h.ne m (m-1) (by omega) (by omega) (by omega))
        cases e:lt (aT p (m-1)) (aT p m)
        . rw [e]at this
          exact absurd this c
        . rfl
      refine⟨h.lt (m-1) (by omega),h.lt m (by omega),h.ne (m-1) m (by omega) (by omega) (by omega),?_⟩
      show KOk lt n (if lt (aT p (m-1)) (aT p m)=true then KasT.ret (p,m,0)else kas_desc f p (m+1) (0+1)) _
      rw [if_pos c2]
      exact⟨rfl,rfl,Nat.le_refl _,Nat.le_add_right _ _,st⟩
theorem Rr {p:Array Nat}{m:Nat} (hm:m<=p.size) (d:DsT lt p m):StT lt (kas_rev p 0 m) m:=fun i j hij hj=>by
  have e:∀k,k<m->aT (kas_rev p 0 m) k=aT p (0+m-1-k):=fun k hk=>Oq (by
    unfold kas_rev
    rw [getElem?_mirror_all hm,if_pos ⟨Nat.zero_le _,hk⟩])
  rw [e i (by omega),e j hj]
  exact d _ _ (by omega) (by omega)
theorem Ox (L:LO n lt) {p:Array Nat} (h:PM n p) (h1:1<=n):KOk lt n (kas_count n p) fun r=>PM n r.2/\1<=r.1/\r.1<=n/\StT lt r.2 r.1:=by
  unfold kas_count
  refine KOk.bind ((Mh L h (n-1) 1 (Nat.le_refl _) (by omega) fun i j hij hj=>by omega).mono fun r hr=> ?_)
  by_cases c:(r==n)=true
  . rw [if_pos c]
    exact⟨h,hr.1,by omega,hr.2.2.1⟩
  . rw [if_neg c]
    have c':r≠n:=fun e=>c (by simp [e])
    by_cases c1:r>1
    . rw [if_pos c1]
      refine⟨h.lt 0 (by omega),h.lt (r-1) (by omega),h.ne 0 (r-1) (by omega) (by omega) (by omega),?_⟩
      show KOk lt n (if lt (aT p 0) (aT p (r-1))=true then KasT.ret (r,p)else kas_descPart r n (kas_rev p 0 r)) _
      rw [if_pos (hr.2.2.1 0 (r-1) (by omega) (by omega))]
      exact⟨h,hr.1,by omega,hr.2.2.1⟩
    . rw [if_neg c1]
      have e:r=1:=by omega
      subst e
      have l:=hr.2.2.2 (by omega)
      unfold kas_descPart
      refine KOk.bind ((K8 L h (n-(1+1)) (1+1) (by omega) (by omega) fun i j hij hj=> ?_).mono fun r hr=> ?_)
      . have e1:i=0:=by omega
        have e2:j=1:=by omega
        subst e1 e2
        exact l
      . obtain⟨q,m,z⟩:=r
        obtain⟨e1,e2,a1,a2,a3⟩:=hr
        dsimp only at e1 e2 a1 a2 a3 ⊢
        subst e1 e2
        rw [if_neg (by omega)]
        unfold kas_tail3
        have hz:=h.sz
        refine KOk.bind ((Mh L (h.rev 0 m) (n-m) m (by omega) (by omega) (Rr (by omega) a3)).mono fun r hr=> ?_)
        exact⟨h.rev 0 m,by omega,by omega,hr.2.2.1⟩
theorem G6 (L:LO n lt) {p:Array Nat} (h:PM n p) {k:Nat} (hk:k<n) (st:StT lt p k):∀(f l r:Nat),l<=r->r<=k->r-l<=f->(∀i,i<l->lt (aT p i) (aT p k)=true)->(∀i,r<=i->i<k->lt (aT p k) (aT p i)=true)->
    KOk lt n (kas_place p k f l r) fun l=>l<=k/\(∀i,i<l->lt (aT p i) (aT p k)=true)/\(∀i,l<=i->i<k->lt (aT p k) (aT p i)=true)
  | 0,l,r,h1,h2,h3,a,b=>⟨by omega,a,fun i hi=>b i (by omega)⟩
  | f+1,l,r,h1,h2,h3,a,b=>by
    show KOk lt n (if l>=r then KasT.ret l else .ask (aT p k) (aT p ((l+r)/2)) fun c=>if c=true then kas_place p k f l ((l+r)/2)else kas_place p k f ((l+r)/2+1) r) _
    by_cases c:l>=r
    . rw [if_pos c]
      exact⟨by omega,a,fun i hi=>b i (by omega)⟩
    . rw [if_neg c]
      have hm:(l+r)/2<k:=by omega
      refine⟨h.lt k hk,h.lt _ (by omega),h.ne k _ hk (by omega) (by omega),?_⟩
      show KOk lt n (if lt (aT p k) (aT p ((l+r)/2))=true then kas_place p k f l ((l+r)/2)else kas_place p k f ((l+r)/2+1) r) _
      by_cases c1:lt (aT p k) (aT p ((l+r)/2))=true
      . rw [if_pos c1]
        refine G6 L h hk st f l ((l+r)/2) (by omega) (by omega) (by omega) a fun i hi hik=> ?_
        by_cases e:i=(l+r)/2
        . rw [e]
          exact c1
        . exact L.trans _ _ _ (h.lt _ hk) (h.lt _ (by omega)) (h.lt _ (by omega)) c1 (st _ _ (by omega) hik)
      . rw [if_neg c1]
        have c2:lt (aT p ((l+r)/2)) (aT p k)=true:=by
          have:=L.tri _ _ (h.lt k hk) (h.lt ((l+r)/2) (by omega)) (h.ne k _ hk (by omega) (by omega))
          cases e:lt (aT p ((l+r)/2)) (aT p k)
          . rw [e]at this
            exact absurd this c1
          . rfl
        refine G6 L h hk st f ((l+r)/2+1) r (by omega) h2 (by omega) (fun i hi=> ?_) b
        by_cases e:i=(l+r)/2
        . rw [e]
          exact c2
        . exact L.trans _ _ _ (h.lt _ (by omega)) (h.lt _ (by omega)) (h.lt _ hk) (st _ _ (by omega) (by omega)) c2
theorem Pj (L:LO n lt):∀(f:Nat) (p:Array Nat) (k:Nat),PM n p->k+f=n->StT lt p k->KOk lt n (kas_bin f p k) fun q=>PM n q/\StT lt q n
  | 0,p,k,h,e,st=>⟨h,by rw [<-e];exact st⟩
  | f+1,p,k,h,e,st=>by
    unfold kas_bin
    have hk:k<n:=by omega
    refine KOk.bind ((G6 L h hk st k 0 k (Nat.zero_le _) (Nat.le_refl _) (by omega) (fun i hi=>by omega) fun i h1 h2=>by omega).mono fun l hl=> ?_)
    obtain⟨l1,l2,l3⟩:=hl
    refine Pj L f _ (k+1) (h.perm (bubble_perm _ _ _)) (by omega) fun i j hij hj=> ?_
    have hz:=h.sz
    have g:∀i,aT (bubble p k (k-l)) i=if i=l then aT p k else if l<i/\i<=k then aT p (i-1)else aT p i:=fun i=>by
      have:=getElem?_bubble (xs:=p) (src:=k) (by omega) (k-l) (by omega) i
      rw [show k-(k-l)=l by omega]at this
      split
      . rename_i c
        rw [if_pos c]at this
        exact Oq this
      . rename_i c
        rw [if_neg c]at this
        split
        . rename_i c2
          rw [if_pos c2]at this
          exact Oq this
        . rename_i c2
          rw [if_neg c2]at this
          exact Oq this
    rw [g i,g j]
    by_cases ei:i=l
    . rw [if_pos ei,if_neg (by omega),if_pos (by omega)]
      exact l3 _ (by omega) (by omega)
    . rw [if_neg ei]
      by_cases ej:j=l
      . rw [if_neg (by omega),if_pos ej]
        exact l2 _ (by omega)
      . rw [if_neg ej]
        by_cases ci:l<i/\i<=k
        . rw [if_pos ci,if_pos (by omega)]
          exact st _ _ (by omega) (by omega)
        . rw [if_neg ci]
          by_cases cj:l<j/\j<=k
          . rw [if_pos cj]
            by_cases e3:i=j-1
            . omega
            . exact st _ _ (by omega) (by omega)
          . rw [if_neg cj]
            exact st _ _ (by omega) (by omega)
theorem Ra (L:LO n lt) (h1:1<=n):KOk lt n (kas_sort n) fun q=>PM n q/\StT lt q n:=by
  unfold kas_sort
  refine KOk.bind ((Ox L (PM.start n) h1).mono fun r hr=> ?_)
  obtain⟨a1,a2,a3,a4⟩:=hr
  by_cases c:r.1<n
  . rw [if_pos c]
    have e:max r.1 1=r.1:=by omega
    rw [e]
    exact Pj L _ _ _ a1 (by omega) a4
  . rw [if_neg c]
    have e:r.1=n:=by omega
    rw [e]at a4
    exact⟨a1,a4⟩
end
end L2
namespace L2
open PySem PySem.Spec PySem.Calls PyProof.Rows PySem.W
theorem Jl:∀ns ms:List Int,ns≠ms->HT.lexLt ns ms= !HT.lexLt ms ns
  | [],[],h=>absurd rfl h
  | [],_::_,_=>rfl
  | _::_,[],_=>rfl
  | x::xs,y::ys,h=>by
    rw [HT.Bt,HT.Bt]
    by_cases e:x=y
    . subst e
      rw [if_pos rfl,if_pos rfl]
      exact Jl xs ys fun z=>h (by rw [z])
    . rw [if_neg e,if_neg (Ne.symm e)]
      by_cases l:x<y
      . rw [decide_eq_true l,decide_eq_false (by omega)]
        rfl
      . rw [decide_eq_false l,decide_eq_true (by omega)]
        rfl
theorem lex_trans:∀ns ms ls:List Int,HT.lexLt ns ms=true->HT.lexLt ms ls=true->HT.lexLt ns ls=true
  | [],[],_,h,_=>by cases h
  | [],_::_,[],_,h=>by cases h
  | [],_::_,_::_,_,_=>rfl
  | _::_,[],_,h,_=>by cases h
  | _::_,_::_,[],_,h=>by cases h
  | x::xs,y::ys,z::zs,h1,h2=>by
    rw [HT.Bt]at h1 h2 ⊢
    by_cases e:x=y
    . subst e
      rw [if_pos rfl]at h1
      by_cases e2:x=z
      . rw [if_pos e2]at h2 ⊢
        exact lex_trans xs ys zs h1 h2
      . rw [if_neg e2]at h2 ⊢
        exact h2
    . rw [if_neg e]at h1
      have l1:=of_decide_eq_true h1
      by_cases e2:y=z
      . subst e2
        rw [if_neg e]
        exact h1
      . rw [if_neg e2]at h2
        have l2:=of_decide_eq_true h2
        rw [if_neg (by omega)]
        exact decide_eq_true (by omega)
theorem Gj {P:Program}{w:World}:∀ {ns:List Int}{us:List Value},IntsAre us ns->ItemsAre (intKind P w) ns us
  | _,_,.nil=> .nil
  | _,_,.cons n t r=> .cons (by show Value.isInt n (.int n t)=true;simp [Value.isInt]) (Gj r)
theorem Gi {prog:Program}{w:World}{A:Around}{E:Value->Shared->Prop}{s:Shared}{a:Addr}{vs:List Value}{n:Nat}{P:PySem.Fin->Shared->Prop}{κ:SortKind}{lt:Nat->Nat->Bool}
    (ho:s.heap.get? a=some (seqObj "list" vs.toArray n)) (h64:vs.length<64) (L:LO vs.length lt)
    (hk:2<=vs.length->∀h':Heap,(∀b o,b≠a->s.heap.get? b=some o->h'.get? b=some o)->wpAny (model prog w) A (keyKind' vs.toArray) (fun κ' s'=>κ'=κ/\s'={ s with heap:=h'}) (fun _ _=>False) { s with heap:=h'})
    (hc:∀(h':Heap) (i j:Nat) (C:Bool->Shared->Prop),(∀b o,b≠a->s.heap.get? b=some o->h'.get? b=some o)->i<vs.length->j<vs.length->i≠j->C (lt i j) { s with heap:=h'}->kas_ask prog w A κ vs i j C { s with heap:=h'})
    (h:∀p:Array Nat,PM vs.length p->StT lt p vs.length->P (.done (.ret .none)) { s with heap:=sortedHeap s.heap a vs (List.toArray (p.toList.map fun i=>vs.getD i Value.none))}):
    wpAny (model prog w) A (Builtin.«list.sort» ⟨[.ref a],[]⟩) P E s:=by
  have ha:a<s.heap.objs.size:=Heap.lt_size ho
  obtain⟨e1,ho1⟩:∃e1,(s.heap.update a (Obj.mapSeq fun _=>(#[]:Array Value))).get? a=some (seqObj "list" #[] e1):=⟨_,get?_update_seq ho fun _=> #[]⟩
  rw [list_sort_plain]
  refine wpAny_bind (listItems_at ho rfl ?_)
  refine wpAny_bind (listUpdate_at ho rfl ?_ (by rw [List.size_toArray,sizeLine_eq];omega) (Nat.zero_le _))
  refine wpAny_bind (seqEpoch_at ho1 rfl ?_)
  refine wpAny_bind (wpAny_newTuple ?_ (by show vs.length<=_;rw [sizeLine_eq];omega))
  refine wpAny_bind (wpAny_newList ?_ (Nat.zero_le _))
  refine wpAny_holding ?_
  show wpAny (model prog w) A _ P E { s with heap:=((s.heap.update a (Obj.mapSeq fun _=>(#[]:Array Value))).push (seqObj "tuple" vs.toArray 0)).push (seqObj "list" #[] 0)}
  dsimp only
  have ho6:(((s.heap.update a (Obj.mapSeq fun _=>(#[]:Array Value))).push (seqObj "tuple" vs.toArray 0)).push (seqObj "list" #[] 0)).get? a=some (seqObj "list" #[] e1):=by
    rw [Heap.get?_push_ne _ _ _ (by rw [size_push',Heap.size_update];exact Nat.ne_of_lt (Nat.lt_succ_of_lt ha)),Heap.get?_push_ne _ _ _ (by rw [Heap.size_update];exact Nat.ne_of_lt ha)]
    exact ho1
  have kp:∀b o,b≠a->s.heap.get? b=some o->(((s.heap.update a (Obj.mapSeq fun _=>(#[]:Array Value))).push (seqObj "tuple" vs.toArray 0)).push (seqObj "list" #[] 0)).get? b=some o:=fun b o hb e=>by
    have hlt:b<s.heap.objs.size:=Heap.lt_size e
    rw [Heap.get?_push_ne _ _ _ (by rw [size_push',Heap.size_update];exact Nat.ne_of_lt (Nat.lt_succ_of_lt hlt)),Heap.get?_push_ne _ _ _ (by rw [Heap.size_update];exact Nat.ne_of_lt hlt),Heap.get?_update_ne _ _ _ _ hb]
    exact e
  by_cases h2:vs.toArray.size<2
  . rw [if_pos h2,if_pos h2]
    refine wpAny_bind (wpAny_pure ?_)
    rw [StateT.run_pure]
    refine wpAny_bind (wpAny_pure ?_)
    dsimp only
    have hl:vs.length<2:=by rw [List.size_toArray]at h2;exact h2
    have hout:(arrOf (SortSt.mk' general' (vs.toArray.zip vs.toArray) #[] 7 none)).map (·.2)=List.toArray ((List.toArray (List.range vs.length)).toList.map fun i=>vs.getD i Value.none):=by
      show(vs.toArray.zip vs.toArray).map (·.2)=_
      match vs,hl with
      | [],_=>simp
      | [v],_=>simp [List.range_succ]
    rw [hout]
    refine wpAny_bind (seqEpoch_at ho6 rfl ?_)
    refine wpAny_bind (listUpdate_at ho6 rfl ?_ (Nat.zero_le _) (by rw [List.size_toArray,List.length_map,sizeLine_eq];simp;omega))
    simp only [bne_self_eq_false,Bool.false_eq_true,if_false]
    exact wpAny_pure (h _ (PM.start _) fun i j hij hj=>by omega)
  . rw [if_neg h2,if_neg h2]
    have hl:2<=vs.length:=by rw [List.size_toArray]at h2;omega
    refine wpAny_bind (wpAny_mono (hk hl _ kp) (fun κ' s0 hh=> ?_) fun _ _ x=>x.elim)
    obtain⟨rfl,rfl⟩:=hh
    have ask:=KOk.wp (I:=fun s'=>s'={ s with heap:=((s.heap.update a (Obj.mapSeq fun _=>(#[]:Array Value))).push (seqObj "tuple" vs.toArray 0)).push (seqObj "list" #[] 0)})
      (cmp:=kas_ask prog w A κ' vs) (Q:=fun p s'=>(PM vs.length p/\StT lt p vs.length)/\s'={ s with heap:=((s.heap.update a (Obj.mapSeq fun _=>(#[]:Array Value))).push (seqObj "tuple" vs.toArray 0)).push (seqObj "list" #[] 0)})
      (fun i j C s' e hi hj hn q=>by subst e;exact hc _ i j C kp hi hj hn (q _ rfl)) (fun p s' hp e=>⟨hp,e⟩) rfl (Ra L (by omega))
    refine wpAny_bind (wpAny_mono (kat_run (Q:=fun st' s'=>∃p:Array Nat,p.size=vs.length/\arrOf st'=p.map (kas_item (vs.toArray.zip vs.toArray))/\failedOf st'=none/\(PM vs.length p/\StT lt p vs.length)/\s'={ s with heap:=((s.heap.update a (Obj.mapSeq fun _=>(#[]:Array Value))).push (seqObj "tuple" vs.toArray 0)).push (seqObj "list" #[] 0)})
      rfl hl h64 (fun p' st' s' a1 a2 a3 a4=>⟨p',a1,a2,a3,a4⟩) ask) ?_ fun _ _ e=>e)
    rintro⟨⟨⟩,st'⟩ s' ⟨p,hp,har,hf,hP,rfl⟩
    dsimp only
    have hout:=kat_snds rfl har
    have hsz:(List.toArray (p.toList.map fun i=>vs.getD i Value.none)).size=vs.length:=by rw [List.size_toArray,List.length_map,Array.length_toList,hp]
    rw [hout]
    refine wpAny_bind (seqEpoch_at ho6 rfl ?_)
    refine wpAny_bind (listUpdate_at ho6 rfl ?_ (Nat.zero_le _) (Nat.le_trans (Nat.le_of_eq hsz) (by rw [sizeLine_eq];omega)))
    rw [hf]
    simp only [bne_self_eq_false,Bool.false_eq_true,if_false]
    exact wpAny_pure (h p hP.1 hP.2)
abbrev Prt:=Addr × Addr × List Int × V
def Prt.ks (t:Prt):List Int:=t.2.2.1
structure Ub (K:PySem.W.Frag) (H:Hp) (t:Prt):Prop where
  pr:SqT K H t.1 [.ref t.2.1,t.2.2.2]
  tu:SqT K H t.2.1 (t.ks.map V.int)
theorem Ms:∀ {as:List Addr}{us:List Value},Vals (as.map V.ref) us->us=as.map Value.ref
  | [],_,.nil=>rfl
  | _::_,_,.cons r t=>by
    cases r
    rw [Ms t]
    rfl
theorem Hl:∀as:List Addr,Vals (as.map V.ref) (as.map Value.ref)
  | []=> .nil
  | _::r=> .cons rfl (Hl r)
structure Ni (P:Program) (w:World) (h:Heap) (t:Prt):Prop where
  pr:∃o xs n u,h.get? t.1=some o/\o.cls= .type "tuple"/\o.data= .seq xs n/\xs.toList=[.ref t.2.1,u]
  tu:∃its:List Value,IsTup h t.2.1 its.toArray/\IntsAre its t.ks
theorem Ni.keeps {P:Program}{w:World}{h h':Heap}{a:Addr}{t:Prt} (x:Ni P w h t) (k:∀b o,b≠a->h.get? b=some o->h'.get? b=some o) (h1:t.1≠a) (h2:t.2.1≠a):Ni P w h' t:=by
  obtain⟨⟨o,xs,n,u,e,r⟩,its,⟨ot,et,rt⟩,i⟩:=x
  exact⟨⟨o,xs,n,u,k _ _ h1 e,r⟩,its,⟨ot,k _ _ h2 et,rt⟩,i⟩
theorem Ub.at {X:Cx}{pins:List (Addr × Obj)}{σ:St}{H:Hp}{s:Shared}{t:Prt} (I:Inv X pins σ H s) (x:Ub X.K H t):Ni X.prog X.w s.heap t/\t.1<s.heap.objs.size/\t.2.1<s.heap.objs.size:=by
  obtain⟨its,r,⟨o,e,c,n,d⟩,_⟩:=I.tuple x.pr
  obtain⟨its2,r2,p2,_⟩:=I.tuple x.tu
  refine⟨⟨?_,its2,p2,intsAre_of r2⟩,Heap.lt_size e,p2.lt⟩
  cases r with
  | cons r1 r'=>
    cases r1
    cases r' with
    | cons r3 r4=>
      cases r4
      exact⟨o,_,n,_,e,c,d,rfl⟩
theorem Jw {P:Program}{w:World}{h:Heap}:∀ts:List Prt,(∀t∈ts,Ni P w h t)->KatTups h (ts.map fun t=>Value.ref t.1) (ts.map fun t=>Value.ref t.2.1)
  | [],_=> .nil
  | t::r,k=>by
    obtain⟨o,xs,n,u,e,c,d,x⟩:=(k t (.head _)).pr
    exact KatTups.cons e c d (by rw [<-Array.getElem?_toList,x];rfl) (Jw r fun t ht=>k t (.tail _ ht))
theorem Vk {P:Program}{w:World}{A:Around}{E:Value->Shared->Prop}{s:Shared}{x y:Prt}{Q:Bool->Shared->Prop} (hu:A.units<cLine) (hx:Ni P w s.heap x) (hy:Ni P w s.heap y) (hn:x.ks≠y.ks) (q:Q (HT.lexLt x.ks y.ks) s):
    wpAny (model P w) A (keyLt' (tuples' false) (.ref x.1) (.ref y.1)) Q E s:=by
  obtain⟨o,xs,n,u,e,c,d,ex⟩:=hx.pr
  obtain⟨o',ys,n',u',e',c',d',ey⟩:=hy.pr
  obtain⟨its,t1,i1⟩:=hx.tu
  obtain⟨its',t2,i2⟩:=hy.tu
  refine kat_lt e d e' d' ?_
  rw [ex,ey]
  have k1:IsTupleKey (intKind P w) s.heap x.ks x.2.1:=by
    obtain⟨ot,et,ct,nt,dt⟩:=t1
    exact⟨ot,_,nt,et,ct,dt,Gj i1⟩
  have k2:IsTupleKey (intKind P w) s.heap y.ks y.2.1:=by
    obtain⟨ot,et,ct,nt,dt⟩:=t2
    exact⟨ot,_,nt,et,ct,dt,Gj i2⟩
  refine kat_cons (wpAny_eqBool_tuple hu k1 k2 ?_)
  rw [decide_eq_false hn]
  refine kat_no (kat_one _ _ ?_)
  exact HT.Fq t1 t2 i1 i2 hu q
theorem Kl {X:Cx} (hu:X.A.units+64<cLine):Dj X (.builtin "sorted") (fun xs H Q=>∃(d:Addr) (ts:List Prt),xs=[.ref d]/\SqL X.K H d (ts.map fun t=>V.ref t.1)/\(∀t∈ts,Ub X.K H t)/\(ts.map Prt.ks).Nodup/\ts.length<64/\
    ∀(l:Addr) (us:List Prt),H l=none->us.Perm ts->us.Pairwise (fun x y=>HT.lexLt x.ks y.ks=true)->Q (.ref l) (upd H l (.lst (us.map fun t=>V.ref t.1)))):=by
  intro pins s σ H xs us Q I r h
  obtain⟨d,ts,rfl,hd,hp,nd,h64,q⟩:=h
  obtain⟨u,rfl,ru⟩:=vals1 r
  cases ru
  obtain⟨its,rv,⟨oL,nL,eL,cL,dL,sL⟩,hz⟩:=I.list hd
  have ev:its=ts.map fun t=>Value.ref t.1:=by
    have:=Ms (as:=ts.map fun t=>t.1) (us:=its) (by simpa [List.map_map,Function.comp_def]using rv)
    simpa [List.map_map,Function.comp_def]using this
  have hl:its.length=ts.length:=by rw [ev,List.length_map]
  have hIsL:s.heap.IsList d its.toArray:=⟨oL,eL,cL,nL,sL⟩
  have hat:∀t∈ts,Ni X.prog X.w s.heap t/\t.1<s.heap.objs.size/\t.2.1<s.heap.objs.size:=fun t ht=>(hp t ht).at I
  have hget:∀i (hi:i<its.length),its.getD i Value.none= .ref (ts[i]'(by omega)).1:=fun i hi=>by
    subst ev
    simp only [List.length_map]at hi
    simp [hi]
  refine call_function_entry kind_sorted plain_sorted entry_sorted (args_sorted1 _) ?_
  unfold Builtin.«sorted»
  refine wpAny_bind (m:=checkCount "sorted" 1 1 _) (wpAny_pure ?_)
  refine wpAny_bind (collect_list hIsL ?_ (by rw [sizeLine_eq];omega))
  refine wpAny_bind (wpAny_newList ?_ (by rw [sizeLine_eq];omega))
  have hsz:((s.heap.push (seqObj "list" #[] 0)).update s.heap.objs.size (Obj.mapSeq (· ++its.toArray))).objs.size=s.heap.objs.size+1:=by
    rw [Heap.size_update,size_push']
  have hoL:(((s.heap.push (seqObj "list" #[] 0)).update s.heap.objs.size (Obj.mapSeq (· ++its.toArray))).push (seqObj "list" its.toArray 0)).get? (s.heap.objs.size+1)=some (seqObj "list" its.toArray 0):=by
    rw [<-hsz];exact Heap.get?_push_size _ rfl
  have keep:∀b o,s.heap.get? b=some o->(((s.heap.push (seqObj "list" #[] 0)).update s.heap.objs.size (Obj.mapSeq (· ++its.toArray))).push (seqObj "list" its.toArray 0)).get? b=some o:=fun b o q=>by
    have hlt:b<s.heap.objs.size:=Heap.lt_size q
    rw [Heap.get?_push_ne _ _ _ (by rw [hsz];exact Nat.ne_of_lt (Nat.lt_succ_of_lt hlt)),Heap.get?_update_ne _ _ _ _ (Nat.ne_of_lt hlt),Heap.get?_push_ne _ _ _ (Nat.ne_of_lt hlt)]
    exact q
  show wpAny _ _ _ _ _ { s with heap:=((s.heap.push (seqObj "list" #[] 0)).update s.heap.objs.size (Obj.mapSeq (· ++its.toArray))).push (seqObj "list" its.toArray 0)}
  rw [hsz]
  generalize ((s.heap.push (seqObj "list" #[] 0)).update s.heap.objs.size (Obj.mapSeq (· ++its.toArray))).push (seqObj "list" its.toArray 0)=g at hoL keep ⊢
  have hatg:∀h':Heap,(∀b o,b≠s.heap.objs.size+1->g.get? b=some o->h'.get? b=some o)->∀t∈ts,Ni X.prog X.w h' t:=fun h' k t ht=>by
    obtain⟨x,l1,l2⟩:=hat t ht
    exact(x.keeps (a:=s.heap.objs.size+1) (fun b o _ e=>keep b o e) (Nat.ne_of_lt (Nat.lt_succ_of_lt l1)) (Nat.ne_of_lt (Nat.lt_succ_of_lt l2))).keeps k (Nat.ne_of_lt (Nat.lt_succ_of_lt l1)) (Nat.ne_of_lt (Nat.lt_succ_of_lt l2))
  have L:LO its.length (fun i j=>HT.lexLt ((ts.map Prt.ks).getD i []) ((ts.map Prt.ks).getD j [])):=by
    refine⟨fun i j hi hj hn=>Jl _ _ fun e=> ?_,fun i j k _ _ _=>lex_trans _ _ _⟩
    have pw:=List.pairwise_iff_getElem.mp nd
    have hi':i<(ts.map Prt.ks).length:=by rw [List.length_map];omega
    have hj':j<(ts.map Prt.ks).length:=by rw [List.length_map];omega
    have e3:(ts.map Prt.ks)[i]=(ts.map Prt.ks)[j]:=by
      rw [List.getD_eq_getElem?_getD,List.getD_eq_getElem?_getD,List.getElem?_eq_getElem hi',List.getElem?_eq_getElem hj']at e
      exact e
    rcases Nat.lt_or_gt_of_ne hn with l | l
    . exact pw i j hi' hj' l e3
    . exact pw j i hj' hi' l e3.symm
  refine wpAny_bind (wpAny_holding (wpAny_call_entry slot_list_sort ⟨_,hoL,rfl⟩ entry_list_sort (Gi (κ:=tuples' false) (n:=0) hoL (by omega) L (fun h2 h' k=> ?_) (fun h' i j C k hi hj hn hC=> ?_) fun p hP hS=>⟨_,rfl,?_⟩) (args_list_sort _)))
  . rw [ev]
    refine kat_kind (T:= .type "tuple") (fs:=ts.map fun t=>Value.ref t.2.1) (Jw ts (hatg h' k)) (by rw [List.length_map];omega) (fun v hv=> ?_) (by simp) ⟨by simp,rfl⟩
    obtain⟨t,ht,rfl⟩:=List.mem_map.mp hv
    obtain⟨its2,⟨o,e,c,_⟩,_⟩:=(hatg h' k t ht).tu
    rw [<-c]
    exact(Looks.ld e).andThen .now
  . unfold kas_ask
    rw [hget i hi,hget j hj]
    have e:∀i (hi:i<its.length),(ts.map Prt.ks).getD i []=(ts[i]'(by omega)).ks:=fun i hi=>by
      rw [hl]at hi
      simp [hi]
    rw [e i hi,e j hj]at hC
    refine Vk ?_ (hatg h' k _ (List.getElem_mem _)) (hatg h' k _ (List.getElem_mem _)) (fun z=> ?_) hC
    . show X.A.units+2<cLine
      omega
    . have z2:=L.tri i j hi hj hn
      rw [e i hi,e j hj,z]at z2
      simp at z2
  . refine wpAny_pure ⟨_,rfl,?_⟩
    have eo:(p.toList.map fun i=>its.getD i Value.none)=(p.toList.map fun i=>ts.getD i (0,0,[],V.non)).map fun t=>Value.ref t.1:=by
      rw [List.map_map]
      refine List.map_congr_left fun i hi=> ?_
      have hi2:i<its.length:=List.mem_range.mp (hP.pm.mem_iff.mp hi)
      rw [hget i hi2]
      show _=Value.ref (ts.getD i _).1
      rw [hl]at hi2
      simp [hi2]
    have hpm:(p.toList.map fun i=>ts.getD i (0,0,[],V.non)).Perm ts:=by
      have h1:=hP.pm.map fun i=>ts.getD i ((0,0,[],V.non):Prt)
      have h2:(List.range its.length).map (fun i=>ts.getD i ((0,0,[],V.non):Prt))=ts:=by
        rw [hl]
        refine List.ext_getElem (by simp) fun i a b=> ?_
        simp only [List.length_map,List.length_range]at a
        simp [a]
      rw [h2]at h1
      exact h1
    have hpw:(p.toList.map fun i=>ts.getD i ((0,0,[],V.non):Prt)).Pairwise (fun x y=>HT.lexLt x.ks y.ks=true):=by
      refine List.pairwise_iff_getElem.mpr fun i j hi hj hij=> ?_
      have hz2:(p.toList.map fun i=>ts.getD i ((0,0,[],V.non):Prt)).length=its.length:=by rw [List.length_map,Array.length_toList,hP.sz]
      have g:∀i (hi:i<(p.toList.map fun i=>ts.getD i ((0,0,[],V.non):Prt)).length),((p.toList.map fun i=>ts.getD i ((0,0,[],V.non):Prt))[i]).ks=(ts.map Prt.ks).getD (aT p i) []:=fun i hi=>by
        have hi1:i<p.size:=by rw [hP.sz,<-hz2];exact hi
        have ea:p.toList[i]'(by rw [Array.length_toList];exact hi1)=aT p i:=by simp [aT,hi1]
        have hb:aT p i<ts.length:=by rw [<-hl];exact hP.lt i (by rw [<-hP.sz];exact hi1)
        rw [List.getElem_map,ea]
        simp [hb]
      rw [g i hi,g j hj]
      exact hS i j hij (by rw [<-hz2];exact hj)
    obtain⟨e,he⟩:=sortedHeap_at (out:=List.toArray (p.toList.map fun i=>its.getD i Value.none)) hoL
    have kp:∀b o,s.heap.get? b=some o->(sortedHeap g (s.heap.objs.size+1) its (List.toArray (p.toList.map fun i=>its.getD i Value.none))).get? b=some o:=fun b o e1=>by
      have lt:b<s.heap.objs.size:=Heap.lt_size e1
      rw [sortedHeap_old (Nat.ne_of_lt (Nat.lt_succ_of_lt lt)) (Heap.lt_size (keep b o e1))]
      exact keep b o e1
    have hlen:(p.toList.map fun i=>ts.getD i ((0,0,[],V.non):Prt)).length<=sizeLine:=by rw [hpm.length_eq,sizeLine_eq];omega
    refine⟨.ref (s.heap.objs.size+1),_,I.laid (a:=s.heap.objs.size+1) (t':=s.toks) (o:= .lst ((p.toList.map fun i=>ts.getD i ((0,0,[],V.non):Prt)).map fun t=>V.ref t.1)) kp (Nat.le_succ _) ⟨by rw [List.length_map];exact hlen,p.toList.map fun i=>its.getD i Value.none,e,?_,he⟩,rfl,q _ _ (I.hok.fresh (Nat.le_succ _)) hpm hpw⟩
    rw [eo]
    have:=Hl ((p.toList.map fun i=>ts.getD i ((0,0,[],V.non):Prt)).map fun t=>t.1)
    simpa [List.map_map,Function.comp_def]using this
end L2
namespace L2
open PySem PySem.Spec PyProof.Rows
section
variable {prog:Program}{w:World}{A:Around}{E:Value->Shared->Prop}{s:Shared}
theorem Oo {v d:Addr}{o:Obj}{es:Array DictEntry}{ep:Nat}{Q:Value->Shared->Prop} (hv:s.heap.IsItemsView v d) (ho:s.heap.get? d=some o) (hdat:o.data= .dict es ep)
    (hQ:Q (.ref s.heap.objs.size) { s with heap:=s.heap.push { cls:= .type "dict_itemiterator",data:= .fields #[.none,.bool false,.ref d,.int 0 0,.int es.size 0,.int ep 0,.none,.none]}}):wpAny (model prog w) A (pyIter (.ref v)) Q E s:=by
  obtain⟨ov,hov,hcv,hdv⟩:=id hv
  refine wpAny_pyIter_slot hv.typeIs F.slot_dict_items_iter (wpAny_call_entry F.slot_dict_items_iter hv.typeIs F.entry_dict_items_iter ?_ (F.args_dict_items_iter_1 _))
  unfold Builtin.«dict_items.__iter__»
  refine wpAny_bind (wpAny_pure (wpAny_bind ?_))
  unfold Builtin.Dict_items.dictOf
  refine wpAny_bind (wpAny_field hov hdv (x:= .ref d) rfl (wpAny_pure (wpAny_bind ?_)))
  unfold Builtin.Dict_items.newIterator
  refine wpAny_bind (wpAny_dictEntries ho hdat (wpAny_bind (wpAny_dictEpoch ho hdat ?_)))
  have hown:Builtin.Dict_items.ownsTuple "dict_itemiterator"=true:=by decide
  simp only [hown,if_true]
  refine wpAny_newObj_type (wpAny_pure ⟨_,rfl,"dict_itemiterator",_,⟨_,Heap.get?_push_size _ rfl,rfl⟩,F.slot_dict_itemiterator_next.lookup,?_⟩)
    (by simp only [sizeOk,Builtin.Dict_items.ownedTupleFields,List.size_toArray,List.length_append,List.length_cons,List.length_nil,sizeLine_eq];omega)
  simpa [rawInt,Builtin.Dict_items.ownedTupleFields]using hQ
theorem Ot {it d:Addr}{i ep:Nat}{od:Obj}{es:Array DictEntry}{e:DictEntry}{ok ov:Value}{Q:Option Value->Shared->Prop} (hit:IsItemIter s.heap it d i es.size ep ok ov) (hod:s.heap.get? d=some od) (hdd:od.data= .dict es ep) (he:es[i]? =some e)
    (hQ:∀h',IsItemIterOut h' it d (i+1) es.size ep e.key e.val s.heap.objs.size->h'.get? s.heap.objs.size=some { cls:= .type "tuple",data:= .seq #[e.key,e.val]}->h'.objs.size=s.heap.objs.size+1->
      (∀b o,b≠it->s.heap.get? b=some o->h'.get? b=some o)->Q (some (.ref s.heap.objs.size)) { s with heap:=h'}):wpAny (model prog w) A (pyNext (.ref it)) Q E s:=by
  obtain⟨hp,g,dr,tk,os⟩:=s
  have hT:Shared.TypeIs ⟨hp,g,dr,tk,os⟩ (.ref it) "dict_itemiterator":=⟨_,hit,rfl⟩
  unfold pyNext
  refine wpAny_bind (wpAny_attempt (wpAny_callSpecial?_slot (name:=Str.ofString "__next__") hT F.slot_dict_itemiterator_next
    (wpAny_call_entry F.slot_dict_itemiterator_next hT F.entry_dict_itemiterator_next ?_ (F.args_dict_itemiterator_next_1 _))))
  refine wpAny_bind (wpAny_pure (wpAny_bind (wpAny_bind ?_)))
  first | refine wpAny_bind (wpAny_typeNameOfWhole_itemiter hT (wpAny_pure ?_)) | refine wpAny_bind (wpAny_typeNameOf_itemiter hT (wpAny_pure ?_))
  refine wpAny_bind (wpAny_fieldsOf hit rfl ?_)
  have hown:Builtin.Dict_items.ownsTuple "dict_itemiterator"=true:=by decide
  simp only [hown,if_true]
  show wpAny _ _ (if(Value.ref d==Value.none)=true then _ else _) _ _ _
  rw [if_neg (show ¬((Value.ref d==Value.none)=true)from Bool.false_ne_true)]
  refine wpAny_bind (wpAny_pure (wpAny_bind (wpAny_dictEntries hod hdd ?_)))
  rw [if_neg (by simp)]
  refine wpAny_bind (wpAny_pure (wpAny_bind (wpAny_dictEpoch hod hdd ?_)))
  rw [if_neg (by simp)]
  refine wpAny_pure ?_
  obtain⟨hlt',rfl⟩:=Array.getElem?_eq_some_iff.mp he
  simp only [show ¬((i:Int)<0)from by omega,if_false,Int.toNat_natCast,Array.getElem?_eq_getElem hlt']
  refine wpAny_bind ?_
  first | refine wpAny_bind (wpAny_typeNameOfWhole_itemiter hT (wpAny_pure ?_)) | refine wpAny_bind (wpAny_typeNameOf_itemiter hT (wpAny_pure ?_))
  refine wpAny_bind (wpAny_isOneOf_itemiter hT ?_)
  show wpAny _ _ (setField (.ref it) 3 (rawInt ((i:Int)+1))>>=_) _ _ ⟨hp,g,dr,tk,os⟩
  refine wpAny_bind (wpAny_setField_rec hit (by simp) fun h₁ he₁ hs₁=> ?_)
  replace hs₁:Heap.SameBut it hp h₁:=hs₁
  replace he₁:IsItemIter h₁ it d (i+1) es.size ep ok ov:=by
    have e:((i+1:Nat):Int)=(i:Int)+1:=by omega
    unfold IsItemIter;rw [e];simpa [rawInt]using he₁
  have hT₁:Shared.TypeIs ⟨h₁,g,dr,tk,os⟩ (.ref it) "dict_itemiterator":=⟨_,he₁,rfl⟩
  refine wpAny_bind (wpAny_holding (wpAny_bind (wpAny_isOneOf_itemiter hT₁ (wpAny_bind (wpAny_isOneOf_itemiter hT₁ ?_)))))
  show wpAny _ _ (Builtin.Dict_items.pairFromOwner (.ref it) 6 es[i].key es[i].val) _ _ ⟨h₁,g,dr,tk,os⟩
  unfold Builtin.Dict_items.pairFromOwner
  refine wpAny_bind (wpAny_newTuple ?_)
  have he₂:IsItemIter (h₁.push { cls:= .type "tuple",data:= .seq #[es[i].key,es[i].val]}) it d (i+1) es.size ep ok ov:=Heap.get?_push_of_some _ he₁
  generalize hh₂:h₁.push { cls:= .type "tuple",data:= .seq #[es[i].key,es[i].val]}=h₂ at he₂
  have hz₁:h₁.objs.size=hp.objs.size:=hs₁.1
  have hil:it<hp.objs.size:=Heap.lt_size hit
  have ht₂:h₂.get? hp.objs.size=some { cls:= .type "tuple",data:= .seq #[es[i].key,es[i].val]}:=by rw [<-hh₂,<-hz₁];exact Heap.get?_push_size _ rfl
  have hz₂:h₂.objs.size=hp.objs.size+1:=by rw [<-hh₂,Heap.size_push,hz₁]
  have hk₂:∀b o,b≠it->hp.get? b=some o->h₂.get? b=some o:=fun b o hb e=>by rw [<-hh₂];exact Heap.get?_push_of_some _ (hs₁.extBut b o hb e)
  show wpAny _ _ (Builtin.Dict_items.ownedTupleIsFree (.ref it)>>=_) _ _ ⟨h₂,g,dr,tk,os⟩
  rw [hz₁]
  clear hh₂ he₁ hs₁ hT₁ hz₁ h₁
  refine wpAny_bind ?_
  unfold Builtin.Dict_items.ownedTupleIsFree
  refine wpAny_bind (wpAny_field he₂ rfl (x:= .none) rfl (wpAny_pure ?_))
  simp only [if_true]
  refine wpAny_bind (wpAny_field he₂ rfl (x:=ok) rfl (wpAny_bind (wpAny_field he₂ rfl (x:=ov) rfl ?_)))
  refine wpAny_bind (wpAny_setField_rec he₂ (by simp) fun h₃ he₃ hs₃=> ?_)
  replace hs₃:Heap.SameBut it h₂ h₃:=hs₃
  replace he₃:IsItemIter h₃ it d (i+1) es.size ep es[i].key ov:=he₃
  refine wpAny_bind (wpAny_setField_rec he₃ (by simp) fun h₄ he₄ hs₄=> ?_)
  replace hs₄:Heap.SameBut it h₃ h₄:=hs₄
  replace he₄:IsItemIter h₄ it d (i+1) es.size ep es[i].key es[i].val:=he₄
  refine wpAny_bind (wpAny_setField_rec he₄ (by simp) fun h₅ he₅ hs₅=> ?_)
  replace hs₅:Heap.SameBut it h₄ h₅:=hs₅
  replace he₅:IsItemIterOut h₅ it d (i+1) es.size ep es[i].key es[i].val hp.objs.size:=he₅
  refine wpAny_bind (wpAny_setField_rec he₅ (by simp) fun h₆ he₆ hs₆=> ?_)
  replace hs₆:Heap.SameBut it h₅ h₆:=hs₆
  replace he₆:IsItemIterOut h₆ it d (i+1) es.size ep es[i].key es[i].val hp.objs.size:=he₆
  refine wpAny_bind (wpAny_letGo (wpAny_pure (wpAny_pure ⟨_,rfl,wpAny_pure (hQ h₆ he₆ ?_ ?_ ?_)⟩)))
  . exact hs₆.extBut _ _ (Nat.ne_of_gt hil) (hs₅.extBut _ _ (Nat.ne_of_gt hil) (hs₄.extBut _ _ (Nat.ne_of_gt hil) (hs₃.extBut _ _ (Nat.ne_of_gt hil) ht₂)))
  . show h₆.objs.size=hp.objs.size+1
    rw [hs₆.1,hs₅.1,hs₄.1,hs₃.1,hz₂]
  . exact fun b o hb e=>hs₆.extBut b o hb (hs₅.extBut b o hb (hs₄.extBut b o hb (hs₃.extBut b o hb (hk₂ b o hb e))))
theorem Qt {it d:Addr}{i ep:Nat}{od:Obj}{es:Array DictEntry}{ok ov:Value}{Q:Option Value->Shared->Prop} (hh:A.handled=none) (hit:IsItemIter s.heap it d i es.size ep ok ov) (hod:s.heap.get? d=some od) (hdd:od.data= .dict es ep) (hx:es.size<=i)
    (hQ:∀h',Heap.ExtBut it s.heap h'->Q none { s with heap:=h'}):wpAny (model prog w) A (pyNext (.ref it)) Q E s:=by
  have hT:s.TypeIs (.ref it) "dict_itemiterator":=⟨_,hit,rfl⟩
  unfold pyNext
  refine wpAny_bind (wpAny_attempt (wpAny_callSpecial?_slot (name:=Str.ofString "__next__") hT F.slot_dict_itemiterator_next
    (wpAny_call_entry F.slot_dict_itemiterator_next hT F.entry_dict_itemiterator_next ?_ (F.args_dict_itemiterator_next_1 _))))
  refine wpAny_bind (wpAny_pure (wpAny_bind (wpAny_bind ?_)))
  first | refine wpAny_bind (wpAny_typeNameOfWhole_itemiter hT (wpAny_pure ?_)) | refine wpAny_bind (wpAny_typeNameOf_itemiter hT (wpAny_pure ?_))
  refine wpAny_bind (wpAny_fieldsOf hit rfl ?_)
  have hown:Builtin.Dict_items.ownsTuple "dict_itemiterator"=true:=by decide
  simp only [hown,if_true]
  show wpAny _ _ (if(Value.ref d==Value.none)=true then _ else _) _ _ s
  rw [if_neg (show ¬((Value.ref d==Value.none)=true)from Bool.false_ne_true)]
  refine wpAny_bind (wpAny_pure (wpAny_bind (wpAny_dictEntries hod hdd ?_)))
  rw [if_neg (by simp)]
  refine wpAny_bind (wpAny_pure (wpAny_bind (wpAny_dictEpoch hod hdd ?_)))
  rw [if_neg (by simp)]
  refine wpAny_pure ?_
  simp only [show ¬((i:Int)<0)from by omega,if_false,Int.toNat_natCast,Array.getElem?_eq_none hx]
  refine wpAny_bind ?_
  first | refine wpAny_bind (wpAny_typeNameOfWhole_itemiter hT (wpAny_pure ?_)) | refine wpAny_bind (wpAny_typeNameOf_itemiter hT (wpAny_pure ?_))
  show wpAny _ _ (setField (.ref it) 2 .none>>=_) _ _ s
  refine wpAny_bind (wpAny_setField hit rfl (by simp) ?_)
  show wpAny _ _ (newExc (.type "StopIteration") []>>=_) _ _ _
  refine wpAny_bind ?_
  simp only [newExc,newTuple]
  refine wpAny_bind (wpAny_newObj_type ?_ (by size_fits))
  refine wpAny_bind (m:=firstArgMember _ _) (wpAny_of_eq (a:=Value.none) (by first | rfl | (simp only [firstArgMember];rfl)) ?_)
  refine wpAny_newObj_type ?_ (by size_fits)
  simp only [raiseNew]
  refine wpAny_bind (wpAny_handled ?_)
  rw [show A.in1.handled=none from hh]
  refine wpAny_bind (wpAny_pure (wpAny_throw ?_))
  refine wpAny_bind (wpAny_isInstance (T:="StopIteration") (b:=true) ⟨_,Heap.get?_push_size _ rfl,rfl⟩ isSubtype_stop ?_)
  exact wpAny_pure (hQ _ (((Heap.SameBut.update ..).extBut.push _).push _))
end
def Ue (d:Addr) (od:Obj) (kvs:List (List Key × V)):It:=
  ⟨fun i H=>H d=some (.frz od (.dT kvs))/\i<kvs.length,
   fun i H x H'=>∃p b k v,kvs[i]? =some (k,v)/\H b=some (.tup (k.map kV))/\H p=none/\x= .ref p/\H'=upd H p (.tup [.ref b,v]),
   fun i H=>H d=some (.frz od (.dT kvs))/\kvs.length<=i⟩
theorem Lb {P:Program}{w:World}{K:PySem.W.Frag}{el:List Expr}{x1}{tp:Pos} (d it:Addr) (od:Obj) (es:Array DictEntry) (ep:Nat) (kvs:List (List Key × V)) (hdd:od.data= .dict es ep) (hz:es.size=kvs.length) (hid:it≠d):
    Turn P w K (.Tuple el x1 tp) (Ue d od kvs) [it] it (fun i h=>∃ok ov,IsItemIter h it d i es.size ep ok ov) where
  mem:=by simp
  obj:=fun i h st c hc=>by
    obtain⟨ok,ov,hi⟩:=st
    obtain rfl:c=it:=by simpa using hc
    exact⟨_,hi,fun v z=>by cases(show Data.fields _=Data.cell v from z)⟩
  keep:=fun i h h' st k=>by
    obtain⟨ok,ov,hi⟩:=st
    exact⟨ok,ov,k it (by simp) _ hi⟩
  item:=by
    intro X hP hw hK hc i pins s σ H E I hf st hg
    subst hP hw hK
    obtain⟨hd,hi⟩:=hg
    obtain⟨ok,ov,hit⟩:=st
    obtain⟨e1,z,y,xs,r,o,es',ep',h1,h2,h3,h4,h5⟩:=(show Bd X.prog X.w H s.heap d (.frz od (.dT kvs))from I.hok d _ hd)
    have eo:o=od:=Option.some.inj (h1.symm.trans e1)
    subst eo
    rw [hdd]at h3
    obtain⟨rfl,rfl⟩:es=es'/\ep=ep':=by
      injection h3 with a b
      exact⟨a,b⟩
    have hx:i<xs.length:=by rw [<-Paired.length r];exact hi
    obtain⟨q,hq⟩:∃q,xs[i]? =some q:=⟨_,List.getElem?_eq_getElem hx⟩
    obtain⟨p,hp⟩:∃p,kvs[i]? =some p:=⟨_,List.getElem?_eq_getElem hi⟩
    have rel:p.1=q.1/\H q.2.1=some (.tup (p.1.map kV))/\RelV p.2 q.2.2:=by
      have get:∀ {l:List (List Key × V)}{m:List (List Key × Addr × Value)} (i:Nat),Paired (fun(p:List Key × V) (q:List Key × Addr × Value)=>p.1=q.1/\H q.2.1=some (.tup (p.1.map kV))/\RelV p.2 q.2.2) l m->l[i]? =some p->m[i]? =some q->p.1=q.1/\H q.2.1=some (.tup (p.1.map kV))/\RelV p.2 q.2.2:=by
        intro l m i r
        induction r generalizing i with
        | nil=>intro e;simp at e
        | cons h _ ih=>
          intro a b
          cases i with
          | zero=>
            simp only [List.getElem?_cons_zero,Option.some.injEq]at a b
            subst a b
            exact h
          | succ i=>exact ih i (by simpa using a) (by simpa using b)
      exact get i r hp hq
    have he:es[i]? =some (entryOfKey (tupleKind (Bb X.prog X.w)) q):=by
      rw [<-Array.getElem?_toList,h4,List.getElem?_map,hq]
      rfl
    refine Ot hit h1 hdd he fun h' a1 a2 a3 hk=>⟨_,rfl,?_⟩
    refine wpAny_letOwnedTupleGo_items a1 fun g2 hz2 sb2=> ?_
    replace sb2:Heap.SameBut it h' g2:=sb2
    have lt:it≠s.heap.objs.size:=Nat.ne_of_lt (Heap.lt_size hit)
    have hn:H s.heap.objs.size=none:=I.fresh
    have I1:Inv X pins σ (upd H s.heap.objs.size (.tup [.ref q.2.1,p.2])) { s with heap:=s.heap.push { cls:= .type "tuple",data:= .seq #[.ref q.2.1,q.2.2]},toks:=s.toks}:=
      I.laid (fun b o q=>Heap.get?_push_of_some _ q) (Nat.le_refl _) ⟨by show 2<=sizeLine;decide,[.ref q.2.1,q.2.2],.cons rfl (.cons rel.2.2 .nil),⟨_,Heap.get?_push_size _ rfl,rfl,_,rfl⟩⟩
    have fp':∀b∈ [it],Jd X pins (upd H s.heap.objs.size (.tup [.ref q.2.1,p.2])) b:=fun b hb=>by
      obtain rfl:b=it:=by simpa using hb
      exact⟨by rw [Al lt];exact(hf b (by simp)).1,(hf b (by simp)).2⟩
    have I2:=I1.turnL (h':=g2) (t':=s.toks) (fp:=[it]) (fun b o hb q=>by
      have n1:b≠it:=fun e=>hb (by simp [e])
      refine(sb2.2 b n1).trans ?_
      rcases Heap.get?_push_cases q with⟨rfl,rfl⟩ | q0
      . exact a2
      . exact hk b o n1 q0) fp'
    exact⟨.ref s.heap.objs.size,_,I2,rfl,⟨_,q.2.1,p.1,p.2,hp,rel.2.1,hn,rfl,rfl⟩,⟨_,_,hz2⟩,fun b hb=>(fp' b hb).1⟩
  done:=by
    intro X hP hw hK hc i pins s σ H E I hf st hg
    subst hP hw hK
    obtain⟨hd,hi⟩:=hg
    obtain⟨ok,ov,hit⟩:=st
    obtain⟨e1,_⟩:=(show Bd X.prog X.w H s.heap d (.frz od (.dT kvs))from I.hok d _ hd)
    exact Qt (I.ok.hd hc) hit e1 hdd (by omega) fun g hk=>⟨rfl,I.turnL (t':=s.toks) (fp:=[it]) (fun b o hb q=>hk b o (fun e=>hb (by simp [e])) q) hf⟩
  self:=fun A i s Q E st h=>by
    obtain⟨ok,ov,hi⟩:=st
    exact PySem.W.kcp_self hi h
theorem Nz {prog:Program}{w:World} (d:Addr) (hd:(d==sysModules)=false):
    MeetsIn prog w (Builtin.«dict.items» ⟨[.ref d],[]⟩) (fun _ R s=>s.TypeIs (.ref d) "dict"/\R (.ok (.ret (.ref s.heap.objs.size))) { s with heap:=s.heap.push { cls:= .type "dict_items",data:= .fields #[.ref d]}}):=
  .of_wp fun A R s ⟨ty,h⟩=>by
    unfold Builtin.«dict.items»
    refine wpAny_bind ?_
    unfold Builtin.Dict.noArgs
    refine wpAny_bind (wpAny_notOrdered_dict ty ?_)
    show wpAny _ _ (pure d) _ _ s
    refine wpAny_pure ?_
    show wpAny _ _ (Builtin.Dict.showsAll d>>=_) _ _ s
    unfold Builtin.Dict.showsAll
    rw [if_neg (by rw [hd];exact Bool.false_ne_true)]
    exact wpAny_bind (wpAny_pure (wpAny_bind (wpAny_newObj_type (wpAny_pure ⟨_,rfl,h⟩))))
structure M0 (X:Cx) (o:Expr) (m:Str) (apos cpos:Pos):Prop where
  base:attributeBase o m X.env (eval o X.env)=eval o X.env
  few:((backTo cpos (starEach [] X.env)).all (fun x=> !x.1)&&(backToKw cpos (keywordEach [] X.env)).all (fun x=>x.1.isSome)
    &&decide (([]:List Expr).length+([]:List Keyword).length+(if([]:List Keyword).isEmpty then 0 else 1)<30))=true
  line:(apos.endLine==cpos.line)=true
  trees:backTo cpos (starEach [] X.env)=[]
def Mi (td:TE):TI:=fun σ H R=>td σ H fun x H1=>∃a kvs,x= .ref a/\H1 a=some (.dT kvs)/\∀od,R (Ue a od kvs) (upd H1 a (.frz od (.dT kvs)))
theorem Gs {X:Cx}{o:Expr}{td:TE}{el:List Expr}{x1}{tp apos cpos:Pos} (ho:PE X o td) (m:M0 X o "items" apos cpos):PI X (.Tuple el x1 tp) (.Call (.Attribute o "items" apos) [] [] cpos) (Mi td):=by
  intro pins s σ H R I h
  refine wpAny_Call_method m.base m.few m.line PySem.F.plainAttrs_dict PySem.F.slot_dict_items PySem.F.type_dict_items (thn (ho pins s σ H _ I h) fun u s1 ⟨x,H1,I1,rx,a,kvs,ex,e,q1⟩=> ?_)
  subst ex
  obtain rfl:u=Value.ref a:=rx
  obtain⟨t1,t2,hd⟩:=Pr I1 (.inr ⟨kvs,.inl e⟩)
  refine⟨t1,t2,?_⟩
  rw [m.trees]
  refine Calls.callWith_builtin rfl (PySem.evalArgs_none ?_)
  obtain⟨z,y,xs,r,od,es,ep,h1,h2,h3,h4,h5⟩:=(show Bd X.prog X.w H1 s1.heap a (.dT kvs)from I1.hok a _ e)
  refine call_meetsIn PySem.F.slot_dict_items t1 PySem.F.entry_dict_items (PySem.F.args_dict_items_1 _) (Nz a hd) ⟨t1,?_⟩
  have hz:es.size=kvs.length:=by
    have:=congrArg List.length h4
    rw [Array.length_toList,List.length_map]at this
    rw [this,Paired.length r]
  have g1:(s1.heap.push { cls:= .type "dict_items",data:= .fields #[.ref a]}).get? a=some od:=Heap.get?_push_of_some _ h1
  refine Oo (s:={ s1 with heap:=s1.heap.push { cls:= .type "dict_items",data:= .fields #[.ref a]}}) (d:=a) ⟨_,Heap.get?_push_size _ rfl,rfl,rfl⟩ g1 h3 ?_
  have al:a<s1.heap.objs.size:=Heap.lt_size h1
  have sz:(s1.heap.push { cls:= .type "dict_items",data:= .fields #[.ref a]}).objs.size=s1.heap.objs.size+1:=Heap.size_push ..
  have I2:Inv X pins σ (upd H1 a (.frz od (.dT kvs))) { s1 with heap:=(s1.heap.push { cls:= .type "dict_items",data:= .fields #[.ref a]}).push { cls:= .type "dict_itemiterator",data:= .fields #[.none,.bool false,.ref a,.int 0 0,.int es.size 0,.int ep 0,.none,.none]},toks:=s1.toks}:=
    I1.write (x:=a) (e:=a) (by rw [e];exact True.intro) (.inl rfl) (fun b u _ q=>Heap.get?_push_of_some _ (Heap.get?_push_of_some _ q)) ⟨od,Heap.get?_push_of_some _ g1⟩
      ⟨Heap.get?_push_of_some _ g1,z,y,xs,Paired.mapP r fun p q z=>⟨z.1,by rw [Al (Ka z.2.1 e (fun z=>nomatch z))];exact z.2.1,z.2.2⟩,od,es,ep,Heap.get?_push_of_some _ g1,h2,h3,h4,h5⟩
  refine⟨(s1.heap.push { cls:= .type "dict_items",data:= .fields #[.ref a]}).objs.size,[(s1.heap.push { cls:= .type "dict_items",data:= .fields #[.ref a]}).objs.size],_,_,_,rfl,I2,Lb a _ od es ep kvs h3 hz (by rw [sz];exact Nat.ne_of_gt (Nat.lt_succ_of_lt al)),⟨.none,.none,Heap.get?_push_size _ rfl⟩,fun c hc=> ?_,q1 od⟩
  have ec:c=s1.heap.objs.size+1:=by
    rw [sz]at hc
    simpa using hc
  subst ec
  refine I1.fpOk (Nat.le_succ _) ?_
  rw [Al (Nat.ne_of_gt (Nat.lt_succ_of_lt al))]
  exact I1.hok.fresh (Nat.le_succ _)
theorem Og {td:TE}{σ:St}{H:Hp}{R:It->Hp->Prop}:Mi td σ H R=td σ H (fun x H1=>∃a kvs,x= .ref a/\H1 a=some (.dT kvs)/\∀od,R (Ue a od kvs) (upd H1 a (.frz od (.dT kvs)))):=rfl
theorem Mg {d:Addr}{od:Obj}{kvs:List (List Key × V)}{H1:Hp}{p:Addr}{cσ:St}{g:TG}{tt:TT}{te:TE}{Q:VK} (pf:List Key × V->Bool) (Rl:List Key × V->V->Hp->Prop)
    (mono:∀e v H H',Rl e v H->Same H H'->Rl e v H') (put:∀e v H ys zs,Rl e v H->H p=some (.lst ys)->Rl e v (upd H p (.lst zs))) (hz:kvs.length<=sizeLine) (hp:H1 p=none) (hd:H1 d=some (.frz od (.dT kvs)))
    (step:∀(e:List Key × V) (H':Hp) (b q:Addr) (R:VK) (RF:Hp->Prop),e∈kvs->Same H1 H'->H' b=some (.tup (e.1.map kV))->H' q=some (.tup [.ref b,e.2])->(pf e=true->∀v H6,Same H' H6->Rl e v H6->R v H6)->(pf e=false->∀H6,Same H' H6->RF H6)->
      g (.ref q) cσ H' fun σ4 H4=>Kp cσ σ4/\tt σ4 H4 fun b H5=>if b=true then te σ4 H5 R else RF H5)
    (done:∀H' (vs:List (V × (List Key × V))),Same H1 H'->H' p=some (.lst (vs.map (·.1)))->vs.map (·.2)=kvs.filter pf->(∀x∈vs,Rl x.2 x.1 H')->Q (.ref p) H'):cIn (Ue d od kvs) cσ g tt te Q H1 p:=by
  have su:∀ {H':Hp}{o:HO},Same H1 H'->Same H1 (upd H' p o):=fun {H' o} s b u e=>by
    rw [Al (Ai e hp)]
    exact s b u e
  refine⟨fun i m acc H'=>∃vs:List (V × (List Key × V)),m=kvs.length-i/\i<=kvs.length/\acc=vs.map (·.1)/\vs.map (·.2)=(kvs.take i).filter pf/\(∀x∈vs,Rl x.2 x.1 H')/\H' p=some (.lst acc)/\Same H1 H',⟨kvs.length,[],by simp,Nat.zero_le _,rfl,by simp,by simp,Ad,su (Same.refl _)⟩,?_⟩
  rintro i m acc H' ⟨vs,rfl,hi,rfl,hv,hr,hH,s⟩
  cases he:kvs[i]? with
  | none=>
    have e:i=kvs.length:=Nat.le_antisymm hi (List.getElem?_eq_none_iff.mp he)
    subst e
    rw [List.take_length]at hv
    exact .inl ⟨⟨s _ _ hd,Nat.le_refl _⟩,done _ vs s hH hv hr⟩
  | some e=>
    obtain⟨hlt,_⟩:=List.getElem?_eq_some_iff.mp he
    refine .inr ⟨⟨s _ _ hd,hlt⟩,fun x H3 y=> ?_⟩
    obtain⟨q,b,k,v,hk,hb,hq,rfl,rfl⟩:=y
    rw [he]at hk
    obtain rfl:e=(k,v):=Option.some.inj hk
    have sq:=Same.upd hq (.tup [.ref b,v])
    have tk:kvs.take (i+1)=kvs.take i++ [(k,v)]:=by rw [List.take_succ,he];rfl
    have fl:vs.length<=i:=by
      have h1:=congrArg List.length hv
      rw [List.length_map]at h1
      rw [h1]
      exact Nat.le_trans (List.length_filter_le _ _) (by rw [List.length_take];omega)
    refine step (k,v) (upd H' q (.tup [.ref b,v])) b q _ _ (List.mem_of_getElem? he) (s.trans sq) (sq _ _ hb) Ad (fun hpf v' H6 s6 r6=>⟨s6 _ _ (sq _ _ hH),by rw [List.length_map];omega,_,by omega,vs++ [(v',(k,v))],rfl,hlt,by rw [List.map_append];rfl,?_,?_,Ad,su ((s.trans sq).trans s6)⟩)
      (fun hpf H6 s6=>⟨_,by omega,vs,rfl,hlt,rfl,?_,fun x hx=>mono _ _ _ _ (hr x hx) (sq.trans s6),s6 _ _ (sq _ _ hH),(s.trans sq).trans s6⟩)
    . rw [tk,List.filter_append,List.map_append,hv]
      simp [hpf]
    . intro x hx
      rcases List.mem_append.mp hx with hx | hx
      . exact put _ _ _ _ _ (mono _ _ _ _ (hr x hx) (sq.trans s6)) (s6 _ _ (sq _ _ hH))
      . have:x=(v',(k,v)):=by simpa using hx
        rw [this]
        exact put _ _ _ _ _ r6 (s6 _ _ (sq _ _ hH))
    . rw [tk,List.filter_append,hv]
      simp [hpf]
theorem Q0 {σ:St}{H:Hp}{Q:VK}:M7 σ H Q=∀p,H p=none->Q (.ref p) (upd H p (.dT [])):=rfl
end L2
namespace L2.S
open PySem L2
@[irreducible] def PE (X:Cx) (e:Expr) (t:TE):Prop:=L2.PE X e t
@[irreducible] def PT (X:Cx) (e:Expr) (t:TT):Prop:=L2.PT X e t
@[irreducible] def PW (X:Cx) (e:Expr) (t:TT):Prop:=L2.PW X e t
@[irreducible] def PA (X:Cx) (es:List Expr) (t:TA):Prop:=L2.PA X es t
@[irreducible] def PS (X:Cx) (st:Stmt) (t:TS):Prop:=L2.PS X st t
@[irreducible] def PSs (X:Cx) (st:List Stmt) (t:TS):Prop:=L2.PSs X st t
@[irreducible] def PG (X:Cx) (target:Expr) (t:TG):Prop:=L2.PG X target t
@[irreducible] def PGs (X:Cx) (ts:List Expr) (t:TGs):Prop:=L2.PGs X ts t
@[irreducible] def PI (X:Cx) (tg iter:Expr) (wi:TI):Prop:=L2.PI X tg iter wi
@[irreducible] def PO (X:Cx) (e:Option Expr) (t:TO):Prop:=L2.PO X e t
@[irreducible] def PTs (X:Cx) (ifs:List Expr) (t:TT):Prop:=L2.PTs X ifs t
theorem out {X:Cx}{b:List Stmt}{t:TS} (h:PSs X b t):L2.PSs X b t:=by unfold PSs at h;exact h
theorem pv:∀ {X:Cx} (i:Nat) {x:Str}{pos:Pos},autoParam ((Cx.N X)[i]? =Option.some x) L2.pv._auto_1->autoParam (Vis (Env.scope (Cx.env X)) x) L2.pv._auto_2->autoParam ((x==("__debug__":Str))=Bool.false) L2.pv._auto_3->autoParam ((x==("__classdict__":Str))=Bool.false) L2.pv._auto_4->S.PE X (Expr.Name x pos) (Rm i):=by with_unfolding_all exact @L2.pv
theorem Bu:∀ {X:Cx}{x:Str}{v:V}{u:Value}{pos:Pos},Gl X x->Cx.mg X x=Option.none->bootBuiltins x=Option.some u->RelV v u->autoParam (x≠("__name__":Str)) L2.Bu._auto_1->autoParam ((x==("__debug__":Str))=Bool.false) L2.Bu._auto_2->S.PE X (Expr.Name x pos) (tC v):=by with_unfolding_all exact @L2.Bu
theorem Ac:∀ {X:Cx}{i:Int}{j:Nat}{pos:Pos},S.PE X (Expr.Constant (Const.int i) j pos) (tC (V.int i)):=by with_unfolding_all exact @L2.Ac
theorem Dd:∀ {X:Cx}{b:Bool}{j:Nat}{pos:Pos},S.PE X (Expr.Constant (Const.bool b) j pos) (tC (V.bl b)):=by with_unfolding_all exact @L2.Dd
theorem Fl:∀ {X:Cx}{j:Nat}{pos:Pos},S.PE X (Expr.Constant Const.none j pos) (tC V.non):=by with_unfolding_all exact @L2.Fl
theorem Ik:∀ {X:Cx}{x:Str}{j:Nat}{pos:Pos},S.PE X (Expr.Constant (Const.str x) j pos) (tC (V.str x)):=by with_unfolding_all exact @L2.Ik
theorem Aj:∀ {X:Cx}{a b:Expr}{ta tb:TE}{pos:Pos}{op:Operator}{r:R2},OpR X (binaryOp op) r->S.PE X a ta->S.PE X b tb->S.PE X (Expr.BinOp a op b pos) (tOp r ta tb):=by with_unfolding_all exact @L2.Aj
theorem Mu:∀ {X:Cx}{a:Expr}{ta:TE}{pos:Pos},S.PE X a ta->S.PE X (Expr.UnaryOp UnaryOp.Not a pos) (Qp ta):=by with_unfolding_all exact @L2.Mu
theorem Nh:∀ {X:Cx}{a:Expr}{ta:TE}{pos:Pos}{op:UnaryOp}{r:V->Hp->VK->Prop},UnR X (unaryOp op) r->S.PE X a ta->S.PE X (Expr.UnaryOp op a pos) (tUn r ta):=by with_unfolding_all exact @L2.Nh
theorem Du:∀ {X:Cx}{a b:Expr}{ta tb:TE}{pos:Pos}{op:CmpOp}{r:R2},OpR X (compareOp op) r->S.PE X a ta->S.PE X b tb->behindInMarks op b=Bool.false->S.PE X (Expr.Compare a [op] [b] pos) (tOp r ta tb):=by with_unfolding_all exact @L2.Du
theorem Ij:∀ {X:Cx}{a b:Expr}{ta tb:TE}{pos:Pos}{rest:List Expr},S.PE X a ta->S.PE X (Expr.BoolOp BoolOp.And (b::rest) pos) tb->S.PE X (Expr.BoolOp BoolOp.And (a::b::rest) pos) (Qg ta tb):=by with_unfolding_all exact @L2.Ij
theorem Ia:∀ {X:Cx}{a:Expr}{pos:Pos}{op:BoolOp}{t:TE},S.PE X a t->S.PE X (Expr.BoolOp op [a] pos) t:=by with_unfolding_all exact @L2.Ia
theorem Ah:∀ {X:Cx}{es:List Expr}{t:TA}{pos:Pos}{x1:Nat},S.PA X es t->S.PE X (Expr.Tuple es x1 pos) (Uw t):=by with_unfolding_all exact @L2.Ah
theorem Br:∀ {X:Cx}{es:List Expr}{t:TA}{pos:Pos},S.PA X es t->S.PE X (Expr.List es pos) (Vn t):=by with_unfolding_all exact @L2.Br
theorem Bh:∀ {X:Cx}{e:Expr}{te:TE}{lo hi:Option Expr}{tl th:TO}{pos p2:Pos}{r:V->Option Int->Option Int->Hp->VK->Prop},SlR X r->S.PE X e te->S.PO X lo tl->S.PO X hi th->S.PE X (Expr.Subscript e (Expr.Slice lo hi Option.none p2) pos) (tSl r te tl th):=by with_unfolding_all exact @L2.Bh
theorem Bs:∀ {X:Cx},S.PO X Option.none Jo:=by with_unfolding_all exact @L2.Bs
theorem Bk:∀ {X:Cx}{e:Expr}{te:TE},S.PE X e te->S.PO X (Option.some e) (Qz te):=by with_unfolding_all exact @L2.Bk
theorem G8:∀ {X:Cx}{a b:Expr}{ta tb:TE}{pos:Pos}{r:R2},IxR X r->S.PE X a ta->S.PE X b tb->Mp b->S.PE X (Expr.Subscript a b pos) (tOp r ta tb):=by with_unfolding_all exact @L2.G8
theorem Gx:∀ {X:Cx}{o e f:Expr}{apos cpos:Pos}{td ty tx:TE},Around.units (Cx.A X)+(1:Nat)<cLine->S.PE X o td->S.PE X e ty->S.PE X f tx->M2 X o (("get":Str)) apos e f cpos->S.PE X (Expr.Call (Expr.Attribute o (("get":Str)) apos) [e,f] [] cpos) (Lz td ty tx):=by with_unfolding_all exact @L2.Gx
theorem Cy:∀ {X:Cx}{elt tg iter:Expr}{ifs:List Expr}{scope:Scope}{pos:Pos}{wi:TI}{g:TG}{tt:TT}{te:TE}{ts:List Str}{fs:List (Nat × Str)},Cx.calm X=Bool.true->Ba X ts fs scope->S.PI X tg iter wi->(∀(ex:List Addr) (s:Shared) (H:Hp),S.PG (cxC X (cpN ts fs) scope ex s H) tg g)->(∀(ex:List Addr) (s:Shared) (H:Hp),S.PTs (cxC X (cpN ts fs) scope ex s H) ifs tt)->(∀(ex:List Addr) (s:Shared) (H:Hp),S.PE (cxC X (cpN ts fs) scope ex s H) elt te)->autoParam (∀(x:Value),foldedSetIterable iter (Cx.env X) x=Pure.pure x) L2.Cy._auto_1->S.PE X (Expr.ListComp elt [{ target:=tg,iter:=iter,ifs:=ifs,is_async:=(0:Int)}] scope pos) (Oc (List.length ts) fs wi g tt te):=by with_unfolding_all exact @L2.Cy
theorem Bo:∀ {X:Cx}{e:Expr}{es:List Expr}{t:TA}{x:Str}{p pos:Pos}{id:String}{r:List V->Hp->VK->Prop},Dj X (Value.builtin id) r->Gl X x->Cx.mg X x=Option.none->bootBuiltins x=Option.some (Value.builtin id)->S.PA X (e::es) t->autoParam (Bm e=Bool.true) L2.Bo._auto_1->autoParam (List.all es Bm=Bool.true) L2.Bo._auto_2->autoParam (x≠("__name__":Str)) L2.Bo._auto_3->autoParam ((x==("__debug__":Str))=Bool.false) L2.Bo._auto_4->S.PE X (Expr.Call (Expr.Name x p) (e::es) [] pos) (tCB r t):=by with_unfolding_all exact @L2.Bo
theorem Dy:∀ {X:Cx}{e:Expr}{es:List Expr}{t:TA}{x:Str}{p pos:Pos}{T:String}{r:List V->Hp->VK->Prop},Dj X (Value.type T) r->Gl X x->Cx.mg X x=Option.none->bootBuiltins x=Option.some (Value.type T)->S.PA X (e::es) t->autoParam (Bm e=Bool.true) L2.Dy._auto_1->autoParam (List.all es Bm=Bool.true) L2.Dy._auto_2->autoParam (x≠("__name__":Str)) L2.Dy._auto_3->autoParam ((x==("__debug__":Str))=Bool.false) L2.Dy._auto_4->S.PE X (Expr.Call (Expr.Name x p) (e::es) [] pos) (tCB r t):=by with_unfolding_all exact @L2.Dy
theorem Bc:∀ {X:Cx}{e:Expr}{es:List Expr}{t:TA}{x:Str}{p pos:Pos}{k:Nat}{ps:List Str}{sp:Sp},Cal (Cx.prog X) (Cx.w X) (Cx.K X) (Cx.mg X) (Cx.base X) k x ps sp->Ew k (Cx.A X)->S.PA X (e::es) t->autoParam (Bm e=Bool.true) L2.Bc._auto_1->autoParam (List.all es Bm=Bool.true) L2.Bc._auto_2->autoParam (Gl X x) L2.Bc._auto_3->autoParam ((x==("__debug__":Str))=Bool.false) L2.Bc._auto_4->S.PE X (Expr.Call (Expr.Name x p) (e::es) [] pos) (Lp sp [] E0 t):=by with_unfolding_all exact @L2.Bc
theorem Ep:∀ {X:Cx}{o e:Expr}{es:List Expr}{to:TE}{t:TA}{name:Str}{apos cpos:Pos}{T id:String}{r:V->List V->Hp->VK->Prop},PlainAttrs T->Slot T name id->typeOf (Value.builtin id)=Pure.pure (Value.type "method_descriptor")->MtR X id r->S.PE X o to->S.PA X (e::es) t->autoParam (attributeBase o name (Cx.env X) (eval o (Cx.env X))=eval o (Cx.env X)) L2.Ep._auto_1->autoParam ((((List.all (backTo cpos (starEach (e::es) (Cx.env X))) fun(x:Bool × Sem Value) ↦ !Prod.fst x)&&List.all (backToKw cpos (keywordEach [] (Cx.env X))) fun(x:Option Str × Sem Value) ↦ Option.isSome (Prod.fst x))&&Decidable.decide ((List.length (e::es)+List.length ([]:List Keyword)+if List.isEmpty ([]:List Keyword)=Bool.true then(0:Nat)else(1:Nat))<(30:Nat)))=Bool.true) L2.Ep._auto_2->autoParam ((Pos.endLine apos==Pos.line cpos)=Bool.true) L2.Ep._auto_3->autoParam (starEach (e::es) (Cx.env X)=(Bool.false,eval e (Cx.env X))::starEach es (Cx.env X)) L2.Ep._auto_4->autoParam ((List.any (backTo cpos (starEach es (Cx.env X))) fun(x:Bool × Sem Value) ↦ Prod.fst x)=Bool.false) L2.Ep._auto_5->S.PE X (Expr.Call (Expr.Attribute o name apos) (e::es) [] cpos) (tBM (Cx.K X) T r to t):=by with_unfolding_all exact @L2.Ep
theorem En:∀ {X:Cx}{a b:Expr}{ta:TA}{el:List Expr}{x1:Nat}{tp p pos:Pos} (t1 t2:Bool),Gl X (("zip":Str))->Cx.mg X (("zip":Str))=Option.none->S.PA X [a,b] ta->autoParam (starEach [a,b] (Cx.env X)=[(Bool.false,eval a (Cx.env X)),(Bool.false,eval b (Cx.env X))]) L2.En._auto_1->autoParam (starEach [b] (Cx.env X)=[(Bool.false,eval b (Cx.env X))]) L2.En._auto_2->S.PI X (Expr.Tuple el x1 tp) (Expr.Call (Expr.Name (("zip":Str)) p) [a,b] [] pos) (Qo t1 t2 (Cx.K X) ta):=by with_unfolding_all exact @L2.En
theorem Gs:∀ {X:Cx}{o:Expr}{td:TE}{el:List Expr}{x1:Nat}{tp apos cpos:Pos},S.PE X o td->M0 X o (("items":Str)) apos cpos->S.PI X (Expr.Tuple el x1 tp) (Expr.Call (Expr.Attribute o (("items":Str)) apos) [] [] cpos) (Mi td):=by with_unfolding_all exact @L2.Gs
theorem Gk:∀ {X:Cx}{pos:Pos},S.PE X (Expr.Dict [] [] pos) M7:=by with_unfolding_all exact @L2.Gk
theorem Ck:∀ {X:Cx}{tg a:Expr}{ta:TA}{p pos:Pos},Gl X (("range":Str))->Cx.mg X (("range":Str))=Option.none->S.PA X [a] ta->autoParam (starEach [a] (Cx.env X)=[(Bool.false,eval a (Cx.env X))]) L2.Ck._auto_1->S.PI X tg (Expr.Call (Expr.Name (("range":Str)) p) [a] [] pos) (Q7 ta):=by with_unfolding_all exact @L2.Ck
theorem Gd:∀ {X:Cx}{tg l:Expr}{tl:TE},S.PE X l tl->S.PI X tg l (Qk (Cx.K X) tl):=by with_unfolding_all exact @L2.Gd
theorem Js:∀ {X:Cx}{tg l:Expr}{tl:TE},S.PE X l tl->S.PI X tg l (Vo (Cx.K X) tl):=by with_unfolding_all exact @L2.Js
theorem El:∀ {X:Cx},S.PTs X [] Jb:=by with_unfolding_all exact @L2.El
theorem Jp:∀ {X:Cx}{c:Expr}{t:TT},S.PT X c t->S.PTs X [c] t:=by with_unfolding_all exact @L2.Jp
theorem Am:∀ {X:Cx}{a b:Expr}{ta tb:TE}{pos:Pos}{op:CmpOp}{r:R2},OpR X (compareOp op) r->S.PE X a ta->S.PE X b tb->behindInMarks op b=Bool.false->S.PT X (Expr.Compare a [op] [b] pos) (Q8 (tOp r ta tb)):=by with_unfolding_all exact @L2.Am
theorem Ei:∀ {X:Cx}{a:Expr}{pos:Pos}{tA:TT},S.PT X a tA->S.PT X (Expr.UnaryOp UnaryOp.Not a pos) (Vb tA):=by with_unfolding_all exact @L2.Ei
theorem Fy:∀ {X:Cx}{a b:Expr}{pos:Pos}{tA tB':TT}{rest:List Expr},S.PT X a tA->S.PW X (Expr.BoolOp BoolOp.And (b::rest) pos) tB'->S.PW X (Expr.BoolOp BoolOp.And (a::b::rest) pos) (Uv tA tB'):=by with_unfolding_all exact @L2.Fy
theorem Ht:∀ {X:Cx}{a b:Expr}{pos:Pos}{tA tB':TT}{rest:List Expr},S.PT X a tA->S.PW X (Expr.BoolOp BoolOp.Or (b::rest) pos) tB'->S.PW X (Expr.BoolOp BoolOp.Or (a::b::rest) pos) (tOr tA tB'):=by with_unfolding_all exact @L2.Ht
theorem Ef:∀ {X:Cx}{a:Expr}{pos:Pos}{tA:TT},S.PT X a tA->S.PW X (Expr.BoolOp BoolOp.And [a] pos) tA:=by with_unfolding_all exact @L2.Ef
theorem Fj:∀ {X:Cx}{a:Expr}{pos:Pos}{tA:TT},S.PT X a tA->S.PW X (Expr.BoolOp BoolOp.Or [a] pos) tA:=by with_unfolding_all exact @L2.Fj
theorem Ji:∀ {X:Cx}{e:Expr}{t:TT},S.PW X e t->S.PT X e t:=by with_unfolding_all exact @L2.PW.pt
theorem Dw:∀ {X:Cx}{e:Expr}{t:TE},S.PE X e t->autoParam (∀(whole:Sem Value),isTrue e (Cx.env X) whole=do let v<-whole;standAt (Expr.pos e);holding [v] (truthy v)) L2.Dw._auto_1->S.PT X e (tB t):=by with_unfolding_all exact @L2.Dw
theorem Ab:∀ {X:Cx},S.PA X [] Vt:=by with_unfolding_all exact @L2.Ab
theorem Aa:∀ {X:Cx}{e:Expr}{es:List Expr}{te:TE}{t:TA},S.PE X e te->S.PA X es t->autoParam (Bm e=Bool.true) L2.Aa._auto_1->S.PA X (e::es) (Oj te t):=by with_unfolding_all exact @L2.Aa
theorem Bg:∀ {X:Cx},S.PSs X [] Py:=by with_unfolding_all exact @L2.Bg
theorem Ag:∀ {X:Cx}{st:Stmt}{t:TS},S.PS X st t->S.PSs X [st] t:=by with_unfolding_all exact @L2.Ag
theorem Ae:∀ {X:Cx}{st:Stmt}{rest:List Stmt}{t u:TS},S.PS X st t->S.PSs X rest u->S.PSs X (st::rest) (Ug t u):=by with_unfolding_all exact @L2.Ae
theorem Aq:∀ {X:Cx}{pos:Pos}{i:Nat}{x:Str},List.Nodup (Cx.N X)->(Cx.N X)[i]? =Option.some x->Loc (Env.scope (Cx.env X)) x->∀(hf:autoParam (Cx.fn X x=Bool.true\/List.lookup x (Scope.names (Env.scope (Cx.env X)))=Option.some NameKind.local) L2.Aq._auto_1),S.PG X (Expr.Name x pos) (Eo i):=by with_unfolding_all exact @L2.Aq
theorem Ce:∀ {X:Cx},S.PGs X [] Rx:=by with_unfolding_all exact @L2.Ce
theorem Ao:∀ {X:Cx}{e:Expr}{es:List Expr}{t:TG}{u:TGs},S.PG X e t->S.PGs X es u->autoParam (List.map (fun(x:Bool × (Value->Sem Unit)) ↦ Prod.snd x) (assignEach (e::es) (Cx.env X))=assign e (Cx.env X)::List.map (fun(x:Bool × (Value->Sem Unit)) ↦ Prod.snd x) (assignEach es (Cx.env X))) L2.Ao._auto_1->S.PGs X (e::es) (Gp t u):=by with_unfolding_all exact @L2.Ao
theorem Dn:∀ {X:Cx}{es:List Expr}{k:Nat}{pos:Pos}{t:TGs} (K:W.Frag) (n:Nat),Cx.K X=K->Cx.calm X=Bool.true->S.PGs X es t->autoParam (List.length (assignEach es (Cx.env X))=n) L2.Dn._auto_1->autoParam (List.findIdx? (fun(x:Bool × (Value->Sem Unit)) ↦ Prod.fst x) (assignEach es (Cx.env X))=Option.none) L2.Dn._auto_2->S.PG X (Expr.Tuple es k pos) (Q6 K n t):=by with_unfolding_all exact @L2.Dn
theorem Di:∀ {X:Cx}{pos:Pos}{es:List Expr}{k:Nat}{t:TGs}{n:Nat},Cx.calm X=Bool.true->S.PGs X es t->autoParam (List.length (assignEach es (Cx.env X))=n) L2.Di._auto_1->autoParam (List.findIdx? (fun(x:Bool × (Value->Sem Unit)) ↦ Prod.fst x) (assignEach es (Cx.env X))=Option.none) L2.Di._auto_2->S.PG X (Expr.Tuple es k pos) (Q6 (Cx.K X) n t):=by with_unfolding_all exact @L2.Di
theorem Ay:∀ {X:Cx}{pos:Pos}{i:Nat}{x:Str}{e:Expr}{te:TE}{pos':Pos},List.Nodup (Cx.N X)->(Cx.N X)[i]? =Option.some x->Loc (Env.scope (Cx.env X)) x->S.PE X e te->autoParam (swapsWith e (Option.some (Expr.Name x pos')) (Pos.line pos) (Cx.env X)=Pure.pure Bool.false) L2.Ay._auto_1->autoParam (Cx.fn X x=Bool.true\/List.lookup x (Scope.names (Env.scope (Cx.env X)))=Option.some NameKind.local) L2.Ay._auto_2->S.PS X (Stmt.Assign [Expr.Name x pos'] e pos) (S6 te (Eo i)):=by with_unfolding_all exact @L2.Ay
theorem Iu:∀ {X:Cx}{o i value:Expr}{pos pos':Pos}{td ty tv:TE},Around.units (Cx.A X)+(1:Nat)<cLine->S.PE X o td->S.PE X i ty->S.PE X value tv->swapsWith value (Option.some (Expr.Subscript o i pos')) (Pos.line pos) (Cx.env X)=Pure.pure Bool.false->S.PS X (Stmt.Assign [Expr.Subscript o i pos'] value pos) (Qf td ty tv):=by with_unfolding_all exact @L2.Iu
theorem Fe:∀ {X:Cx}{pos:Pos}{tg e:Expr}{te:TE}{g:TG},S.PE X e te->S.PG X tg g->autoParam (swapsWithSole [tg] e (Pos.line pos) (Cx.env X)=Pure.pure Bool.false) L2.Fe._auto_1->autoParam (swappedStores [tg] e (Cx.env X)=Pure.pure Option.none) L2.Fe._auto_2->autoParam (List.map (fun(x:Bool × (Value->Sem Unit)) ↦ Prod.snd x) (assignEach [tg] (Cx.env X))=[assign tg (Cx.env X)]) L2.Fe._auto_3->S.PS X (Stmt.Assign [tg] e pos) (S6 te g):=by with_unfolding_all exact @L2.Fe
theorem Aw:∀ {X:Cx}{e:Expr}{te:TE}{pos:Pos},S.PE X e te->S.PS X (Stmt.Return (Option.some e) pos) (Vu te):=by with_unfolding_all exact @L2.Aw
theorem Dc:∀ {X:Cx}{t u:TS}{pos:Pos}{c:Expr}{a b:List Stmt}{tc:TT},S.PT X c tc->S.PSs X a t->S.PSs X b u->S.PS X (Stmt.If c a b pos) (Um tc t u):=by with_unfolding_all exact @L2.Dc
theorem Ge:∀ {X:Cx}{pos:Pos}{c:Expr}{body:List Stmt}{tc:TT}{tb:TS},PassesOwn (model (Cx.prog X) (Cx.w X)) (Cx.A X) (Cx.env X) (Cx.xe X)->S.PT X c tc->S.PSs X body tb->S.PS X (Stmt.While c body [] pos) (M4 tc tb):=by with_unfolding_all exact @L2.Ge
theorem Eh:∀ {X:Cx}{tg iter:Expr}{body:List Stmt}{wi:TI}{g:TG}{tb:TS}{pos:Pos},PassesOwn (model (Cx.prog X) (Cx.w X)) (Cx.A X) (Cx.env X) (Cx.xe X)->Cx.calm X=Bool.true->S.PI X tg iter wi->S.PG X tg g->S.PSs X body tb->autoParam (∀(x:Value),foldedSetIterable iter (Cx.env X) x=Pure.pure x) L2.Eh._auto_1->S.PS X (Stmt.For tg iter body [] pos) (Uk wi g tb):=by with_unfolding_all exact @L2.Eh
theorem Dp:∀ {X:Cx}{e:Expr}{te:TE}{pos:Pos},S.PE X e te->autoParam (swapsWith e Option.none (Pos.line pos) (Cx.env X)=Pure.pure Bool.false) L2.Dp._auto_1->S.PS X (Stmt.Expr e pos) (Qi te):=by with_unfolding_all exact @L2.Dp
theorem Bv {X:Cx}{b:List Stmt}{φ:TS->Prop} (h:∃t,PSs X b t/\φ t):∃t,L2.PSs X b t/\φ t:=by
  obtain⟨t,h1,h2⟩:=h
  exact⟨t,out h1,h2⟩
end L2.S
namespace Z
open PySem L2
local macro_rules | `(tactic| contradiction)=> `(tactic| simp only [Uy,Ss,Vs,Va,Ry,Vr,Pz,R7,S5,z_c,V7,Wq,Ws,Ve,V8,Vf,U9,Us,U5,R0,V9,Ul,Vq,U8,Tp,Tz,Ut,Vl,Wa,R4,Rn,T3,Vd,Tf,Wf,Vy,Ur,R5,Rz,Qq,S9,Ui,Uu,U0,Uz,Wn,Ol,Sh,Wo,Vp,Tq,Sg,Tr,Uo,Px,Og,Q0,Q5,Sy,cpσ,List.getElem?_cons_zero,List.getElem?_cons_succ,Option.join_some,List.set_cons_zero,List.set_cons_succ,List.append_nil,decide_eq_true_eq,Bool.not_eq_true',decide_eq_false_iff_not,Bool.not_not,ite_not,Bool.false_eq_true,Bool.true_eq_false,if_false,if_true,if_pos,List.length_cons,List.length_nil,Nat.zero_add,Nat.reduceAdd,Tv,Ru,true_and,and_true,L2.start,List.map_cons,List.map_nil,Bool.not_true,Bool.not_false,Nat.reduceSub,List.replicate_succ,List.replicate_zero,List.cons_append,List.nil_append])
def top (i:Nat):Stmt:=PySem.Challenge.pw_rootcourt_k34_what_is_a_form.main.body.getD i (.Pass ⟨0,0,0,0⟩)
abbrev Dq:Stmt:=top 1
theorem Jq:Bf ["thing"] ["thing"] (Af Dq):=⟨rfl,rfl,rfl,by decide+kernel,rfl,by decide+kernel,by decide+kernel⟩
abbrev Cj:Stmt:=top 3
theorem J7:Bf ["thing"] ["thing"] (Af Cj):=⟨rfl,rfl,rfl,by decide+kernel,rfl,by decide+kernel,by decide+kernel⟩
abbrev Dk:Stmt:=top 4
theorem Ds:Bf ["thing","powers","weight"] ["thing"] (Af Dk):=⟨rfl,rfl,rfl,by decide+kernel,rfl,by decide+kernel,by decide+kernel⟩
abbrev Cz:Stmt:=top 6
theorem Hj:Bf ["_law_script","_law_k"] ["_law_script","_law_k"] (Af Cz):=⟨rfl,rfl,rfl,by decide+kernel,rfl,by decide+kernel,by decide+kernel⟩
abbrev Ey:Stmt:=top 7
theorem Az:Bf ["_law_cell","_law_many","_law_found","_law_rest","_law_first","_law_mixed","_law_k"] ["_law_cell","_law_many"] (Af Ey):=⟨rfl,rfl,rfl,by decide+kernel,rfl,by decide+kernel,by decide+kernel⟩
abbrev G9:Stmt:=top 8
theorem Ml:Bf ["_law_draws_here","_law_most"] ["_law_draws_here","_law_most"] (Af G9):=⟨rfl,rfl,rfl,by decide+kernel,rfl,by decide+kernel,by decide+kernel⟩
abbrev Dt:Stmt:=top 9
theorem Ez:Bf ["_law_draws_here","_law_kind"] ["_law_draws_here"] (Af Dt):=⟨rfl,rfl,rfl,by decide+kernel,rfl,by decide+kernel,by decide+kernel⟩
abbrev Et:Stmt:=top 10
theorem Cp:Bf ["_law_draws_here","_law_many","_law_most","_law_found","_law_k","_law_powers"] ["_law_draws_here","_law_many","_law_most"] (Af Et):=⟨rfl,rfl,rfl,by decide+kernel,rfl,by decide+kernel,by decide+kernel⟩
abbrev Gm:Stmt:=top 11
theorem Eb:Bf ["_law_terms_here","_law_found","_law_powers","_law_weight_here"] ["_law_terms_here"] (Af Gm):=⟨rfl,rfl,rfl,by decide+kernel,rfl,by decide+kernel,by decide+kernel⟩
abbrev Jm:Stmt:=top 13
theorem Bq:Bf ["_law_draws_here","_law_term","_law_some","_law_weight_here","_law_i","_law_j","_law_k"] ["_law_draws_here","_law_term"] (Af Jm):=⟨rfl,rfl,rfl,by decide+kernel,rfl,by decide+kernel,by decide+kernel⟩
abbrev Cw:Stmt:=top 14
theorem Cd:Bf ["_law_draws_here","_law_one","_law_way","_law_at"] ["_law_draws_here","_law_one"] (Af Cw):=⟨rfl,rfl,rfl,by decide+kernel,rfl,by decide+kernel,by decide+kernel⟩
abbrev Hz:Stmt:=top 15
theorem Io:Bf ["_law_script","_law_cell","_law_draws_here","_law_way","_law_one"] ["_law_script"] (Af Hz):=⟨rfl,rfl,rfl,by decide+kernel,rfl,by decide+kernel,by decide+kernel⟩
def Nv (K:PySem.W.Frag):Sp:=fun vs H Q _=>∃(a:Addr) (ns:List Int),vs=[.ref a]/\SqL K H a (ns.map V.int)/\ns.length<=63/\∀H',Q (.bl true) H'
def cell (ns:List Int) (k:Int):Int:=ns.getD k.toNat 0
def Ci (K:PySem.W.Frag):Sp:=fun vs H Q _=>∃(a:Addr) (ns:List Int) (k:Int),vs=[.ref a,.int k]/\SqL K H a (ns.map V.int)/\0<=k/\Q (.int (cell ns k)) H
section
variable {P:Program}{w:World}{K:PySem.W.Frag}{mg:Str->Option Value}{base:Heap}
theorem Ho {f:Addr}{fd:FuncData} (F:Df K mg "_law_cell_at" Cz ["_law_script","_law_k"] f fd) (z_len:mg "len"=none)   :Cal P w K mg base 1 "_law_cell_at" ["_law_script","_law_k"] (Ci K):=by
  refine F.cal (F.fn.ok Hj (fun vs H Q E h=> ?_) (fun cdv A outer s H vs Q E hr h=> ?_))
  . obtain⟨a,ns,k,rfl,_⟩:=h
    rfl
  obtain⟨a,ns,k,rfl,hS,hk,q⟩:=h
  refine S.Bv ⟨_,(S.Ae (S.Dc (S.Am Ti (S.pv 1) (S.Bo Ar rfl z_len PySem.boot_len (S.Aa (S.pv 0) S.Ab)) (Ax _)) (S.Ag (S.Aw (S.G8 Ja (S.pv 0) (S.pv 1) (fun _ _=>rfl)))) S.Bg)
      (S.Ag (S.Aw S.Ac))),?_⟩
  contradiction
  refine⟨a,_,rfl,.inl hS,?_⟩
  rw [List.length_map]
  split
  . rename_i h
    have hk':k.toNat<ns.length:=by omega
    refine Hx hS (v:= .int (cell ns k)) ?_ q
    have e:=Ej (xs:=ns.map V.int) (j:=k.toNat) (v:= .int (cell ns k)) (by
      rw [List.getElem?_map,List.getElem?_eq_getElem hk']
      unfold cell
      rw [List.getD_eq_getElem?_getD,List.getElem?_eq_getElem hk']
      rfl)
    rw [Int.toNat_of_nonneg hk]at e
    exact e
  . rename_i h
    have e:cell ns k=0:=by
      unfold cell
      rw [List.getD_eq_getElem?_getD,List.getElem?_eq_none (by omega)]
      rfl
    rw [e]at q
    exact q
inductive Wh (K:PySem.W.Frag) (H:Hp):V->Bool->Prop where
  | int (i:Int):Wh K H (.int i) true
  | bl (b:Bool):Wh K H (.bl b) false
  | non:Wh K H .non false
  | str (x:Str):Wh K H (.str x) false
  | tup {a:Addr}{xs:List V} (e:H a=some (.tup xs)):Wh K H (.ref a) false
  | lst {a:Addr}{xs:List V} (e:H a=some (.lst xs)):Wh K H (.ref a) false
def Wr (K:PySem.W.Frag):Sp:=fun vs H Q _=>∃v b,vs=[v]/\Wh K H v b/\Q (.bl b) H
theorem isi {H:Hp}{GB:Bool->Prop}{v:V}{t:Value}{T:String}{b:Bool} (ht:Ir K H v t) (hk:PySem.W.kitOne K t (.type T)=some b) (q:GB b):
    ∃x t' T' b',[v,V.ty T]=[x,V.ty T']/\Ir K H x t'/\PySem.W.kitOne K t' (.type T')=some b'/\GB b':=⟨v,t,T,b,rfl,ht,hk,q⟩
theorem Jv {T U:String}{b:Bool} (h:(if(Value.type T==Value.type U)=true then some true else if PySem.W.kitMeta U=true then PySem.W.subIn [] (.type T) (.type U)else none)=some b):PySem.W.kitOne K (.type T) (.type U)=some b:=h
theorem S8:PySem.W.kitOne K (.type "int") (.type "int")=some true:=Jv (by decide+kernel)
theorem Ro:PySem.W.kitOne K (.type "int") (.type "bool")=some false:=Jv (by decide+kernel)
theorem S7:PySem.W.kitOne K (.type "bool") (.type "int")=some true:=Jv (by decide+kernel)
theorem R9:PySem.W.kitOne K (.type "bool") (.type "bool")=some true:=Jv (by decide+kernel)
theorem Rq:PySem.W.kitOne K (.type "NoneType") (.type "int")=some false:=Jv (by decide+kernel)
theorem T8:PySem.W.kitOne K (.type "str") (.type "int")=some false:=Jv (by decide+kernel)
theorem Td:PySem.W.kitOne K (.type "tuple") (.type "int")=some false:=Jv (by decide+kernel)
theorem Sq:PySem.W.kitOne K (.type "list") (.type "int")=some false:=Jv (by decide+kernel)
def Es (K:PySem.W.Frag):Sp:=Wr K
theorem Jj {f:Addr}{fd:FuncData} (F:Df K mg "is_whole" Dq ["thing"] f fd) (z_isinstance:mg "isinstance"=none) (z_int:mg "int"=none) (z_bool:mg "bool"=none)   :Cal P w K mg base 1 "is_whole" ["thing"] (Es K):=by
  refine F.cal (F.fn.ok Jq (fun vs H Q E h=> ?_) (fun cdv A outer s H vs Q E hr h=> ?_))
  . obtain⟨v,b,rfl,_⟩:=h
    rfl
  obtain⟨v,b,rfl,hv,q⟩:=h
  refine S.Bv ⟨_,(S.Ag (S.Aw (S.Ij (S.Bo Gy rfl z_isinstance PyProof.Rows.boot_isinstance (S.Aa (S.pv 0) (S.Aa (S.Bu (v:= .ty "int") rfl z_int PyProof.Rows.boot_int rfl) S.Ab))) (S.Ia (S.Mu (S.Bo Gy rfl z_isinstance PyProof.Rows.boot_isinstance (S.Aa (S.pv 0) (S.Aa (S.Bu (v:= .ty "bool") rfl z_bool PyProof.Rows.boot_bool rfl) S.Ab)))))))),?_⟩
  contradiction
  cases hv with
  | int i=>
    refine isi (.int i) S8 ?_
    contradiction
    refine isi (.int i) Ro ?_
    contradiction
    exact q
  | bl b=>
    refine isi (.bl b) S7 ?_
    contradiction
    refine isi (.bl b) R9 ?_
    contradiction
    exact q
  | non=>
    refine isi .non Rq ?_
    contradiction
    exact q
  | str x=>
    refine isi (.str x) T8 ?_
    contradiction
    exact q
  | tup e=>
    refine isi (.tup e) Td ?_
    contradiction
    exact q
  | lst e=>
    refine isi (.lst e) Sq ?_
    contradiction
    exact q
theorem Wh.mono {H H':Hp}{v:V}{b:Bool} (h:Wh K H v b) (s:Same H H'):Wh K H' v b:=by
  cases h with
  | int i=>exact .int i
  | bl b=>exact .bl b
  | non=>exact .non
  | str x=>exact .str x
  | tup e=>exact .tup (s _ _ e)
  | lst e=>exact .lst (s _ _ e)
theorem Pq:PySem.W.kitOne K (.type "int") (.type "tuple")=some false:=Jv (by decide+kernel)
theorem Oz:PySem.W.kitOne K (.type "NoneType") (.type "tuple")=some false:=Jv (by decide+kernel)
theorem O8:PySem.W.kitOne K (.type "str") (.type "tuple")=some false:=Jv (by decide+kernel)
theorem K9:PySem.W.kitOne K (.type "list") (.type "tuple")=some false:=Jv (by decide+kernel)
theorem Cq:PySem.W.kitOne K (.type "tuple") (.type "tuple")=some true:=Jv (by decide+kernel)
inductive TyA (K:PySem.W.Frag) (H:Hp):V->Value->Prop where
  | of {v:V}{t:Value} (h:Ir K H v t):TyA K H v t
  | tup {a:Addr}{xs:List V} (h:SqT K H a xs):TyA K H (.ref a) (.type "tuple")
theorem Gq {X:Cx}:Dj X (.builtin "isinstance") (fun xs H Q=>∃x t T b,xs=[x,.ty T]/\TyA X.K H x t/\PySem.W.kitOne X.K t (.type T)=some b/\Q (.bl b) H):=by
  intro pins s σ H xs us Q I r h
  obtain⟨x,t,T,b,rfl,ht,hk,q⟩:=h
  cases ht with
  | of ht=>exact Gy pins s σ H _ us Q I r ⟨x,t,T,b,rfl,ht,hk,q⟩
  | tup hs=>exact Ob pins s σ H _ us Q I r ⟨_,_,T,b,rfl,hs,hk,q⟩
theorem isa {H:Hp}{GB:Bool->Prop}{v:V}{t:Value}{T:String}{b:Bool} (ht:TyA K H v t) (hk:PySem.W.kitOne K t (.type T)=some b) (q:GB b):
    ∃x t' T' b',[v,V.ty T]=[x,V.ty T']/\TyA K H x t'/\PySem.W.kitOne K t' (.type T')=some b'/\GB b':=⟨v,t,T,b,rfl,ht,hk,q⟩
theorem at0 {α:Type} (x:α) (r:List α):atI (x::r) 0=some x:=Ej (j:=0) rfl
theorem Qh {X:Cx} (K:PySem.W.Frag) (hu:X.A.units+64<cLine) (h:X.K=K:=by rfl):OpR X (compareOp .Lt) (V0 K):=by
  subst h
  exact Te (by omega)
theorem O5 (xs:List V):Il xs (some 1) none=xs.drop 1:=by
  unfold Il
  rw [HT.Gg,show(some (1:Int))=some ((1:Nat):Int)from rfl,HT.Jk]
  cases xs with
  | nil=>rfl
  | cons x r=>
    rw [Nat.min_eq_left (by simp),List.take_of_length_le (by simp)]
inductive Pw (K:PySem.W.Frag) (H:Hp):V->Bool->Prop where
  | int (i:Int):Pw K H (.int i) (decide (0<=i))
  | no {v:V} (h:Wh K H v false):Pw K H v false
theorem Pw.mono {H H':Hp}{v:V}{b:Bool} (h:Pw K H v b) (s:Same H H'):Pw K H' v b:=by
  cases h with
  | int i=>exact .int i
  | no h=>exact .no (h.mono s)
inductive Tm (K:PySem.W.Frag) (H:Hp):V->Bool->Prop where
  | int (i:Int):Tm K H (.int i) false
  | non:Tm K H .non false
  | str (x:Str):Tm K H (.str x) false
  | lst {a:Addr}{xs:List V} (e:H a=some (.lst xs)):Tm K H (.ref a) false
  | long {a:Addr}{xs:List V} (h:SqT K H a xs) (hl:xs.length≠2):Tm K H (.ref a) false
  | notT {a c:Addr}{w:V}{xs:List V} (h:SqT K H a [.ref c,w]) (e:H c=some (.lst xs)):Tm K H (.ref a) false
  | plen {a c:Addr}{w:V}{xs:List V} (h:SqT K H a [.ref c,w]) (hc:SqT K H c xs) (hl:xs.length≠3):Tm K H (.ref a) false
  | notw {a c:Addr}{w:V}{xs:List V} (h:SqT K H a [.ref c,w]) (hc:SqT K H c xs) (hl:xs.length=3) (hw:Wh K H w false):Tm K H (.ref a) false
  | gen {a c:Addr}{w:Int}{es:List (V × Bool)} (h:SqT K H a [.ref c,.int w]) (hc:SqT K H c (es.map (·.1))) (hl:es.length=3) (hp:∀e∈es,Pw K H e.1 e.2):Tm K H (.ref a) (decide (w≠0)&&(es.map (·.2)).all id)
theorem Tm.mono {H H':Hp}{v:V}{b:Bool} (h:Tm K H v b) (s:Same H H'):Tm K H' v b:=by
  cases h with
  | int i=>exact .int i
  | non=>exact .non
  | str x=>exact .str x
  | lst e=>exact .lst (s _ _ e)
  | long h hl=>exact .long (s.tup h) hl
  | notT h e=>exact .notT (s.tup h) (s _ _ e)
  | plen h hc hl=>exact .plen (s.tup h) (s.tup hc) hl
  | notw h hc hl hw=>exact .notw (s.tup h) (s.tup hc) hl (hw.mono s)
  | gen h hc hl hp=>exact .gen (s.tup h) (s.tup hc) hl fun e he=>(hp e he).mono s
def Ft (K:PySem.W.Frag):Sp:=fun vs H Q _=>∃v b,vs=[v]/\Tm K H v b/\∀H',Same H H'->Q (.bl b) H'
theorem J8 {f:Addr}{fd:FuncData} (F:Df K mg "is_term" Dk ["thing"] f fd) (z_all:mg "all"=none) (z_isinstance:mg "isinstance"=none) (z_tuple:mg "tuple"=none) (z_len:mg "len"=none)  (c_is_whole:Cal P w K mg base 1 "is_whole" ["thing"] (Es K)):Cal P w K mg base 2 "is_term" ["thing"] (Ft K):=by
  refine F.cal (F.fn.ok Ds (fun vs H Q E h=> ?_) (fun cdv A outer s H vs Q E hr h=> ?_))
  . obtain⟨v,b,rfl,_⟩:=h
    rfl
  obtain⟨v,b,rfl,hv,k⟩:=h
  refine S.Bv ⟨_,(S.Ae (S.Dc (S.Ji (S.Ht (S.Ei (S.Dw (S.Bo Gq rfl z_isinstance PyProof.Rows.boot_isinstance (S.Aa (S.pv 0) (S.Aa (S.Bu (v:= .ty "tuple") rfl z_tuple PyProof.Rows.boot_tuple rfl) S.Ab))))) (S.Fj (S.Am Kw (S.Bo Ar rfl z_len PySem.boot_len (S.Aa (S.pv 0) S.Ab)) S.Ac (Ax _))))) (S.Ag (S.Aw S.Dd)) S.Bg)
      (S.Ae (S.Fe (S.pv 0) (S.Di rfl (S.Ao (S.Aq (i:=1) Ds.nd rfl (Or.inl rfl)) (S.Ao (S.Aq (i:=2) Ds.nd rfl (Or.inl rfl)) S.Ce))))
      (S.Ae (S.Dc (S.Ji (S.Ht (S.Ei (S.Dw (S.Bo Gq rfl z_isinstance PyProof.Rows.boot_isinstance (S.Aa (S.pv 1) (S.Aa (S.Bu (v:= .ty "tuple") rfl z_tuple PyProof.Rows.boot_tuple rfl) S.Ab))))) (S.Ht (S.Am Kw (S.Bo Ar rfl z_len PySem.boot_len (S.Aa (S.pv 1) S.Ab)) S.Ac (Ax _)) (S.Ht (S.Ei (S.Dw (S.Bc c_is_whole (hr.mono (by decide)) (S.Aa (S.pv 2) S.Ab)))) (S.Fj (S.Am Kh (S.pv 2) S.Ac (Ax _))))))) (S.Ag (S.Aw S.Dd)) S.Bg)
      (S.Ag (S.Aw (S.Bo (Gw rfl) rfl z_all PyProof.Rows.boot_all (S.Aa (S.Cy (ts:=["power"]) (fs:=[]) rfl (Ba.of (sc:=Af Dk) (N:=["thing","powers","weight"]) rfl rfl (by decide+kernel)) (S.Js (S.pv 1)) (fun _ _ _=>(S.Aq (i:=0) (show List.Nodup (["power"]:List Str)by decide+kernel) rfl (Or.inl rfl))) (fun _ _ _=>S.El) (fun _ _ _=>(S.Ij (S.Bc c_is_whole (hr.mono (by decide)) (S.Aa (S.pv 0) S.Ab)) (S.Ia (S.Du Vh (S.pv 0) S.Ac (Ax _)))))) S.Ab))))))),?_⟩
  contradiction
  have k0:=k _ (Same.refl _)
  cases hv with
  | int i=>
    refine isa (.of (.int i)) Pq ?_
    try contradiction
    exact k0
  | non=>
    refine isa (.of .non) Oz ?_
    try contradiction
    exact k0
  | str x=>
    refine isa (.of (.str x)) O8 ?_
    try contradiction
    exact k0
  | lst e=>
    refine isa (.of (.lst e)) K9 ?_
    try contradiction
    exact k0
  | @long a xs h hl=>
    refine isa (.tup h) Cq ?_
    try contradiction
    refine⟨a,_,rfl,.inr h,?_⟩
    try contradiction
    rw [if_neg (show ¬((xs.length:Nat):Int)=2 by omega)]
    exact k0
  | @notT a c w xs h e=>
    refine isa (.tup h) Cq ?_
    try contradiction
    refine⟨a,_,rfl,.inr h,?_⟩
    try contradiction
    refine Fb h ?_
    try contradiction
    refine isa (.of (.lst e)) K9 ?_
    try contradiction
    exact k0
  | @plen a c w xs h hc hl=>
    refine isa (.tup h) Cq ?_
    try contradiction
    refine⟨a,_,rfl,.inr h,?_⟩
    try contradiction
    refine Fb h ?_
    try contradiction
    refine isa (.tup hc) Cq ?_
    try contradiction
    refine⟨c,_,rfl,.inr hc,?_⟩
    try contradiction
    rw [if_neg (show ¬((xs.length:Nat):Int)=3 by omega)]
    exact k0
  | @notw a c w xs h hc hl hw=>
    refine isa (.tup h) Cq ?_
    try contradiction
    refine⟨a,_,rfl,.inr h,?_⟩
    try contradiction
    refine Fb h ?_
    try contradiction
    refine isa (.tup hc) Cq ?_
    try contradiction
    refine⟨c,_,rfl,.inr hc,?_⟩
    try contradiction
    rw [if_pos (show((xs.length:Nat):Int)=3 by omega)]
    refine⟨_,false,rfl,hw,?_⟩
    try contradiction
    exact k0
  | @gen a c w es h hc hl hp=>
    refine isa (.tup h) Cq ?_
    try contradiction
    refine⟨a,_,rfl,.inr h,?_⟩
    try contradiction
    refine Fb h ?_
    try contradiction
    refine isa (.tup hc) Cq ?_
    try contradiction
    refine⟨c,_,rfl,.inr hc,?_⟩
    try contradiction
    rw [List.length_map,if_pos (show((es.length:Nat):Int)=3 by omega)]
    refine⟨_,true,rfl,.int w,?_⟩
    try contradiction
    by_cases w0:w=0
    . rw [if_pos w0]
      rw [decide_eq_false (fun z=>z w0),Bool.false_and]at k0
      exact k0
    rw [if_neg w0]
    rw [decide_eq_true (show w≠0 from w0),Bool.true_and]at k
    refine⟨⟨_,hc⟩,fun p1 hp1=>Je (es:=es) (inj:=(·.1)) (fun e=> .bl e.2) (by rw [hl];decide) hp1 (Kv hc) ?_ ?_⟩
    . intro e H2 R he s2 hR
      contradiction
      have hw:=(hp e he).mono s2
      obtain⟨v,b⟩:=e
      cases hw with
      | int i=>
        refine⟨_,true,rfl,.int i,?_⟩
        try contradiction
        exact hR _ (Same.refl _)
      | no hw=>
        refine⟨_,false,rfl,hw,?_⟩
        try contradiction
        exact hR _ (Same.refl _)
    intro H2 s2 h2
    have em:es.map (fun e=>V.bl e.2)=(es.map (·.2)).map V.bl:=by rw [List.map_map];rfl
    rw [em]at h2
    refine⟨p1,_,rfl,.of h2,?_⟩
    exact k _ s2
def upT (ks:List (List Int)):Bool:=(List.range (ks.length-1)).all fun i=>HT.lexLt (ks.getD i []) (ks.getD (i+1) [])
structure Jt (K:PySem.W.Frag) (H:Hp) (t:Prt):Prop where
  pr:Ub K H t
  tm:Tm K H (.ref t.1) true
theorem Jt.mono {H H':Hp}{t:Prt} (h:Jt K H t) (s:Same H H'):Jt K H' t:=⟨⟨s.tup h.pr.pr,s.tup h.pr.tu⟩,h.tm.mono s⟩
inductive Fm (K:PySem.W.Frag) (H:Hp):V->Bool->Prop where
  | int (i:Int):Fm K H (.int i) false
  | bl (b:Bool):Fm K H (.bl b) false
  | non:Fm K H .non false
  | str (x:Str):Fm K H (.str x) false
  | lst {a:Addr}{xs:List V} (e:H a=some (.lst xs)):Fm K H (.ref a) false
  | bad {a:Addr}{es:List (V × Bool)} (h:SqT K H a (es.map (·.1))) (hl:es.length<=30) (hw:∀e∈es,Tm K H e.1 e.2) (hb:(es.map (·.2)).all id=false):Fm K H (.ref a) false
  | good {a:Addr}{ts:List Prt} (h:SqT K H a (ts.map fun t=>V.ref t.1)) (hl:ts.length<=30) (hw:∀t∈ts,Jt K H t):Fm K H (.ref a) (upT (ts.map Prt.ks))
theorem Sd:PySem.W.kitOne K (.type "bool") (.type "tuple")=some false:=Jv (by decide+kernel)
def Fx (K:PySem.W.Frag):Sp:=fun vs H Q _=>∃v b,vs=[v]/\Fm K H v b/\∀H',Same H H'->Q (.bl b) H'
theorem Ko {f:Addr}{fd:FuncData} (F:Df K mg "is_form" Cj ["thing"] f fd) (z_all:mg "all"=none) (z_isinstance:mg "isinstance"=none) (z_tuple:mg "tuple"=none) (z_zip:mg "zip"=none)  (c_is_term:Cal P w K mg base 2 "is_term" ["thing"] (Ft K)):Cal P w K mg base 3 "is_form" ["thing"] (Fx K):=by
  refine F.cal (F.fn.ok J7 (fun vs H Q E h=> ?_) (fun cdv A outer s H vs Q E hr h=> ?_))
  . obtain⟨v,b,rfl,_⟩:=h
    rfl
  obtain⟨v,b,rfl,hv,k⟩:=h
  refine S.Bv ⟨_,(S.Ae (S.Dc (S.Ji (S.Ht (S.Ei (S.Dw (S.Bo Gq rfl z_isinstance PyProof.Rows.boot_isinstance (S.Aa (S.pv 0) (S.Aa (S.Bu (v:= .ty "tuple") rfl z_tuple PyProof.Rows.boot_tuple rfl) S.Ab))))) (S.Fj (S.Ei (S.Dw (S.Bo (Gw rfl) rfl z_all PyProof.Rows.boot_all (S.Aa (S.Cy (ts:=["term"]) (fs:=[]) rfl (Ba.of (sc:=Af Cj) (N:=["thing"]) rfl rfl (by decide+kernel)) (S.Js (S.pv 0)) (fun _ _ _=>(S.Aq (i:=0) (show List.Nodup (["term"]:List Str)by decide+kernel) rfl (Or.inl rfl))) (fun _ _ _=>S.El) (fun _ _ _=>(S.Bc c_is_term (hr.mono (by decide)) (S.Aa (S.pv 0) S.Ab)))) S.Ab))))))) (S.Ag (S.Aw S.Dd)) S.Bg)
      (S.Ag (S.Aw (S.Bo (Gw rfl) rfl z_all PyProof.Rows.boot_all (S.Aa (S.Cy (ts:=["one","other"]) (fs:=[]) rfl (Ba.of (sc:=Af Cj) (N:=["thing"]) rfl rfl (by decide+kernel)) (S.En true true rfl z_zip (S.Aa (S.pv 0) (S.Aa (S.Bh Cv (S.pv 0) (S.Bk S.Ac) S.Bs) S.Ab))) (fun _ _ _=>(S.Dn K 2 rfl rfl (S.Ao (S.Aq (i:=0) (show List.Nodup (["one","other"]:List Str)by decide+kernel) rfl (Or.inl rfl) (hf:=Or.inr rfl)) (S.Ao (S.Aq (i:=1) (show List.Nodup (["one","other"]:List Str)by decide+kernel) rfl (Or.inl rfl) (hf:=Or.inr rfl)) S.Ce)))) (fun _ _ _=>S.El) (fun _ _ _=>(S.Du (Qh K hr.units) (S.G8 (Lq K) (S.pv 0) S.Ac (fun _ _=>rfl)) (S.G8 (Lq K) (S.pv 1) S.Ac (fun _ _=>rfl)) (Ax _)))) S.Ab))))),?_⟩
  contradiction
  cases hv with
  | int i=>
    refine isa (.of (.int i)) Pq ?_
    try contradiction
    exact k _ (Same.refl _)
  | bl b=>
    refine isa (.of (.bl b)) Sd ?_
    try contradiction
    exact k _ (Same.refl _)
  | non=>
    refine isa (.of .non) Oz ?_
    try contradiction
    exact k _ (Same.refl _)
  | str x=>
    refine isa (.of (.str x)) O8 ?_
    try contradiction
    exact k _ (Same.refl _)
  | lst e=>
    refine isa (.of (.lst e)) K9 ?_
    try contradiction
    exact k _ (Same.refl _)
  | @bad a es h hl hw hb=>
    refine isa (.tup h) Cq ?_
    try contradiction
    refine⟨⟨_,h⟩,fun p1 hp1=>Je (es:=es) (inj:=(·.1)) (fun e=> .bl e.2) (Nat.le_trans hl (by decide)) hp1 (Kv h) ?_ ?_⟩
    . intro e H2 R he s2 hR
      contradiction
      exact⟨_,_,rfl,(hw e he).mono s2,hR⟩
    intro H2 s2 h2
    have em:es.map (fun e=>V.bl e.2)=(es.map (·.2)).map V.bl:=by rw [List.map_map];rfl
    rw [em]at h2
    refine⟨p1,_,rfl,.of h2,?_⟩
    rw [if_pos hb]
    exact k _ s2
  | @good a ts h hl hw=>
    refine isa (.tup h) Cq ?_
    try contradiction
    refine⟨⟨_,h⟩,fun p1 hp1=>Je (es:=ts) (inj:=fun t=>V.ref t.1) (fun _=> .bl true) (Nat.le_trans hl (by decide)) hp1 (Kv h) ?_ ?_⟩
    . intro e H2 R he s2 hR
      contradiction
      exact⟨_,_,rfl,(hw e he).tm.mono s2,hR⟩
    intro H2 s2 h2
    have em:ts.map (fun _=>V.bl true)=(ts.map fun _=>true).map V.bl:=by rw [List.map_map];rfl
    rw [em]at h2
    refine⟨p1,_,rfl,.of h2,?_⟩
    rw [if_neg (by simp)]
    refine⟨a,_,rfl,s2.tup h,fun z3 H3 s3 h3=> ?_⟩
    rw [O5,<-List.map_drop]at h3
    have s23:=s2.trans s3
    refine⟨a,z3,rfl,⟨_,s23.tup h⟩,⟨_,h3⟩,fun p4 n4=>Ny (xs:=ts.map fun t=>V.ref t.1) (ys:=(ts.drop 1).map fun t=>V.ref t.1) (ts.length-1) (by rw [List.length_map,List.length_map,List.length_drop];omega) (fun i=> .bl (HT.lexLt ((ts.map Prt.ks).getD i []) ((ts.map Prt.ks).getD (i+1) []))) (Nat.le_trans (show ts.length-1<=30 by omega) (by decide)) n4 (fun H' s'=>(s23.trans s').tup h) (fun H' s'=>s'.tup h3) ?_ ?_⟩
    . intro i H4 q R hi s4 hq hR
      have e1:(ts.map fun t=>V.ref t.1).getD i .non= .ref (ts[i]'(by omega)).1:=by
        rw [List.getD_eq_getElem?_getD,List.getElem?_map,List.getElem?_eq_getElem (by omega)]
        rfl
      have e2:((ts.drop 1).map fun t=>V.ref t.1).getD i .non= .ref (ts[i+1]'(by omega)).1:=by
        rw [List.getD_eq_getElem?_getD,List.getElem?_map,List.getElem?_drop,Nat.add_comm 1 i,List.getElem?_eq_getElem (by omega)]
        rfl
      have e3:(ts.map Prt.ks).getD i []=(ts[i]'(by omega)).ks:=by
        rw [List.getD_eq_getElem?_getD,List.getElem?_map,List.getElem?_eq_getElem (by omega)]
        rfl
      have e4:(ts.map Prt.ks).getD (i+1) []=(ts[i+1]'(by omega)).ks:=by
        rw [List.getD_eq_getElem?_getD,List.getElem?_map,List.getElem?_eq_getElem (by omega)]
        rfl
      rw [e1,e2]at hq
      rw [e3,e4]at hR
      have t1:=((hw _ (List.getElem_mem (show i<ts.length by omega))).mono (s23.trans s4)).pr
      have t2:=((hw _ (List.getElem_mem (show i+1<ts.length by omega))).mono (s23.trans s4)).pr
      refine Fb (.of hq) ?_
      contradiction
      refine Nu t1.pr (at0 _ _) (Nu t2.pr (at0 _ _) ?_)
      try contradiction
      exact⟨_,_,_,_,rfl,rfl,t1.tu,t2.tu,hR _ (Same.refl _)⟩
    intro H4 s4 h4
    have em4:(List.range (ts.length-1)).map (fun i=>V.bl (HT.lexLt ((ts.map Prt.ks).getD i []) ((ts.map Prt.ks).getD (i+1) [])))=((List.range (ts.length-1)).map fun i=>HT.lexLt ((ts.map Prt.ks).getD i []) ((ts.map Prt.ks).getD (i+1) [])).map V.bl:=by rw [List.map_map];rfl
    rw [em4]at h4
    have eu:((List.range (ts.length-1)).map fun i=>HT.lexLt ((ts.map Prt.ks).getD i []) ((ts.map Prt.ks).getD (i+1) [])).all id=upT (ts.map Prt.ks):=by
      unfold upT
      rw [List.all_map,List.length_map]
      rfl
    refine⟨p4,_,rfl,.of h4,?_⟩
    rw [eu]
    exact k _ (s23.trans s4)
theorem Qn {x:Int} (h:x.natAbs<2^60):Builtin.Int.intBits x<=64:=Nat.le_trans (PySem.intBits_le_iff.mpr h) (by decide)
structure Dr (l:Addr) (H H':Hp) (ms:List Int):Prop where
  sm:∀b u,b≠l->H b=some u->H' b=some u
  it:H' l=some (.lst (ms.map V.int))
theorem Dr.trans {l:Addr}{H H1 H2:Hp}{ms ns:List Int} (a:Dr l H H1 ms) (b:Dr l H1 H2 ns):Dr l H H2 ns:=⟨fun c u n e=>b.sm c u n (a.sm c u n e),b.it⟩
theorem Dr.same {l:Addr}{H H1 H2:Hp}{ms:List Int} (a:Dr l H H1 ms) (s:Same H1 H2):Dr l H H2 ms:=⟨fun c u n e=>s _ _ (a.sm c u n e),s _ _ a.it⟩
theorem Dr.of {l:Addr}{H H':Hp}{ms:List Int} (e:H l=some (.lst (ms.map V.int))) (s:Same H H'):Dr l H H' ms:=⟨fun c u _ e=>s _ _ e,s _ _ e⟩
def Bj (K:PySem.W.Frag):Sp:=fun vs H Q _=>∃(l:Addr) (m:Int) (ns:List Int),vs=[.ref l,.int m]/\H l=some (.lst (ns.map V.int))/\0<m/\∀r H' ms,0<=r->r<m->Dr l H H' ms->Q (.int r) H'
theorem Mr {f:Addr}{fd:FuncData} (F:Df K mg "_law_next" G9 ["_law_draws_here","_law_most"] f fd)    :Cal P w K mg base 1 "_law_next" ["_law_draws_here","_law_most"] (Bj K):=by
  refine F.cal (F.fn.ok Ml (fun vs H Q E h=> ?_) (fun cdv A outer s H vs Q E hr h=> ?_))
  . obtain⟨l,m,ns,rfl,_⟩:=h
    rfl
  obtain⟨l,m,ns,rfl,hS,m0,k⟩:=h
  refine S.Bv ⟨_,(S.Ae (S.Dc (S.Am (Pa hr.units) (S.pv 0) (S.Br S.Ab) (Ax _)) (S.Ag (S.Aw S.Ac)) S.Bg)
      (S.Ag (S.Aw (S.Aj Fz (S.Ep PySem.F.plainAttrs_list PySem.F.slot_list_pop PySem.F.type_list_pop N5 (S.pv 0) (S.Aa S.Ac S.Ab)) (S.pv 1))))),?_⟩
  contradiction
  refine⟨by decide,fun p hp=> ?_⟩
  have s1:=Same.upd hp (.lst [])
  have g1:=s1 _ _ hS
  refine Ow (ms:=[]) (.of g1) (.of Ad) ?_
  try contradiction
  cases ns with
  | nil=>
    rw [if_pos rfl]
    exact k 0 _ [] (by omega) m0 (.of hS s1)
  | cons x r=>
    rw [if_neg (by simp)]
    refine⟨.inl ⟨rfl,_,.of g1⟩,l,_,0,0,.int x,rfl,rfl,g1,by decide,by decide,by simp [seqIndex?],rfl,?_⟩
    try contradiction
    refine⟨m0,k _ _ r (Int.emod_nonneg _ (by omega)) (Int.emod_lt_of_pos _ m0) ⟨fun b u n e=> ?_,Ad⟩⟩
    rw [Al n]
    exact s1 _ _ e
theorem Bw {H:Hp}{Q:VK}{E:XK}{l:Addr}{m:Int}{ns:List Int} (h:H l=some (.lst (ns.map V.int))) (m0:0<m) (k:∀r H' ms,0<=r->r<m->Dr l H H' ms->Q (.int r) H'):Bj K [.ref l,.int m] H Q E:=⟨l,m,ns,rfl,h,m0,k⟩
def Ek (K:PySem.W.Frag):Sp:=fun vs H Q _=>∃(l:Addr) (ns:List Int),vs=[.ref l]/\H l=some (.lst (ns.map V.int))/\∀r H' ms,Dr l H H' ms->Q (.int r) H'
theorem Iz {f:Addr}{fd:FuncData} (F:Df K mg "_law_weight" Dt ["_law_draws_here"] f fd)   (c_q_next:Cal P w K mg base 1 "_law_next" ["_law_draws_here","_law_most"] (Bj K)):Cal P w K mg base 2 "_law_weight" ["_law_draws_here"] (Ek K):=by
  refine F.cal (F.fn.ok Ez (fun vs H Q E h=> ?_) (fun cdv A outer s H vs Q E hr h=> ?_))
  . obtain⟨l,ns,rfl,_⟩:=h
    rfl
  obtain⟨l,ns,rfl,hS,k⟩:=h
  refine S.Bv ⟨_,(S.Ae (S.Ay (i:=1) Ez.nd rfl (Or.inl rfl) (S.Bc c_q_next (hr.mono (by decide)) (S.Aa (S.pv 0) (S.Aa S.Ac S.Ab))))
      (S.Ae (S.Dc (S.Am Kh (S.pv 1) S.Ac (Ax _)) (S.Ag (S.Aw (S.Aj M6 (S.Bc c_q_next (hr.mono (by decide)) (S.Aa (S.pv 0) (S.Aa (S.Aj G7 S.Ac (S.Aj Dl S.Ac S.Ac)) S.Ab))) (S.Aj Dl S.Ac S.Ac)))) S.Bg)
      (S.Ag (S.Aw (S.Aj M6 (S.Bc c_q_next (hr.mono (by decide)) (S.Aa (S.pv 0) (S.Aa S.Ac S.Ab))) S.Ac))))),?_⟩
  contradiction
  refine Bw hS (by decide) fun r H1 ms r0 r1 d1=> ?_
  try contradiction
  split
  . refine⟨⟨by decide,by decide,by decide⟩,.of_left (Qn (by decide)),Bw d1.it (by decide) fun r2 H2 ms2 _ _ d2=> ?_⟩
    try contradiction
    exact⟨⟨by decide,by decide,by decide⟩,k _ _ _ (d1.trans d2)⟩
  . refine Bw d1.it (by decide) fun r2 H2 ms2 _ _ d2=> ?_
    try contradiction
    exact k _ _ _ (d1.trans d2)
theorem Dr.tup {l a:Addr}{H H':Hp}{ms:List Int}{zs xs:List V} (d:Dr l H H' ms) (hl:H l=some (.lst zs)) (e:H a=some (.tup xs)):H' a=some (.tup xs):=d.sm _ _ (Ka e hl (fun z=>nomatch z)) e
structure Tn (H:Hp) (t:Prt) (w:Int):Prop where
  pr:H t.1=some (.tup [.ref t.2.1,.int w])
  tu:H t.2.1=some (.tup (t.ks.map V.int))
  ln:t.ks.length=3
  nn:∀x∈t.ks,0<=x
  ew:t.2.2.2= .int w
theorem Tn.mono {H H':Hp}{t:Prt}{w:Int} (h:Tn H t w) (s:Same H H'):Tn H' t w:=⟨s _ _ h.pr,s _ _ h.tu,h.ln,h.nn,h.ew⟩
theorem Tn.dr {l:Addr}{H H':Hp}{ms:List Int}{zs:List V}{t:Prt}{w:Int} (h:Tn H t w) (d:Dr l H H' ms) (hl:H l=some (.lst zs)):Tn H' t w:=⟨d.tup hl h.pr,d.tup hl h.tu,h.ln,h.nn,h.ew⟩
theorem Tn.put {f:Addr}{H:Hp}{zs ys:List V}{t:Prt}{w:Int} (h:Tn H t w) (hf:H f=some (.lst zs)):Tn (upd H f (.lst ys)) t w:=
  ⟨by rw [Al (Ka h.pr hf (fun z=>nomatch z))];exact h.pr,by rw [Al (Ka h.tu hf (fun z=>nomatch z))];exact h.tu,h.ln,h.nn,h.ew⟩
structure TmI (H H':Hp) (l f:Addr) (ms:List Int) (ts:List Prt):Prop where
  dr:Dr l H H' ms
  it:H' f=some (.lst (ts.map fun t=>V.ref t.1))
  al:∀t∈ts,∃w,Tn H' t w
def Fv (K:PySem.W.Frag):Sp:=fun vs H Q _=>∃(l:Addr) (ns:List Int),vs=[.ref l,.int 8,.int 3]/\H l=some (.lst (ns.map V.int))/\∀f H' ms ts,TmI H H' l f ms ts->ts.length<=8->Q (.ref f) H'
theorem Kd {f:Addr}{fd:FuncData} (F:Df K mg "_law_terms" Et ["_law_draws_here","_law_many","_law_most"] f fd) (z_range:mg "range"=none)  (c_q_next:Cal P w K mg base 1 "_law_next" ["_law_draws_here","_law_most"] (Bj K)) (c_q_weight:Cal P w K mg base 2 "_law_weight" ["_law_draws_here"] (Ek K)):Cal P w K mg base 3 "_law_terms" ["_law_draws_here","_law_many","_law_most"] (Fv K):=by
  refine F.cal (F.fn.ok Cp (fun vs H Q E h=> ?_) (fun cdv A outer s H vs Q E hr h=> ?_))
  . obtain⟨l,ns,rfl,_⟩:=h
    rfl
  obtain⟨l,ns,rfl,hS,k⟩:=h
  refine S.Bv ⟨_,(S.Ae (S.Ay (i:=3) Cp.nd rfl (Or.inl rfl) (S.Br S.Ab))
      (S.Ae (S.Eh PassesOwn.never rfl (S.Ck rfl z_range (S.Aa (S.Bc c_q_next (hr.mono (by decide)) (S.Aa (S.pv 0) (S.Aa (S.Aj Bp (S.pv 1) S.Ac) S.Ab))) S.Ab)) (S.Aq (i:=4) Cp.nd rfl (Or.inl rfl)) (S.Ae (S.Ay (i:=5) Cp.nd rfl (Or.inl rfl) (S.Ah (S.Aa (S.Bc c_q_next (hr.mono (by decide)) (S.Aa (S.pv 0) (S.Aa (S.Aj Bp (S.pv 2) S.Ac) S.Ab))) (S.Aa (S.Bc c_q_next (hr.mono (by decide)) (S.Aa (S.pv 0) (S.Aa (S.Aj Bp (S.pv 2) S.Ac) S.Ab))) (S.Aa (S.Bc c_q_next (hr.mono (by decide)) (S.Aa (S.pv 0) (S.Aa (S.Aj Bp (S.pv 2) S.Ac) S.Ab))) S.Ab)))))
      (S.Ag (S.Dp (S.Ep PySem.F.plainAttrs_list PySem.F.slot_list_append PySem.F.type_list_append Dm (S.pv 3) (S.Aa (S.Ah (S.Aa (S.pv 5) (S.Aa (S.Bc c_q_weight (hr.mono (by decide)) (S.Aa (S.pv 0) S.Ab)) S.Ab))) S.Ab))))))
      (S.Ag (S.Aw (S.pv 3))))),?_⟩
  contradiction
  refine⟨by decide,fun f hf=> ?_⟩
  have s1:=Same.upd hf (.lst [])
  have g1:=s1 _ _ hS
  have nl:l≠f:=Ai hS hf
  refine Bw g1 (by decide) fun c H2 ms c0 c8 d2=> ?_
  try contradiction
  have d2':Dr l H H2 ms:=⟨fun b u n e=>d2.sm b u n (s1 _ _ e),d2.it⟩
  have f2:H2 f=some (.lst []):=d2.sm _ _ (Ne.symm nl) Ad
  refine⟨by omega,by omega,?_⟩
  refine Vz c.toNat (fun i=> .int (0+(i:Nat))) (fun i σ' H'=>∃(ms:List Int) (ts:List Prt) (o4 o5:Option V),σ'=[some (.ref l),some (.int 8),some (.int 3),some (.ref f),o4,o5]/\TmI H H' l f ms ts/\ts.length=i) ⟨ms,[],_,_,rfl,⟨d2',f2,by simp⟩,rfl⟩ ?_ ?_ ?_
  . rintro i σ' H' _
    exact Fo
  . rintro i σ' H' hi ⟨ms,ts,o4,o5,rfl,ti,tl⟩
    contradiction
    refine Bw ti.dr.it (by decide) fun x1 H3 m3 x10 _ d3=> ?_
    try contradiction
    refine Bw d3.it (by decide) fun x2 H4 m4 x20 _ d4=> ?_
    try contradiction
    refine Bw d4.it (by decide) fun x3 H5 m5 x30 _ d5=> ?_
    try contradiction
    have d35:=(d3.trans d4).trans d5
    refine⟨by decide,fun p hp=> ?_⟩
    have sp:=Same.upd hp (.tup [V.int x1,V.int x2,V.int x3])
    have gp:upd H5 p (.tup [V.int x1,V.int x2,V.int x3]) p=some (.tup [V.int x1,V.int x2,V.int x3]):=Ad
    generalize upd H5 p (.tup [V.int x1,V.int x2,V.int x3])=H6 at sp gp
    have d6:=d35.same sp
    refine⟨.inl ⟨rfl,_,.of (d6.sm _ _ (Ne.symm nl) ti.it)⟩,l,m5,rfl,d6.it,fun w H7 m7 d7 p1 hp1=> ?_⟩
    have sp1:=Same.upd hp1 (.tup [V.ref p,V.int w])
    have gp1:upd H7 p1 (.tup [V.ref p,V.int w]) p1=some (.tup [V.ref p,V.int w]):=Ad
    generalize upd H7 p1 (.tup [V.ref p,V.int w])=H8 at sp1 gp1
    have dd:Dr l H' H8 m7:=(d6.trans d7).same sp1
    have f8:=dd.sm _ _ (Ne.symm nl) ti.it
    have tn:Tn H8 ((p1,p,[x1,x2,x3],.int w):Prt) w:=⟨gp1,sp1 _ _ (d7.tup d6.it gp),rfl,fun x hx=>by
      have hx':x=x1\/x=x2\/x=x3:=by simpa [Prt.ks]using hx
      rcases hx' with rfl | rfl | rfl<;>assumption,rfl⟩
    refine⟨f,_,_,rfl,rfl,f8,?_,m7,ts++ [(p1,p,[x1,x2,x3],.int w)],_,_,rfl,⟨⟨fun b u n e=> ?_,?_⟩,?_,fun t ht=> ?_⟩,?_⟩
    . rw [List.length_map]
      exact Nat.lt_of_lt_of_le (show ts.length<9 by omega) (by decide)
    . rw [Al (Ai e hf)]
      exact dd.sm b u n (ti.dr.sm b u n e)
    . rw [Al nl]
      exact dd.it
    . rw [Ad,List.map_append]
      rfl
    . rcases List.mem_append.mp ht with ht | ht
      . obtain⟨w',h⟩:=ti.al t ht
        exact⟨w',(h.dr dd ti.dr.it).put f8⟩
      . have e:t=(p1,p,[x1,x2,x3],.int w):=by simpa using ht
        rw [e]
        exact⟨w,tn.put f8⟩
    . rw [List.length_append,tl]
      rfl
  . rintro σ' H' ⟨ms,ts,o4,o5,rfl,ti,tl⟩
    contradiction
    exact k f H' ms ts ti (by omega)
theorem J5 {kvs:List (List Key × V)}{k:List Key}{v w:V} (h:Gz kvs k=some w):(putK kvs k v).map (·.1)=kvs.map (·.1):=by
  unfold putK
  rw [Dg,h,Option.isSome_some,if_pos rfl,List.map_map]
  refine List.map_congr_left fun p _=> ?_
  show(if p.1=k then(p.1,v)else p).1=p.1
  split<;>rfl
structure KyW (e:List Key × V):Prop where
  ky:∃ks:List Int,e.1=ks.map Sum.inl/\ks.length=3/\∀x∈ks,0<=x
  vl:∃w:Int,e.2= .int w
structure SuI (H H':Hp) (d:Addr) (i:Nat) (kvs:List (List Key × V)):Prop where
  sm:Same H H'
  it:H' d=some (.dT kvs)
  le:kvs.length<=i
  nd:(kvs.map (·.1)).Nodup
  al:∀e∈kvs,KyW e
theorem Pu (ks:List Int):(ks.map Sum.inl:List Key).map kV=ks.map V.int:=by rw [List.map_map];rfl
theorem SuI.put {H H' H2:Hp}{d:Addr}{i:Nat}{kvs:List (List Key × V)} (h:SuI H H' d i kvs) (n:H d=none) {ks:List Int}{w:Int} (hl:ks.length=3) (hn:∀x∈ks,0<=x) (e2:H2=upd H' d (.dT (putK kvs (ks.map Sum.inl) (.int w)))):SuI H H2 d (i+1) (putK kvs (ks.map Sum.inl) (.int w)):=by
  subst e2
  refine⟨h.sm.put n,Ad,Nat.le_trans (Cr _ _ _) (Nat.add_le_add_right h.le 1),?_,fun e he=> ?_⟩
  . cases e:Gz kvs (ks.map Sum.inl)with
    | none=>exact Qc _ h.nd e
    | some v=>
      rw [J5 e]
      exact h.nd
  . have:e∈kvs\/e=(ks.map Sum.inl,.int w):=by
      unfold putK at he
      split at he
      . obtain⟨p,hp,rfl⟩:=List.mem_map.mp he
        split
        . rename_i c
          exact .inr (by rw [c])
        . exact .inl hp
      . rcases List.mem_append.mp he with he | he
        . exact .inl he
        . exact .inr (by simpa using he)
    rcases this with he | rfl
    . exact h.al e he
    . exact⟨⟨ks,rfl,hl,hn⟩,w,rfl⟩
theorem Tj {H:Hp}:∀vs:List (V × (List Key × V)),(∀x∈vs,∃(t:Prt) (w:Int),x.1= .ref t.1/\Tn H t w/\(t.ks.map Sum.inl:List Key)=x.2.1/\w≠0)->
    ∃ts:List Prt,ts.map (fun t=>V.ref t.1)=vs.map (·.1)/\(∀t∈ts,∃w,Tn H t w/\w≠0)/\ts.map (fun t=>(t.ks.map Sum.inl:List Key))=vs.map (fun x=>x.2.1)
  | [],_=>⟨[],rfl,by simp,rfl⟩
  | x::r,h=>by
    obtain⟨t,w,a,b,c,d⟩:=h x (.head _)
    obtain⟨ts,e1,e2,e3⟩:=Tj r fun y hy=>h y (.tail _ hy)
    refine⟨t::ts,by rw [List.map_cons,List.map_cons,e1,a],fun u hu=> ?_,by rw [List.map_cons,List.map_cons,e3,c]⟩
    rcases List.mem_cons.mp hu with rfl | hu
    . exact⟨w,b,d⟩
    . exact e2 u hu
structure Fmd (H:Hp) (a:Addr) (us:List Prt):Prop where
  it:H a=some (.tup (us.map fun t=>V.ref t.1))
  al:∀t∈us,∃w,Tn H t w/\w≠0
  pw:us.Pairwise (fun x y=>HT.lexLt x.ks y.ks=true)
  le:us.length<=8
def Ju (K:PySem.W.Frag):Sp:=fun vs H Q _=>∃(f:Addr) (ts:List Prt),vs=[.ref f]/\H f=some (.lst (ts.map fun t=>V.ref t.1))/\(∀t∈ts,∃w,Tn H t w)/\ts.length<=8/\∀a H' us,Same H H'->Fmd H' a us->Q (.ref a) H'
theorem Nf {f:Addr}{fd:FuncData} (F:Df K mg "_law_sum" Gm ["_law_terms_here"] f fd) (z_tuple:mg "tuple"=none) (z_sorted:mg "sorted"=none)   :Cal P w K mg base 1 "_law_sum" ["_law_terms_here"] (Ju K):=by
  refine F.cal (F.fn.ok Eb (fun vs H Q E h=> ?_) (fun cdv A outer s H vs Q E hr h=> ?_))
  . obtain⟨f,ts,rfl,_⟩:=h
    rfl
  obtain⟨f,ts,rfl,hF,ht,h8,k⟩:=h
  refine S.Bv ⟨_,(S.Ae (S.Ay (i:=1) Eb.nd rfl (Or.inl rfl) S.Gk)
      (S.Ae (S.Eh PassesOwn.never rfl (S.Gd (S.pv 0)) (S.Di rfl (S.Ao (S.Aq (i:=2) Eb.nd rfl (Or.inl rfl)) (S.Ao (S.Aq (i:=3) Eb.nd rfl (Or.inl rfl)) S.Ce))) (S.Ag (S.Iu (hu1 hr.units) (S.pv 1) (S.pv 2) (S.Aj Bp (S.Gx (hu1 hr.units) (S.pv 1) (S.pv 2) S.Ac ⟨rfl,rfl,rfl,rfl⟩) (S.pv 3)) rfl)))
      (S.Ag (S.Aw (S.Dy Gu rfl z_tuple PyProof.Rows.boot_tuple (S.Aa (S.Bo (Kl hr.units) rfl z_sorted PyProof.Rows.boot_sorted (S.Aa (S.Cy (ts:=["_law_powers","_law_weight_here"]) (fs:=[]) rfl (Ba.of (sc:=Af Gm) (N:=["_law_terms_here","_law_found","_law_powers","_law_weight_here"]) rfl rfl (by decide+kernel)) (S.Gs (S.pv 1) ⟨rfl,rfl,rfl,rfl⟩) (fun _ _ _=>(S.Dn K 2 rfl rfl (S.Ao (S.Aq (i:=0) (show List.Nodup (["_law_powers","_law_weight_here"]:List Str)by decide+kernel) rfl (Or.inl rfl) (hf:=Or.inr rfl)) (S.Ao (S.Aq (i:=1) (show List.Nodup (["_law_powers","_law_weight_here"]:List Str)by decide+kernel) rfl (Or.inl rfl) (hf:=Or.inr rfl)) S.Ce)))) (fun _ _ _=>(S.Jp (S.Am Kw (S.pv 1) S.Ac (Ax _)))) (fun _ _ _=>(S.Ah (S.Aa (S.pv 0) (S.Aa (S.pv 1) S.Ab))))) S.Ab)) S.Ab)))))),?_⟩
  contradiction
  intro d hd
  have s1:=Same.upd hd (.dT [])
  refine⟨⟨_,.of (s1 _ _ hF)⟩,Rf (es:=ts) (inj:=fun t=>V.ref t.1) (fun pre σ' H'=>∃(kvs:List (List Key × V)) (o2 o3:Option V),σ'=[some (.ref f),some (.ref d),o2,o3]/\SuI H H' d pre.length kvs) ⟨[],_,_,rfl,⟨s1,Ad,Nat.le_refl _,by simp,by simp⟩⟩ ?_ ?_ ?_⟩
  . rintro pre σ' H' ⟨kvs,o2,o3,rfl,si⟩
    exact Hv (.of (si.sm _ _ hF))
  . rintro pre t post σ' H' hE ⟨kvs,o2,o3,rfl,si⟩
    have hm:t∈ts:=by rw [hE];simp
    obtain⟨w,tn⟩:=ht t hm
    have tn':=tn.mono si.sm
    refine Fb (.of tn'.pr) ?_
    contradiction
    have ek:H' t.2.1=some (.tup ((t.ks.map Sum.inl:List Key).map kV)):=by rw [Pu];exact tn'.tu
    refine⟨.inr ⟨kvs,.inl si.it⟩,_,O1.t si.it ek,?_⟩
    have eg:∃v:Int,(Gz kvs (t.ks.map Sum.inl)).getD (.int 0)= .int v:=by
      cases e:Gz kvs (t.ks.map Sum.inl)with
      | none=>exact⟨0,rfl⟩
      | some u=>
        obtain⟨p,hp,ep⟩:∃p∈kvs,p.2=u:=by
          obtain⟨p,hp,ep⟩:=Option.map_eq_some_iff.mp (show(kvs.find? fun kv=>decide (kv.1=t.ks.map Sum.inl)).map (·.2)=some u from e)
          exact⟨p,List.mem_of_find?_eq_some hp,ep⟩
        obtain⟨v,hv⟩:=(si.al p hp).vl
        exact⟨v,by rw [<-ep,hv];rfl⟩
    obtain⟨v,ev⟩:=eg
    rw [ev]
    try contradiction
    refine⟨d,_,rfl,O9.t si.it ek ?_,putK kvs (t.ks.map Sum.inl) (.int (v+w)),_,_,rfl,?_⟩
    . exact Nat.lt_of_le_of_lt (show kvs.length<=8 by
        have:=si.le
        have:=congrArg List.length hE
        rw [List.length_append]at this
        omega) (by decide)
    . rw [List.length_append]
      exact si.put hd tn.ln tn.nn rfl
  rintro σ' H' ⟨kvs,o2,o3,rfl,si⟩
  contradiction
  refine⟨d,kvs,rfl,si.it,fun od p hp=> ?_⟩
  have si2:Same H (upd H' d (.frz od (.dT kvs))):=si.sm.put hd
  have l8:kvs.length<=8:=Nat.le_trans si.le h8
  refine Mg (fun e=>decide (e.2≠ .int 0)) (fun e v H=>∃(t:Prt) (w:Int),v= .ref t.1/\Tn H t w/\(t.ks.map Sum.inl:List Key)=e.1/\w≠0) (fun e v H H' ⟨t,w,a,b,c⟩ s=>⟨t,w,a,b.mono s,c⟩) (fun e v H ys zs ⟨t,w,a,b,c⟩ h=>⟨t,w,a,b.put h,c⟩) (Nat.le_trans l8 (by decide)) hp Ad ?_ ?_
  . intro e H3 b q R RF he s3 hb hq k1 k2
    obtain⟨⟨ks,ek,ln,nn⟩,w,ew⟩:=si.al e he
    rw [ew]at hq
    refine Fb (.of hq) ?_
    contradiction
    by_cases w0:w=0
    . rw [if_pos w0]
      exact k2 (by rw [ew,w0];rfl) _ (Same.refl _)
    . rw [if_neg w0]
      rw [ek,Pu]at hb
      exact fun p2 hp2=>k1 (by rw [ew];exact decide_eq_true fun z=>w0 (V.int.inj z)) _ _ (Same.upd hp2 _) ⟨(p2,b,ks,.int w),w,rfl,⟨Ad,Same.upd hp2 _ _ _ hb,ln,nn,rfl⟩,ek.symm,w0⟩
  intro H3 vs s3 h3 hv hr3
  obtain⟨ts3,e1,al3,e2⟩:=Tj vs hr3
  have e3:vs.map (fun x=>x.2.1)=(kvs.filter fun e=>decide (e.2≠ .int 0)).map (·.1):=by
    rw [<-hv,List.map_map]
    rfl
  have nd3:(ts3.map Prt.ks).Nodup:=by
    have h1:((kvs.filter fun e=>decide (e.2≠ .int 0)).map (·.1)).Nodup:=si.nd.sublist (List.filter_sublist.map _)
    rw [<-e3,<-e2]at h1
    refine List.pairwise_map.mpr ((List.pairwise_map.mp h1).imp fun h z=>h ?_)
    rw [z]
  have l3:ts3.length<=8:=by
    have h1:=congrArg List.length e2
    rw [e3,List.length_map,List.length_map]at h1
    rw [h1]
    exact Nat.le_trans (List.length_filter_le _ _) l8
  rw [<-e1]at h3
  refine⟨p,ts3,rfl,.of h3,fun t ht=> ?_,nd3,by omega,fun l us hl hpm hpw=>⟨l,_,rfl,.inl ⟨.of Ad,fun a ha=> ?_⟩⟩⟩
  . obtain⟨w,tn,_⟩:=al3 t ht
    exact⟨by rw [tn.ew];exact .of tn.pr,.of tn.tu⟩
  have s4:=(Same.upd hl (.lst (us.map fun t=>V.ref t.1))).trans (Same.upd ha (.tup (us.map fun t=>V.ref t.1)))
  refine k a _ us ((si2.trans s3).trans s4) ⟨Ad,fun t ht=> ?_,hpw,by rw [hpm.length_eq];exact l3⟩
  obtain⟨w,tn,w0⟩:=al3 t (hpm.mem_iff.mp ht)
  exact⟨w,tn.mono s4,w0⟩
theorem Jy (ns:List Int) (lo hi:Option Int):∃ms:List Int,Il (ns.map V.int) lo hi=ms.map V.int/\ms.length<=ns.length:=by
  unfold Il
  refine⟨(ns.drop (HT.sIx (ns.map V.int).length 0 lo)).take (HT.sIx (ns.map V.int).length (ns.map V.int).length hi-HT.sIx (ns.map V.int).length 0 lo),by rw [List.map_take,List.map_drop],?_⟩
  rw [List.length_take,List.length_drop]
  omega
def Fw (K:PySem.W.Frag):Sp:=fun vs H Q _=>∃(c:Int),vs=[.int c,.int 60]/\∀l H' (ns:List Int),H l=none->Same H H'->H' l=some (.lst (ns.map V.int))->Q (.ref l) H'
theorem Ke {f:Addr}{fd:FuncData} (F:Df K mg "_law_draws" Ey ["_law_cell","_law_many"] f fd) (z_range:mg "range"=none) (z_len:mg "len"=none)   :Cal P w K mg base 1 "_law_draws" ["_law_cell","_law_many"] (Fw K):=by
  refine F.cal (F.fn.ok Az (fun vs H Q E h=> ?_) (fun cdv A outer s H vs Q E hr h=> ?_))
  . obtain⟨c,rfl,_⟩:=h
    rfl
  obtain⟨c,rfl,k⟩:=h
  refine S.Bv ⟨_,(S.Ae (S.Ay (i:=2) Az.nd rfl (Or.inl rfl) (S.Br S.Ab))
      (S.Ae (S.Ay (i:=3) Az.nd rfl (Or.inl rfl) (S.Aj Gv (S.pv 0) S.Ac))
      (S.Ae (S.Dc (S.Am Kh (S.Aj Fz (S.pv 0) S.Ac) S.Ac (Ax _)) (S.Ag (S.Ay (i:=3) Az.nd rfl (Or.inl rfl) S.Ac)) S.Bg)
      (S.Ae (S.Ge PassesOwn.never (S.Ji (S.Fy (S.Am Kw (S.pv 3) S.Ac (Ax _)) (S.Fy (S.Am Kw (S.pv 3) (S.Nh Pb S.Ac) (Ax _)) (S.Ef (S.Am Ti (S.Bo Ar rfl z_len PySem.boot_len (S.Aa (S.pv 2) S.Ab)) (S.pv 1) (Ax _)))))) (S.Ae (S.Dp (S.Ep PySem.F.plainAttrs_list PySem.F.slot_list_append PySem.F.type_list_append Dm (S.pv 2) (S.Aa (S.Aj Fz (S.pv 3) (S.Aj Dl S.Ac S.Ac)) S.Ab)))
      (S.Ag (S.Ay (i:=3) Az.nd rfl (Or.inl rfl) (S.Aj Gv (S.pv 3) (S.Aj Dl S.Ac S.Ac))))))
      (S.Ae (S.Ay (i:=4) Az.nd rfl (Or.inl rfl) (S.Aj Fz (S.Aj G7 (S.Aj Bp (S.Aj Fz (S.pv 0) (S.Aj Bp (S.Aj Dl S.Ac S.Ac) S.Ac)) S.Ac) S.Ac) (S.Aj Bp (S.Aj Dl S.Ac S.Ac) S.Ac)))
      (S.Ae (S.Ay (i:=5) Az.nd rfl (Or.inl rfl) (S.Br S.Ab))
      (S.Ae (S.Eh PassesOwn.never rfl (S.Ck rfl z_range (S.Aa (S.Aj Bp (S.pv 1) S.Ac) S.Ab)) (S.Aq (i:=6) Az.nd rfl (Or.inl rfl)) (S.Ae (S.Ay (i:=4) Az.nd rfl (Or.inl rfl) (S.Aj Fz (S.Aj Bp (S.Aj Bp (S.Aj G7 (S.pv 4) (S.pv 4)) (S.Aj G7 S.Ac (S.pv 4))) (S.pv 6)) (S.Aj Bp (S.Aj Dl S.Ac S.Ac) S.Ac)))
      (S.Ag (S.Dp (S.Ep PySem.F.plainAttrs_list PySem.F.slot_list_append PySem.F.type_list_append Dm (S.pv 5) (S.Aa (S.Aj Gv (S.pv 4) (S.Aj Dl S.Ac S.Ac)) S.Ab))))))
      (S.Ag (S.Aw (S.Aj J1 (S.pv 2) (S.Bh K1 (S.pv 5) (S.Bk (S.Aj Bp S.Ac (S.Bo Ar rfl z_len PySem.boot_len (S.Aa (S.pv 2) S.Ab)))) S.Bs))))))))))),?_⟩
  refine Bl (fun σ' H'=>Same H H'/\∃f,H f=none/\σ'=[some (.int c),some (.int 60),some (.ref f),none,none,none,none]/\H' f=some (.lst [])) (fun M hM=> ?_) ?_
  . contradiction
    exact⟨by decide,fun p hp=>hM _ _ ⟨Same.upd hp _,p,hp,rfl,Ad⟩⟩
  rintro σ H1 ⟨s1,f,nf,rfl,g1⟩
  refine Bl (fun σ' H'=>H'=H1/\∃r:Int,σ'=[some (.int c),some (.int 60),some (.ref f),some (.int r),none,none,none]) (fun M hM=> ?_) ?_
  . contradiction
    exact⟨⟨by decide,by decide⟩,hM _ _ ⟨rfl,_,rfl⟩⟩
  rintro σ H2 ⟨e2,r,rfl⟩
  rw [e2]
  clear e2 H2
  refine Bl (fun σ' H'=>H'=H1/\∃r:Int,σ'=[some (.int c),some (.int 60),some (.ref f),some (.int r),none,none,none]) (fun M hM=> ?_) ?_
  . contradiction
    refine⟨by decide,?_⟩
    split
    . exact hM _ _ ⟨rfl,_,rfl⟩
    . exact hM _ _ ⟨rfl,_,rfl⟩
  rintro σ H2 ⟨e2,r,rfl⟩
  rw [e2]
  clear e2 H2
  refine Bl (fun σ' H'=>Same H H'/\∃(r:Int) (ns:List Int),σ'=[some (.int c),some (.int 60),some (.ref f),some (.int r),none,none,none]/\H' f=some (.lst (ns.map V.int))/\ns.length<=60) (fun M hM=> ?_) ?_
  . contradiction
    refine N8 (fun σ H'=>Same H H'/\∃(r:Int) (ns:List Int),σ=[some (.int c),some (.int 60),some (.ref f),some (.int r),none,none,none]/\H' f=some (.lst (ns.map V.int))/\ns.length<=60) (fun σ H'=>match H' f with | some (.lst xs)=>60-xs.length | _=>0) ⟨s1,r,[],rfl,g1,Nat.zero_le _⟩ ?_
    rintro σ H' ⟨s2,r,ns,rfl,g2,ln⟩
    have ex:=hM _ _ ⟨s2,r,ns,rfl,g2,ln⟩
    contradiction
    by_cases r0:r=0
    . rw [if_pos r0]
      exact ex
    rw [if_neg r0]
    by_cases r1:r= -1
    . rw [if_pos r1]
      exact ex
    rw [if_neg r1]
    refine⟨f,_,rfl,.inl (.of g2),?_⟩
    rw [List.length_map]
    by_cases l6:((ns.length:Nat):Int)<60
    . rw [if_pos l6]
      refine U7 ?_
      contradiction
      refine⟨.inl ⟨rfl,_,.of g2⟩,⟨by decide,by decide,by decide⟩,by decide,f,_,_,rfl,rfl,g2,?_,⟨by decide,by decide,by decide⟩,⟨by decide,by decide⟩,⟨s2.put nf,_,ns++ [r%10^Int.toNat 24],rfl,?_,?_⟩,?_⟩
      . rw [List.length_map]
        exact Nat.lt_of_lt_of_le (show ns.length<61 by omega) (by decide)
      . rw [Ad,List.map_append]
        rfl
      . rw [List.length_append]
        show ns.length+1<=60
        omega
      . rw [Ad,g2]
        show 60-(ns.map V.int++ [_]).length<60-(ns.map V.int).length
        rw [List.length_append,List.length_map]
        show 60-(ns.length+1)<_
        omega
    . rw [if_neg l6]
      exact ex
  rintro σ H2 ⟨s2,r,ns,rfl,g2,ln⟩
  refine Bl (fun σ' H'=>H'=H2/\∃x:Int,0<=x/\x<10^Int.toNat 40+121/\σ'=[some (.int c),some (.int 60),some (.ref f),some (.int r),some (.int x),none,none]) (fun M hM=> ?_) ?_
  . contradiction
    exact⟨⟨by decide,by decide,by decide⟩,by decide,.of_right (Qn (by decide)),⟨by decide,by decide,by decide⟩,by decide,hM _ _ ⟨rfl,_,Int.emod_nonneg _ (by decide),Int.emod_lt_of_pos _ (by decide),rfl⟩⟩
  rintro σ H3 ⟨e3,x,x0,x1,rfl⟩
  rw [e3]
  clear e3 H3
  refine Bl (fun σ' H'=>Same H2 H'/\∃m,H2 m=none/\σ'=[some (.int c),some (.int 60),some (.ref f),some (.int r),some (.int x),some (.ref m),none]/\H' m=some (.lst [])) (fun M hM=> ?_) ?_
  . contradiction
    exact⟨by decide,fun p hp=>hM _ _ ⟨Same.upd hp _,p,hp,rfl,Ad⟩⟩
  rintro σ H3 ⟨s3,m,nm,rfl,g3⟩
  refine Bl (fun σ' H'=>Same H2 H'/\∃(y:Int) (o:Option V) (ms:List Int),σ'=[some (.int c),some (.int 60),some (.ref f),some (.int r),some (.int y),some (.ref m),o]/\H' m=some (.lst (ms.map V.int))/\ms.length=64) (fun M hM=> ?_) ?_
  . contradiction
    refine⟨by decide,by decide,?_⟩
    refine Vz 64 (fun i=> .int (0+(i:Nat))) (fun i σ' H'=>Same H2 H'/\∃(y:Int) (o:Option V) (ms:List Int),0<=y/\y<10^Int.toNat 40+121/\σ'=[some (.int c),some (.int 60),some (.ref f),some (.int r),some (.int y),some (.ref m),o]/\H' m=some (.lst (ms.map V.int))/\ms.length=i) ⟨s3,x,_,[],x0,x1,rfl,g3,rfl⟩ ?_ ?_ ?_
    . rintro i σ' H' _
      exact Fo
    . rintro i σ' H' hi ⟨s4,y,o,ms,y0,y1,rfl,g4,lm⟩
      have sy:Sz 140 y:=by
        have:(10:Int)^Int.toNat 40+121<2^140:=by decide
        unfold Sz
        omega
      contradiction
      refine⟨sy.mulOk sy (by decide),.of_left (Qn (by decide)),⟨by decide,by decide,by decide⟩,by decide,.inl ⟨rfl,_,.of g4⟩,⟨by decide,by decide,by decide⟩,⟨by decide,by decide⟩,m,_,_,rfl,rfl,g4,?_,s4.put nm,_,_,ms++ [(y*y+48271*y+(0+(i:Nat)))%(10^Int.toNat 40+121)/10^Int.toNat 8],Int.emod_nonneg _ (by decide),Int.emod_lt_of_pos _ (by decide),rfl,?_,?_⟩
      . rw [List.length_map]
        exact Nat.lt_of_lt_of_le (show ms.length<65 by omega) (by decide)
      . rw [Ad,List.map_append]
        rfl
      . rw [List.length_append,lm]
        rfl
    . rintro σ' H' ⟨s4,y,o,ms,y0,y1,rfl,g4,lm⟩
      exact hM _ _ ⟨s4,y,o,ms,rfl,g4,lm⟩
  rintro σ H4 ⟨s4,y,o,ms,rfl,g4,lm⟩
  contradiction
  refine⟨f,_,rfl,.inl (.of (s4 _ _ g2)),m,_,rfl,.of g4,fun p hp=> ?_⟩
  obtain⟨qs,eq,lq⟩:=Jy ms (some (4+((ns.map V.int).length:Nat))) none
  rw [eq]
  have sp:=Same.upd hp (.lst (qs.map V.int))
  refine⟨f,p,_,_,rfl,rfl,sp _ _ (s4 _ _ g2),Ad,?_,fun l hl=> ?_⟩
  . rw [List.length_map,List.length_map]
    exact Nat.le_trans (show ns.length+qs.length<=124 by omega) (by decide)
  . rw [<-List.map_append]
    refine k l _ (ns++qs) ?_ (((s2.trans s4).trans sp).trans (Same.upd hl _)) Ad
    cases e:H l with
    | none=>rfl
    | some u=>
      rw [((s2.trans s4).trans sp) _ _ e]at hl
      cases hl
theorem ks3 {ks:List Int} (h:ks.length=3):∃i j k,ks=[i,j,k]:=by
  match ks,h with
  | [i,j,k],_=>exact⟨i,j,k,rfl⟩
structure Ods (K:PySem.W.Frag) (H:Hp) (q:Addr) (n:Nat) (es:List V):Prop where
  it:H q=some (.lst es)
  ln:es.length=n
  al:∀v∈es,Tm K H v false
theorem Rw {H:Hp}{σ:St}{Q:St->Hp->Prop}{a b:Addr}{i j k w:V} (h:SqT K H a [.ref b,w]) (h2:SqT K H b [i,j,k]) {x y z t:Nat} (q:Q ((((σ.set x (some i)).set y (some j)).set z (some k)).set t (some w)) H):
    Q6 K 2 (Gp (Q6 K 3 (Gp (Eo x) (Gp (Eo y) (Gp (Eo z) Rx)))) (Gp (Eo t) Rx)) (.ref a) σ H Q:=⟨a,_,rfl,h,rfl,.ref b,_,rfl,⟨b,_,rfl,h2,rfl,i,_,rfl,j,_,rfl,k,_,rfl,rfl,w,_,rfl,rfl,q⟩⟩
theorem Dr.sqT {l a:Addr}{H H':Hp}{ms:List Int}{zs xs:List V} (d:Dr l H H' ms) (hl:H l=some (.lst zs)) (h:SqT K H a xs):SqT K H' a xs:=by
  rcases h with(e | ⟨o,e⟩) | h
  . exact .inl (.inl (d.tup hl e))
  . exact .inl (.inr ⟨o,d.sm _ _ (Ka e hl (fun z=>nomatch z)) e⟩)
  . exact .inr h
theorem Dr.lst {l a:Addr}{H H':Hp}{ms:List Int}{xs:List V} (d:Dr l H H' ms) (e:H a=some (.lst xs)):∃ys,H' a=some (.lst ys):=by
  by_cases h:a=l
  . exact⟨_,by rw [h];exact d.it⟩
  . exact⟨_,d.sm _ _ h e⟩
theorem Wh.dr {l:Addr}{H H':Hp}{ms:List Int}{zs:List V}{v:V}{b:Bool} (h:Wh K H v b) (d:Dr l H H' ms) (hl:H l=some (.lst zs)):Wh K H' v b:=by
  cases h with
  | int i=>exact .int i
  | bl b=>exact .bl b
  | non=>exact .non
  | str x=>exact .str x
  | tup e=>exact .tup (d.tup hl e)
  | lst e=>
    obtain⟨ys,e'⟩:=d.lst e
    exact .lst e'
theorem Tm.dr {l:Addr}{H H':Hp}{ms:List Int}{zs:List V}{v:V}{b:Bool} (h:Tm K H v b) (d:Dr l H H' ms) (hl:H l=some (.lst zs)):Tm K H' v b:=by
  cases h with
  | int i=>exact .int i
  | non=>exact .non
  | str x=>exact .str x
  | lst e=>
    obtain⟨ys,e'⟩:=d.lst e
    exact .lst e'
  | long h hn=>exact .long (d.sqT hl h) hn
  | notT h e=>
    obtain⟨ys,e'⟩:=d.lst e
    exact .notT (d.sqT hl h) e'
  | plen h hc hn=>exact .plen (d.sqT hl h) (d.sqT hl hc) hn
  | notw h hc hn hw=>exact .notw (d.sqT hl h) (d.sqT hl hc) hn (hw.dr d hl)
  | gen h hc hn hp=>
    refine .gen (d.sqT hl h) (d.sqT hl hc) hn fun e he=> ?_
    have:=hp e he
    obtain⟨v,b⟩:=e
    cases this with
    | int i=>exact .int i
    | no h=>exact .no (h.dr d hl)
def Jz (K:PySem.W.Frag):Sp:=fun vs H Q _=>∃(l:Addr) (ns:List Int) (t:Prt) (w:Int),vs=[.ref l,.ref t.1]/\H l=some (.lst (ns.map V.int))/\Tn H t w/\w≠0/\∀v H' ms,Dr l H H' ms->Tm K H' v false->Q v H'
theorem Qx {H:Hp}{a c:Addr}{w:Int}{x y z:V}{b1 b2 b3:Bool} (h:H a=some (.tup [.ref c,.int w])) (hc:H c=some (.tup [x,y,z])) (h1:Pw K H x b1) (h2:Pw K H y b2) (h3:Pw K H z b3) (hb:(b1&&(b2&&b3))=false):Tm K H (.ref a) false:=by
  have g:=Tm.gen (K:=K) (es:=[(x,b1),(y,b2),(z,b3)]) (.of h) (.of hc) rfl fun e he=>by
    have he':e=(x,b1)\/e=(y,b2)\/e=(z,b3):=by simpa using he
    rcases he' with rfl | rfl | rfl<;>assumption
  have e0:(decide (w≠0)&&([(x,b1),(y,b2),(z,b3)].map (·.2)).all id)=false:=by
    have:([(x,b1),(y,b2),(z,b3)].map (·.2)).all id=(b1&&(b2&&b3)):=by simp
    rw [this,hb,Bool.and_false]
  rw [e0]at g
  exact g
theorem U4 {H:Hp}{a c:Addr}{x y z:V}{b1 b2 b3:Bool} (h:H a=some (.tup [.ref c,.int 0])) (hc:H c=some (.tup [x,y,z])) (h1:Pw K H x b1) (h2:Pw K H y b2) (h3:Pw K H z b3):Tm K H (.ref a) false:=by
  have g:=Tm.gen (K:=K) (es:=[(x,b1),(y,b2),(z,b3)]) (.of h) (.of hc) rfl fun e he=>by
    have he':e=(x,b1)\/e=(y,b2)\/e=(z,b3):=by simpa using he
    rcases he' with rfl | rfl | rfl<;>assumption
  exact g
theorem N7 {f:Addr}{fd:FuncData} (F:Df K mg "_law_odd" Jm ["_law_draws_here","_law_term"] f fd) (z_len:mg "len"=none)  (c_q_next:Cal P w K mg base 1 "_law_next" ["_law_draws_here","_law_most"] (Bj K)):Cal P w K mg base 2 "_law_odd" ["_law_draws_here","_law_term"] (Jz K):=by
  refine F.cal (F.fn.ok Bq (fun vs H Q E h=> ?_) (fun cdv A outer s H vs Q E hr h=> ?_))
  . obtain⟨l,ns,t,w,rfl,_⟩:=h
    rfl
  obtain⟨l,ns,t,w,rfl,hS,tn,w0,kq⟩:=h
  refine S.Bv ⟨_,(S.Ae (S.Fe (S.pv 1) (S.Di rfl (S.Ao (S.Di rfl (S.Ao (S.Aq (i:=4) Bq.nd rfl (Or.inl rfl)) (S.Ao (S.Aq (i:=5) Bq.nd rfl (Or.inl rfl)) (S.Ao (S.Aq (i:=6) Bq.nd rfl (Or.inl rfl)) S.Ce)))) (S.Ao (S.Aq (i:=3) Bq.nd rfl (Or.inl rfl)) S.Ce))))
      (S.Ae (S.Ay (i:=2) Bq.nd rfl (Or.inl rfl) (S.Br (S.Aa (S.Ah (S.Aa (S.Ah (S.Aa (S.pv 4) (S.Aa (S.pv 5) (S.Aa (S.pv 6) S.Ab)))) (S.Aa S.Ac S.Ab))) (S.Aa (S.Ah (S.Aa (S.Ah (S.Aa (S.pv 4) (S.Aa (S.pv 5) (S.Aa (S.pv 6) S.Ab)))) (S.Aa S.Dd S.Ab))) (S.Aa (S.Ah (S.Aa (S.Ah (S.Aa (S.pv 4) (S.Aa (S.pv 5) (S.Aa (S.pv 6) S.Ab)))) (S.Aa S.Fl S.Ab))) (S.Aa (S.Ah (S.Aa (S.Ah (S.Aa (S.pv 4) (S.Aa (S.pv 5) (S.Aa (S.pv 6) S.Ab)))) (S.Aa S.Ik S.Ab))) (S.Aa (S.Ah (S.Aa (S.Ah (S.Aa (S.Nh Pb S.Ac) (S.Aa (S.pv 5) (S.Aa (S.pv 6) S.Ab)))) (S.Aa (S.pv 3) S.Ab))) S.Ab)))))))
      (S.Ae (S.Ay (i:=2) Bq.nd rfl (Or.inl rfl) (S.Aj J1 (S.pv 2) (S.Br (S.Aa (S.Ah (S.Aa (S.Ah (S.Aa (S.pv 4) (S.Aa S.Dd (S.Aa (S.pv 6) S.Ab)))) (S.Aa (S.pv 3) S.Ab))) (S.Aa (S.Ah (S.Aa (S.Ah (S.Aa (S.pv 4) (S.Aa (S.pv 5) S.Ab))) (S.Aa (S.pv 3) S.Ab))) (S.Aa (S.Ah (S.Aa (S.Ah (S.Aa (S.pv 4) (S.Aa (S.pv 5) (S.Aa (S.pv 6) (S.Aa S.Ac S.Ab))))) (S.Aa (S.pv 3) S.Ab))) (S.Aa (S.Ah (S.Aa (S.Br (S.Aa (S.pv 4) (S.Aa (S.pv 5) (S.Aa (S.pv 6) S.Ab)))) (S.Aa (S.pv 3) S.Ab))) S.Ab)))))))
      (S.Ae (S.Ay (i:=2) Bq.nd rfl (Or.inl rfl) (S.Aj J1 (S.pv 2) (S.Br (S.Aa (S.Ah (S.Aa (S.Ah (S.Aa (S.pv 4) (S.Aa (S.pv 5) (S.Aa (S.pv 6) S.Ab)))) S.Ab)) (S.Aa (S.Ah (S.Aa (S.Ah (S.Aa (S.pv 4) (S.Aa (S.pv 5) (S.Aa (S.pv 6) S.Ab)))) (S.Aa (S.pv 3) (S.Aa S.Ac S.Ab)))) (S.Aa (S.Br (S.Aa (S.Ah (S.Aa (S.pv 4) (S.Aa (S.pv 5) (S.Aa (S.pv 6) S.Ab)))) (S.Aa (S.pv 3) S.Ab))) (S.Aa S.Fl (S.Aa S.Ac (S.Aa S.Ik (S.Aa (S.Ah (S.Aa (S.Ah (S.Aa (S.pv 4) (S.Aa S.Fl (S.Aa (S.pv 6) S.Ab)))) (S.Aa (S.pv 3) S.Ab))) S.Ab))))))))))
      (S.Ag (S.Aw (S.G8 Ja (S.pv 2) (S.Bc c_q_next (hr.mono (by decide)) (S.Aa (S.pv 0) (S.Aa (S.Bo Ar rfl z_len PySem.boot_len (S.Aa (S.pv 2) S.Ab)) S.Ab))) (fun _ _=>rfl)))))))),?_⟩
  obtain⟨i,j,k,ek⟩:=ks3 tn.ln
  have tu:=tn.tu
  rw [ek]at tu
  refine Bl (fun σ' H'=>H'=H/\σ'=[some (.ref l),some (.ref t.1),none,some (.int w),some (.int i),some (.int j),some (.int k)]) (fun M hM=> ?_) ?_
  . contradiction
    exact Rw (.of tn.pr) (.of tu) (hM _ _ ⟨rfl,rfl⟩)
  rintro σ H1 ⟨e1,rfl⟩
  rw [e1]
  clear e1 H1
  refine Bl (fun σ' H'=>Same H H'/\∃q es,σ'=[some (.ref l),some (.ref t.1),some (.ref q),some (.int w),some (.int i),some (.int j),some (.int k)]/\Ods K H' q 5 es) (fun M hM=> ?_) ?_
  . contradiction
    refine⟨by decide,?_⟩
    (intro q1 hq1;generalize eq1:upd _ q1 _=Gq1;obtain⟨sq1,gq1⟩:=nw hq1 eq1;clear eq1 hq1)
    (intro q2 hq2;generalize eq2:upd _ q2 _=Gq2;obtain⟨sq2,gq2⟩:=nw hq2 eq2;clear eq2 hq2)
    refine⟨by decide,?_⟩
    (intro q3 hq3;generalize eq3:upd _ q3 _=Gq3;obtain⟨sq3,gq3⟩:=nw hq3 eq3;clear eq3 hq3)
    (intro q4 hq4;generalize eq4:upd _ q4 _=Gq4;obtain⟨sq4,gq4⟩:=nw hq4 eq4;clear eq4 hq4)
    refine⟨by decide,?_⟩
    (intro q5 hq5;generalize eq5:upd _ q5 _=Gq5;obtain⟨sq5,gq5⟩:=nw hq5 eq5;clear eq5 hq5)
    (intro q6 hq6;generalize eq6:upd _ q6 _=Gq6;obtain⟨sq6,gq6⟩:=nw hq6 eq6;clear eq6 hq6)
    refine⟨by decide,?_⟩
    (intro q7 hq7;generalize eq7:upd _ q7 _=Gq7;obtain⟨sq7,gq7⟩:=nw hq7 eq7;clear eq7 hq7)
    (intro q8 hq8;generalize eq8:upd _ q8 _=Gq8;obtain⟨sq8,gq8⟩:=nw hq8 eq8;clear eq8 hq8)
    refine⟨by decide,?_⟩
    (intro q9 hq9;generalize eq9:upd _ q9 _=Gq9;obtain⟨sq9,gq9⟩:=nw hq9 eq9;clear eq9 hq9)
    (intro q10 hq10;generalize eq10:upd _ q10 _=Gq10;obtain⟨sq10,gq10⟩:=nw hq10 eq10;clear eq10 hq10)
    refine⟨by decide,?_⟩
    (intro q11 hq11;generalize eq11:upd _ q11 _=Gq11;obtain⟨sq11,gq11⟩:=nw hq11 eq11;clear eq11 hq11)
    have t10:=sq11
    have t9:=sq10.trans t10
    have t8:=sq9.trans t9
    have t7:=sq8.trans t8
    have t6:=sq7.trans t7
    have t5:=sq6.trans t6
    have t4:=sq5.trans t5
    have t3:=sq4.trans t4
    have t2:=sq3.trans t3
    have t1:=sq2.trans t2
    have t0:=sq1.trans t1
    refine hM _ _ ⟨t0,q11,_,rfl,gq11,rfl,fun v hv=> ?_⟩
    have hv':v= .ref q2\/v= .ref q4\/v= .ref q6\/v= .ref q8\/v= .ref q10:=by simpa using hv
    rcases hv' with rfl | rfl | rfl | rfl | rfl
    . exact U4 (t2 _ _ gq2) (t1 _ _ gq1) (.int i) (.int j) (.int k)
    . exact .notw (.of (t4 _ _ gq4)) (.of (t3 _ _ gq3)) rfl (.bl true)
    . exact .notw (.of (t6 _ _ gq6)) (.of (t5 _ _ gq5)) rfl .non
    . exact .notw (.of (t8 _ _ gq8)) (.of (t7 _ _ gq7)) rfl (.str _)
    . exact Qx (t10 _ _ gq10) (t9 _ _ gq9) (.int (-1)) (.int j) (.int k) (by simp)
  rintro σ H1 ⟨s1,q,es,rfl,od⟩
  refine Bl (fun σ' H'=>Same H1 H'/\∃q es,σ'=[some (.ref l),some (.ref t.1),some (.ref q),some (.int w),some (.int i),some (.int j),some (.int k)]/\Ods K H' q 9 es) (fun M hM=> ?_) ?_
  . contradiction
    (try refine⟨by decide,?_⟩)
    (intro q1 hq1;generalize eq1:upd _ q1 _=Gq1;obtain⟨sq1,gq1⟩:=nw hq1 eq1;clear eq1 hq1)
    (try refine⟨by decide,?_⟩)
    (intro q2 hq2;generalize eq2:upd _ q2 _=Gq2;obtain⟨sq2,gq2⟩:=nw hq2 eq2;clear eq2 hq2)
    (try refine⟨by decide,?_⟩)
    (intro q3 hq3;generalize eq3:upd _ q3 _=Gq3;obtain⟨sq3,gq3⟩:=nw hq3 eq3;clear eq3 hq3)
    (try refine⟨by decide,?_⟩)
    (intro q4 hq4;generalize eq4:upd _ q4 _=Gq4;obtain⟨sq4,gq4⟩:=nw hq4 eq4;clear eq4 hq4)
    (try refine⟨by decide,?_⟩)
    (intro q5 hq5;generalize eq5:upd _ q5 _=Gq5;obtain⟨sq5,gq5⟩:=nw hq5 eq5;clear eq5 hq5)
    (try refine⟨by decide,?_⟩)
    (intro q6 hq6;generalize eq6:upd _ q6 _=Gq6;obtain⟨sq6,gq6⟩:=nw hq6 eq6;clear eq6 hq6)
    (try refine⟨by decide,?_⟩)
    (intro q7 hq7;generalize eq7:upd _ q7 _=Gq7;obtain⟨sq7,gq7⟩:=nw hq7 eq7;clear eq7 hq7)
    (try refine⟨by decide,?_⟩)
    (intro q8 hq8;generalize eq8:upd _ q8 _=Gq8;obtain⟨sq8,gq8⟩:=nw hq8 eq8;clear eq8 hq8)
    (try refine⟨by decide,?_⟩)
    (intro q9 hq9;generalize eq9:upd _ q9 _=Gq9;obtain⟨sq9,gq9⟩:=nw hq9 eq9;clear eq9 hq9)
    have t8:=sq9
    have t7:=sq8.trans t8
    have t6:=sq7.trans t7
    have t5:=sq6.trans t6
    have t4:=sq5.trans t5
    have t3:=sq4.trans t4
    have t2:=sq3.trans t3
    have t1:=sq2.trans t2
    have t0:=sq1.trans t1
    refine⟨q,q9,es,_,rfl,rfl,t0 _ _ od.it,gq9,?_,fun p hp=> ?_⟩
    . rw [od.ln]
      show 5+4<=sizeLine
      decide
    have sp:=Same.upd hp (.lst (es++ [.ref q2,.ref q4,.ref q6,.ref q8]))
    refine hM _ _ ⟨t0.trans sp,p,_,rfl,Ad,by rw [List.length_append,od.ln];rfl,fun v hv=> ?_⟩
    rcases List.mem_append.mp hv with hv | hv
    . exact(od.al v hv).mono (t0.trans sp)
    refine Tm.mono ?_ sp
    have hv':v= .ref q2\/v= .ref q4\/v= .ref q6\/v= .ref q8:=by simpa using hv
    rcases hv' with rfl | rfl | rfl | rfl
    . exact Qx (t2 _ _ gq2) (t1 _ _ gq1) (.int i) (.no (.bl true)) (.int k) (by simp)
    . exact .plen (.of (t4 _ _ gq4)) (.of (t3 _ _ gq3)) (by simp)
    . exact .plen (.of (t6 _ _ gq6)) (.of (t5 _ _ gq5)) (by simp)
    . exact .notT (.of (t8 _ _ gq8)) (t7 _ _ gq7)
  rintro σ H2 ⟨s2,q',es',rfl,od'⟩
  refine Bl (fun σ' H'=>Same H2 H'/\∃q es,σ'=[some (.ref l),some (.ref t.1),some (.ref q),some (.int w),some (.int i),some (.int j),some (.int k)]/\Ods K H' q 16 es/\q≠l) (fun M hM=> ?_) ?_
  . contradiction
    (try refine⟨by decide,?_⟩)
    (intro q1 hq1;generalize eq1:upd _ q1 _=Gq1;obtain⟨sq1,gq1⟩:=nw hq1 eq1;clear eq1 hq1)
    (try refine⟨by decide,?_⟩)
    (intro q2 hq2;generalize eq2:upd _ q2 _=Gq2;obtain⟨sq2,gq2⟩:=nw hq2 eq2;clear eq2 hq2)
    (try refine⟨by decide,?_⟩)
    (intro q3 hq3;generalize eq3:upd _ q3 _=Gq3;obtain⟨sq3,gq3⟩:=nw hq3 eq3;clear eq3 hq3)
    (try refine⟨by decide,?_⟩)
    (intro q4 hq4;generalize eq4:upd _ q4 _=Gq4;obtain⟨sq4,gq4⟩:=nw hq4 eq4;clear eq4 hq4)
    (try refine⟨by decide,?_⟩)
    (intro q5 hq5;generalize eq5:upd _ q5 _=Gq5;obtain⟨sq5,gq5⟩:=nw hq5 eq5;clear eq5 hq5)
    (try refine⟨by decide,?_⟩)
    (intro q6 hq6;generalize eq6:upd _ q6 _=Gq6;obtain⟨sq6,gq6⟩:=nw hq6 eq6;clear eq6 hq6)
    (try refine⟨by decide,?_⟩)
    (intro q7 hq7;generalize eq7:upd _ q7 _=Gq7;obtain⟨sq7,gq7⟩:=nw hq7 eq7;clear eq7 hq7)
    (try refine⟨by decide,?_⟩)
    (intro q8 hq8;generalize eq8:upd _ q8 _=Gq8;obtain⟨sq8,gq8⟩:=nw hq8 eq8;clear eq8 hq8)
    (try refine⟨by decide,?_⟩)
    (intro q9 hq9;generalize eq9:upd _ q9 _=Gq9;obtain⟨sq9,gq9⟩:=nw hq9 eq9;clear eq9 hq9)
    have t8:=sq9
    have t7:=sq8.trans t8
    have t6:=sq7.trans t7
    have t5:=sq6.trans t6
    have t4:=sq5.trans t5
    have t3:=sq4.trans t4
    have t2:=sq3.trans t3
    have t1:=sq2.trans t2
    have t0:=sq1.trans t1
    refine⟨q',q9,es',_,rfl,rfl,t0 _ _ od'.it,gq9,?_,fun p hp=> ?_⟩
    . rw [od'.ln]
      show 9+7<=sizeLine
      decide
    have sp:=Same.upd hp (.lst (es'++ [.ref q2,.ref q4,.ref q6,.non,.int 0,.str (Str.ofString ""),.ref q8]))
    refine hM _ _ ⟨t0.trans sp,p,_,rfl,⟨Ad,by rw [List.length_append,od'.ln];rfl,fun v hv=> ?_⟩,Ne.symm (Ai (((s1.trans s2).trans t0) _ _ hS) hp)⟩
    rcases List.mem_append.mp hv with hv | hv
    . exact(od'.al v hv).mono (t0.trans sp)
    refine Tm.mono ?_ sp
    have hv':v= .ref q2\/v= .ref q4\/v= .ref q6\/v= .non\/v= .int 0\/v= .str (Str.ofString "")\/v= .ref q8:=by simpa using hv
    rcases hv' with rfl | rfl | rfl | rfl | rfl | rfl | rfl
    . exact .long (.of (t2 _ _ gq2)) (by simp)
    . exact .long (.of (t4 _ _ gq4)) (by simp)
    . exact .lst (t6 _ _ gq6)
    . exact .non
    . exact .int 0
    . exact .str _
    . exact Qx (t8 _ _ gq8) (t7 _ _ gq7) (.int i) (.no .non) (.int k) (by simp)
  rintro σ H3 ⟨s3,q3,es3,rfl,od3,n3⟩
  contradiction
  have sl:=((s1.trans s2).trans s3)
  refine⟨q3,_,rfl,.inl (.of od3.it),?_⟩
  refine Bw (sl _ _ hS) (by rw [od3.ln];decide) fun r H4 ms r0 r1 d4=> ?_
  rw [od3.ln]at r1
  have g4:=d4.sm _ _ n3 od3.it
  have hr':r.toNat<es3.length:=by rw [od3.ln];omega
  have ei:es3[r.toNat]? =some es3[r.toNat]:=List.getElem?_eq_getElem hr'
  have ea:=Ej ei
  rw [Int.toNat_of_nonneg r0]at ea
  refine Hx (.of g4) ea ?_
  exact kq _ _ ms ⟨fun b u n e=>d4.sm b u n (sl _ _ e),d4.it⟩ ((od3.al _ (List.getElem_mem hr')).dr d4 (sl _ _ hS))
def wOf:V->Int
  | .int i=>i
  | _=>0
def fD (t:Prt):PyData:= .tuple [.tuple (t.ks.map .int),.int (wOf t.2.2.2)]
theorem O6:∀us:List Prt,PyData.canLayAll0 (us.map fD)=true
  | []=>rfl
  | c::cs=>by simp [fD,PyData.canLayAll0,PyData.canLay0,PySem.W.ke_canLayAll0,O6 cs]
theorem O7:∀us:List Prt,PyData.depthAll (us.map fD)<=8
  | []=>by simp [PyData.depthAll]
  | c::cs=>by
    have:=O7 cs
    simp only [List.map_cons,PyData.depthAll,PyData.depth,fD,PySem.W.ke_depthAll]at this ⊢
    exact Nat.max_le.mpr ⟨by simp,this⟩
theorem Hh (us:List Prt):SeqAt.shaped (.tuple (us.map fD))=true:=by
  have h1:=O6 us
  have h2:=O7 us
  simp [SeqAt.shaped,PyData.canLay0,PyData.depth,h1]
  omega
theorem O4 {H:Hp}:∀us:List Prt,(∀t∈us,∃w,Tn H t w/\w≠0)->Jx K H (us.map fun t=>V.ref t.1) (us.map fD)
  | [],_=> .nil
  | t::r,h=>by
    obtain⟨w,tn,_⟩:=h t (.head _)
    refine .cons ?_ (O4 r fun u hu=>h u (.tail _ hu))
    have ew:wOf t.2.2.2=w:=by rw [tn.ew];rfl
    unfold fD
    rw [ew]
    exact .tup (.of tn.pr) (.cons (RdD.ints (.of tn.tu)) (.cons (.int w) .nil))
theorem Qa {H:Hp}{g:Bool->Bool}{Q:VK}{a b:Addr}{us:List Prt} (h:Fmd H a us) (hb:H b=some (.tup [])) (q:Q (.bl (g (decide (us=[])))) H):Vc K g (.ref a) (.ref b) H Q:=by
  refine⟨_,_,.tup (.of h.it) (O4 us h.al),.tup (.of hb) .nil,Hh us,Hh [],?_⟩
  have e:PyData.eqv (.tuple (us.map fD)) (.tuple [])=decide (us=[]):=by
    cases us with
    | nil=>simp [PyData.eqv,PyData.eqvAll]
    | cons t r=>simp [PyData.eqv,PyData.eqvAll]
  rw [e]
  exact q
theorem Fmd.mono {H H':Hp}{a:Addr}{us:List Prt} (h:Fmd H a us) (s:Same H H'):Fmd H' a us:=⟨s _ _ h.it,fun t ht=>by
  obtain⟨w,tn,w0⟩:=h.al t ht
  exact⟨w,tn.mono s,w0⟩,h.pw,h.le⟩
theorem Fmd.dr {l a:Addr}{H H':Hp}{ms:List Int}{zs:List V}{us:List Prt} (h:Fmd H a us) (d:Dr l H H' ms) (hl:H l=some (.lst zs)):Fmd H' a us:=⟨d.tup hl h.it,fun t ht=>by
  obtain⟨w,tn,w0⟩:=h.al t ht
  exact⟨w,tn.dr d hl,w0⟩,h.pw,h.le⟩
theorem Tn.tmin {H:Hp}{t:Prt}{w:Int} (h:Tn H t w) (w0:w≠0):Jt K H t:=by
  refine⟨⟨by rw [h.ew];exact .of h.pr,.of h.tu⟩,?_⟩
  have em:(t.ks.map fun i=>((.int i,decide (0<=i)):V × Bool)).map (·.1)=t.ks.map V.int:=by rw [List.map_map];rfl
  have g:=Tm.gen (K:=K) (es:=t.ks.map fun i=>((.int i,decide (0<=i)):V × Bool)) (.of h.pr) (by rw [em];exact .of h.tu) (by rw [List.length_map];exact h.ln) fun e he=>by
    obtain⟨i,_,rfl⟩:=List.mem_map.mp he
    exact .int i
  have e1:((t.ks.map fun i=>((.int i,decide (0<=i)):V × Bool)).map (·.2)).all id=true:=by
    rw [List.all_eq_true]
    intro b hb
    obtain⟨e,he,rfl⟩:=List.mem_map.mp hb
    obtain⟨i,hi,rfl⟩:=List.mem_map.mp he
    exact decide_eq_true (h.nn i hi)
  rw [e1,decide_eq_true w0]at g
  exact g
theorem Fmd.tmin {H:Hp}{a:Addr}{us:List Prt} (h:Fmd H a us):∀t∈us,Jt K H t:=fun t ht=>by
  obtain⟨w,tn,w0⟩:=h.al t ht
  exact tn.tmin w0
theorem Iv:∀ks:List Int,HT.lexLt ks ks=false
  | []=>rfl
  | x::r=>by rw [HT.Bt,if_pos rfl];exact Iv r
theorem Ih {ks:List (List Int)} (i:Nat) (hi:i+1<ks.length) (h:HT.lexLt (ks.getD i []) (ks.getD (i+1) [])=false):upT ks=false:=by
  unfold upT
  rw [List.all_eq_false]
  exact⟨i,List.mem_range.mpr (by omega),by rw [h];simp⟩
theorem Ou {us:List Prt} (h:us.Pairwise (fun x y=>HT.lexLt x.ks y.ks=true)):upT (us.map Prt.ks)=true:=by
  unfold upT
  rw [List.all_eq_true]
  intro i hi
  have hi':=List.mem_range.mp hi
  rw [List.length_map]at hi'
  have e:∀j (hj:j<us.length),(us.map Prt.ks).getD j []=us[j].ks:=fun j hj=>by
    rw [List.getD_eq_getElem?_getD,List.getElem?_map,List.getElem?_eq_getElem hj]
    rfl
  rw [e i (by omega),e (i+1) (by omega)]
  exact List.pairwise_iff_getElem.mp h i (i+1) (by omega) (by omega) (by omega)
theorem Nk {H:Hp}{a:Addr}{us:List Prt}{n:Nat}{t:Prt} (hn:us[n]? =some t) (h:SqT K H a ((us.take n++ [t]++us.drop n).map fun t=>V.ref t.1)) (hl:us.length<=8) (hw:∀t∈us,Jt K H t):Fm K H (.ref a) false:=by
  obtain⟨hlt,et⟩:=List.getElem?_eq_some_iff.mp hn
  have hw':∀x∈us.take n++ [t]++us.drop n,Jt K H x:=fun x hx=>by
    rcases List.mem_append.mp hx with hx | hx
    . rcases List.mem_append.mp hx with hx | hx
      . exact hw x (List.mem_of_mem_take hx)
      . have:x=t:=by simpa using hx
        rw [this,<-et]
        exact hw _ (List.getElem_mem _)
    . exact hw x (List.mem_of_mem_drop hx)
  have g:=Fm.good h (by rw [List.length_append,List.length_append,List.length_take,List.length_drop];simp;omega) hw'
  have e0:upT ((us.take n++ [t]++us.drop n).map Prt.ks)=false:=by
    refine Ih n (by rw [List.length_map,List.length_append,List.length_append,List.length_take,List.length_drop];simp;omega) ?_
    have e1:((us.take n++ [t]++us.drop n).map Prt.ks).getD n []=t.ks:=by
      rw [List.getD_eq_getElem?_getD,List.getElem?_map,List.getElem?_append_left (by simp;omega),List.getElem?_append_right (by simp;omega)]
      have:n-(us.take n).length=0:=by rw [List.length_take];omega
      rw [this]
      rfl
    have e2:((us.take n++ [t]++us.drop n).map Prt.ks).getD (n+1) []=t.ks:=by
      rw [List.getD_eq_getElem?_getD,List.getElem?_map,List.getElem?_append_right (by simp;omega)]
      have:n+1-(us.take n++ [t]).length=0:=by rw [List.length_append,List.length_take];simp;omega
      rw [this,List.getElem?_drop,Nat.add_zero,hn]
      rfl
    rw [e1,e2]
    exact Iv _
  rw [e0]at g
  exact g
theorem Mj {H:Hp}{a:Addr}{us:List Prt} (h2:1<us.length) (h:SqT K H a ((us.drop 1++us.take 1).map fun t=>V.ref t.1)) (hl:us.length<=8) (hw:∀t∈us,Jt K H t) (hp:us.Pairwise (fun x y=>HT.lexLt x.ks y.ks=true)):Fm K H (.ref a) false:=by
  have hw':∀x∈us.drop 1++us.take 1,Jt K H x:=fun x hx=>by
    rcases List.mem_append.mp hx with hx | hx
    . exact hw x (List.mem_of_mem_drop hx)
    . exact hw x (List.mem_of_mem_take hx)
  have g:=Fm.good h (by rw [List.length_append,List.length_take,List.length_drop];omega) hw'
  have e0:upT ((us.drop 1++us.take 1).map Prt.ks)=false:=by
    refine Ih (us.length-2) (by rw [List.length_map,List.length_append,List.length_take,List.length_drop];omega) ?_
    have e1:((us.drop 1++us.take 1).map Prt.ks).getD (us.length-2) []=us[us.length-1].ks:=by
      rw [List.getD_eq_getElem?_getD,List.getElem?_map,List.getElem?_append_left (by rw [List.length_drop];omega),List.getElem?_drop,show 1+(us.length-2)=us.length-1 by omega,List.getElem?_eq_getElem (by omega)]
      rfl
    have e2:((us.drop 1++us.take 1).map Prt.ks).getD (us.length-2+1) []=us[0].ks:=by
      rw [List.getD_eq_getElem?_getD,List.getElem?_map,List.getElem?_append_right (by rw [List.length_drop];omega)]
      have:us.length-2+1-(us.drop 1).length=0:=by rw [List.length_drop];omega
      rw [this,List.getElem?_take_of_lt (by omega),List.getElem?_eq_getElem (by omega)]
      rfl
    rw [e1,e2]
    have hlt:=List.pairwise_iff_getElem.mp hp 0 (us.length-1) (by omega) (by omega) (by omega)
    have ne:us[us.length-1].ks≠us[0].ks:=fun z=>by
      rw [<-z,Iv]at hlt
      cases hlt
    rw [Jl _ _ ne,hlt]
    rfl
  rw [e0]at g
  exact g
theorem Tg {H:Hp}{a:Addr}{us:List Prt}{n:Nat}{v:V} (h:SqT K H a ((us.take n).map (fun t=>V.ref t.1)++ [v]++(us.drop (n+1)).map fun t=>V.ref t.1)) (hl:us.length<=8) (hv:Tm K H v false) (hw:∀t∈us,Jt K H t):Fm K H (.ref a) false:=by
  refine .bad (es:=(us.take n).map (fun t=>((V.ref t.1,true):V × Bool))++ [(v,false)]++(us.drop (n+1)).map fun t=>((V.ref t.1,true):V × Bool)) ?_ ?_ (fun e he=> ?_) ?_
  . rw [List.map_append,List.map_append,List.map_map,List.map_map]
    exact h
  . rw [List.length_append,List.length_append,List.length_map,List.length_map,List.length_take,List.length_drop]
    simp
    omega
  . rcases List.mem_append.mp he with he | he
    . rcases List.mem_append.mp he with he | he
      . obtain⟨t,ht,rfl⟩:=List.mem_map.mp he
        exact(hw t (List.mem_of_mem_take ht)).tm
      . have:e=(v,false):=by simpa using he
        rw [this]
        exact hv
    . obtain⟨t,ht,rfl⟩:=List.mem_map.mp he
      exact(hw t (List.mem_of_mem_drop ht)).tm
  . simp
theorem Jt.dr {l:Addr}{H H':Hp}{ms:List Int}{zs:List V}{t:Prt} (h:Jt K H t) (d:Dr l H H' ms) (hl:H l=some (.lst zs)):Jt K H' t:=⟨⟨d.sqT hl h.pr.pr,d.sqT hl h.pr.tu⟩,h.tm.dr d hl⟩
theorem Mf (xs:List V) (n:Nat) (h:n<=xs.length):Il xs none (some (n:Nat))=xs.take n:=by
  unfold Il
  rw [HT.Gg,HT.Jk,Nat.min_eq_left h]
  simp
theorem Ph (xs:List V) (n:Nat):Il xs (some (n:Nat)) none=xs.drop n:=by
  unfold Il
  rw [HT.Gg,HT.Jk]
  by_cases h:n<=xs.length
  . rw [Nat.min_eq_left h,List.take_of_length_le (by simp)]
  . rw [Nat.min_eq_right (by omega),List.drop_of_length_le (by omega),List.drop_of_length_le (by omega)]
    simp
def Dz (K:PySem.W.Frag):Sp:=fun vs H Q _=>∃(l a:Addr) (ns:List Int) (us:List Prt),vs=[.ref l,.ref a]/\H l=some (.lst (ns.map V.int))/\Fmd H a us/\∀v H' ms,Dr l H H' ms->Fm K H' v false->Q v H'
theorem Hw {f:Addr}{fd:FuncData} (F:Df K mg "_law_spoiled" Cw ["_law_draws_here","_law_one"] f fd) (z_len:mg "len"=none) (z_list:mg "list"=none)  (c_q_next:Cal P w K mg base 1 "_law_next" ["_law_draws_here","_law_most"] (Bj K)) (c_q_odd:Cal P w K mg base 2 "_law_odd" ["_law_draws_here","_law_term"] (Jz K)):Cal P w K mg base 3 "_law_spoiled" ["_law_draws_here","_law_one"] (Dz K):=by
  refine F.cal (F.fn.ok Cd (fun vs H Q E h=> ?_) (fun cdv A outer s H vs Q E hr h=> ?_))
  . obtain⟨l,a,ns,us,rfl,_⟩:=h
    rfl
  obtain⟨l,a,ns,us,rfl,hS,fm,k⟩:=h
  refine S.Bv ⟨_,(S.Ae (S.Ay (i:=2) Cd.nd rfl (Or.inl rfl) (S.Bc c_q_next (hr.mono (by decide)) (S.Aa (S.pv 0) (S.Aa S.Ac S.Ab))))
      (S.Ae (S.Dc (S.Ji (S.Ht (S.Am Kh (S.pv 2) S.Ac (Ax _)) (S.Fj (S.Am (Pa hr.units) (S.pv 1) (S.Ah S.Ab) (Ax _))))) (S.Ag (S.Aw (S.G8 Ja (S.Br (S.Aa (S.Dy Ie rfl z_list PyProof.Rows.boot_list (S.Aa (S.pv 1) S.Ab)) (S.Aa S.Fl (S.Aa S.Ac (S.Aa S.Ik (S.Aa (S.Br S.Ab) (S.Aa S.Dd S.Ab))))))) (S.Bc c_q_next (hr.mono (by decide)) (S.Aa (S.pv 0) (S.Aa S.Ac S.Ab))) (fun _ _=>rfl)))) S.Bg)
      (S.Ae (S.Ay (i:=3) Cd.nd rfl (Or.inl rfl) (S.Bc c_q_next (hr.mono (by decide)) (S.Aa (S.pv 0) (S.Aa (S.Bo Ar rfl z_len PySem.boot_len (S.Aa (S.pv 1) S.Ab)) S.Ab))))
      (S.Ae (S.Dc (S.Am Kh (S.pv 2) S.Ac (Ax _)) (S.Ag (S.Aw (S.Aj Ed (S.Aj Ed (S.Bh Cv (S.pv 1) S.Bs (S.Bk (S.pv 3))) (S.Ah (S.Aa (S.G8 Lk (S.pv 1) (S.pv 3) (fun _ _=>rfl)) S.Ab))) (S.Bh Cv (S.pv 1) (S.Bk (S.pv 3)) S.Bs)))) S.Bg)
      (S.Ae (S.Dc (S.Ji (S.Fy (S.Am Kh (S.pv 2) S.Ac (Ax _)) (S.Ef (S.Am Tw (S.Bo Ar rfl z_len PySem.boot_len (S.Aa (S.pv 1) S.Ab)) S.Ac (Ax _))))) (S.Ag (S.Aw (S.Aj Ed (S.Bh Cv (S.pv 1) (S.Bk S.Ac) S.Bs) (S.Bh Cv (S.pv 1) S.Bs (S.Bk S.Ac))))) S.Bg)
      (S.Ag (S.Aw (S.Aj Ed (S.Aj Ed (S.Bh Cv (S.pv 1) S.Bs (S.Bk (S.pv 3))) (S.Ah (S.Aa (S.Bc c_q_odd (hr.mono (by decide)) (S.Aa (S.pv 0) (S.Aa (S.G8 Lk (S.pv 1) (S.pv 3) (fun _ _=>rfl)) S.Ab))) S.Ab))) (S.Bh Cv (S.pv 1) (S.Bk (S.Aj Bp (S.pv 3) S.Ac)) S.Bs))))))))),?_⟩
  refine Bl (fun σ' H'=>∃(w:Int) (ms:List Int),Dr l H H' ms/\σ'=[some (.ref l),some (.ref a),some (.int w),none]) (fun M hM=> ?_) ?_
  . contradiction
    exact Bw hS (by decide) fun r H1 ms r0 r1 d1=>hM _ _ ⟨r,ms,d1,rfl⟩
  rintro σ H1 ⟨w,ms,d1,rfl⟩
  have fm1:=fm.dr d1 hS
  refine Bl (fun σ' H'=>Same H1 H'/\us≠ []/\σ'=[some (.ref l),some (.ref a),some (.int w),none]) (fun M hM=> ?_) ?_
  . contradiction
    have ret:∀G,Same H1 G->∃p ys,[V.ref a]=[V.ref p]/\(SqL K G p ys\/SqT K G p ys)/\∀l_1,G l_1=none->0<=sizeLine/\∀p,upd G l_1 (.lst ys) p=none->6<=sizeLine/\∀p_1,upd (upd G l_1 (.lst ys)) p (.lst []) p_1=none->
        Bj K [V.ref l,V.int 6] (upd (upd (upd G l_1 (.lst ys)) p (.lst [])) p_1 (.lst [V.ref l_1,V.non,V.int 0,V.str (Str.ofString "x"),V.ref p,V.bl true])) (fun y H2=>Vg K (V.ref p_1) y H2 Q) E0:=fun G sG=>by
      refine⟨a,_,rfl,.inr (.of (fm1.mono sG).it),fun q1 hq1=>⟨by decide,fun q2 hq2=>⟨by decide,fun q3 hq3=> ?_⟩⟩⟩
      have s1:=Same.upd hq1 (.lst (us.map fun t=>V.ref t.1))
      have s2:=Same.upd hq2 (.lst [])
      have s3:=Same.upd hq3 (.lst [V.ref q1,V.non,V.int 0,V.str (Str.ofString "x"),V.ref q2,V.bl true])
      have l2:=s2 _ _ (s1 _ _ (sG _ _ d1.it))
      have n3:q3≠l:=Ne.symm (Ai l2 hq3)
      have e1:=s3 _ _ (s2 _ _ (Ad:upd G q1 (.lst (us.map fun t=>V.ref t.1)) q1=_))
      have e2:=s3 _ _ (Ad:upd (upd G q1 (.lst (us.map fun t=>V.ref t.1))) q2 (.lst []) q2=_)
      refine Bw (s3 _ _ l2) (by decide) fun r H4 ms r0 r1 d4=> ?_
      have g4:=d4.sm _ _ n3 (Ad:upd (upd (upd G q1 (.lst (us.map fun t=>V.ref t.1))) q2 (.lst [])) q3 (.lst [V.ref q1,V.non,V.int 0,V.str (Str.ofString "x"),V.ref q2,V.bl true]) q3=_)
      have dk:Dr l H H4 ms:=(d1.same (((sG.trans s1).trans s2).trans s3)).trans d4
      obtain⟨y1,f1⟩:=d4.lst e1
      obtain⟨y2,f2⟩:=d4.lst e2
      have c6:r=0\/r=1\/r=2\/r=3\/r=4\/r=5:=by omega
      rcases c6 with rfl | rfl | rfl | rfl | rfl | rfl
      . exact Hx (.of g4) (v:= .ref q1) rfl (k _ _ ms dk (.lst f1))
      . exact Hx (.of g4) (v:= .non) rfl (k _ _ ms dk .non)
      . exact Hx (.of g4) (v:= .int 0) rfl (k _ _ ms dk (.int 0))
      . exact Hx (.of g4) (v:= .str (Str.ofString "x")) rfl (k _ _ ms dk (.str _))
      . exact Hx (.of g4) (v:= .ref q2) rfl (k _ _ ms dk (.lst f2))
      . exact Hx (.of g4) (v:= .bl true) rfl (k _ _ ms dk (.bl true))
    by_cases w0:w=0
    . rw [if_pos w0]
      exact ret _ (Same.refl _)
    rw [if_neg w0]
    refine⟨by decide,fun p hp=> ?_⟩
    have sp:=Same.upd hp (.tup [])
    refine Qa (fm1.mono sp) Ad ⟨_,rfl,?_⟩
    by_cases u0:us=[]
    . rw [if_pos (decide_eq_true u0)]
      exact ret _ sp
    . rw [if_neg (by simpa using u0)]
      exact hM _ _ ⟨sp,u0,rfl⟩
  rintro σ H2 ⟨s2,u0,rfl⟩
  have fm2:=fm1.mono s2
  have g2:=s2 _ _ d1.it
  have ul:0<us.length:=List.length_pos_iff.mpr u0
  refine Bl (fun σ' H'=>∃(n:Nat) (ms:List Int),n<us.length/\Dr l H2 H' ms/\σ'=[some (.ref l),some (.ref a),some (.int w),some (.int (n:Nat))]) (fun M hM=> ?_) ?_
  . contradiction
    refine⟨a,_,rfl,.inr (.of fm2.it),?_⟩
    rw [List.length_map]
    refine Bw g2 (by omega) fun r H3 ms r0 r1 d3=>hM _ _ ⟨r.toNat,ms,by omega,d3,by rw [Int.toNat_of_nonneg r0]⟩
  rintro σ H3 ⟨n,ms3,hn,d3,rfl⟩
  have fm3:=fm2.dr d3 g2
  have dd:Dr l H H3 ms3:=((d1.same s2).trans d3)
  refine Bl (fun σ' H'=>H'=H3/\σ'=[some (.ref l),some (.ref a),some (.int w),some (.int (n:Nat))]) (fun M hM=> ?_) ?_
  . contradiction
    by_cases w1:w=1
    case neg=>
      rw [if_neg w1]
      exact hM _ _ ⟨rfl,rfl⟩
    rw [if_pos w1]
    refine⟨a,_,rfl,.of fm3.it,fun z1 G1 t1 h1=> ?_⟩
    rw [Mf _ _ (by rw [List.length_map];omega),<-List.map_take]at h1
    refine Nu (.of ((fm3.mono t1).it)) (v:= .ref us[n].1) (Ej (by rw [List.getElem?_map,List.getElem?_eq_getElem hn];rfl)) fun p hp=> ?_
    have sp:=Same.upd hp (.tup [V.ref us[n].1])
    refine⟨z1,p,_,_,rfl,rfl,sp.tup h1,.of Ad,?_,fun z2 G2 t2 h2=> ?_⟩
    . rw [List.length_map,List.length_take]
      exact Nat.le_trans (show _<=9 by have:=fm.le;simp;omega) (by decide)
    refine⟨a,_,rfl,.of ((((fm3.mono t1).mono sp).mono t2).it),fun z3 G3 t3 h3=> ?_⟩
    rw [Ph,<-List.map_drop]at h3
    refine⟨z2,z3,_,_,rfl,rfl,t3.tup h2,h3,?_,fun z4 G4 t4 h4=> ?_⟩
    . exact Nat.le_trans (show _<=17 by have:=fm.le;simp;omega) (by decide)
    have tt:=(((t1.trans sp).trans t2).trans t3).trans t4
    refine k _ _ ms3 (dd.same tt) (Nk (List.getElem?_eq_getElem hn) ?_ fm.le (fm3.mono tt).tmin)
    rw [List.map_append,List.map_append]
    exact h4
  rintro σ H4 ⟨e4,rfl⟩
  rw [e4]
  clear e4 H4
  refine Bl (fun σ' H'=>H'=H3/\σ'=[some (.ref l),some (.ref a),some (.int w),some (.int (n:Nat))]) (fun M hM=> ?_) ?_
  . contradiction
    by_cases w2:w=2
    case neg=>
      rw [if_neg w2]
      exact hM _ _ ⟨rfl,rfl⟩
    rw [if_pos w2]
    refine⟨a,_,rfl,.inr (.of fm3.it),?_⟩
    rw [List.length_map]
    by_cases l2:(1:Int)<((us.length:Nat):Int)
    case neg=>
      rw [if_neg l2]
      exact hM _ _ ⟨rfl,rfl⟩
    rw [if_pos l2]
    refine⟨a,_,rfl,.of fm3.it,fun z1 G1 t1 h1=>⟨a,_,rfl,.of (fm3.mono t1).it,fun z2 G2 t2 h2=> ?_⟩⟩
    rw [O5,<-List.map_drop]at h1
    rw [show(some (1:Int))=some ((1:Nat):Int)from rfl,Mf _ _ (by rw [List.length_map];omega),<-List.map_take]at h2
    refine⟨z1,z2,_,_,rfl,rfl,t2.tup h1,h2,?_,fun z4 G4 t4 h4=> ?_⟩
    . exact Nat.le_trans (show _<=17 by have:=fm.le;simp;omega) (by decide)
    have tt:=(t1.trans t2).trans t4
    refine k _ _ ms3 (dd.same tt) (Mj (by omega) ?_ fm.le (fm3.mono tt).tmin fm.pw)
    rw [List.map_append]
    exact h4
  rintro σ H4 ⟨e4,rfl⟩
  rw [e4]
  clear e4 H4
  contradiction
  refine⟨a,_,rfl,.of fm3.it,fun z1 G1 t1 h1=> ?_⟩
  rw [Mf _ _ (by rw [List.length_map];omega),<-List.map_take]at h1
  have f1:=fm3.mono t1
  obtain⟨wt,tn,wt0⟩:=f1.al us[n] (List.getElem_mem hn)
  have l1:=t1 _ _ d3.it
  refine Nu (.of f1.it) (v:= .ref us[n].1) (Ej (by rw [List.getElem?_map,List.getElem?_eq_getElem hn];rfl)) ⟨l,ms3,us[n],wt,rfl,l1,tn,wt0,fun v G2 m2 d2 hv p hp=> ?_⟩
  have sp:=Same.upd hp (.tup [v])
  have h1':=d2.sqT l1 h1
  have f2:=(f1.dr d2 l1).mono sp
  refine⟨z1,p,_,_,rfl,rfl,sp.tup h1',.of Ad,?_,fun z2 G3 t2 h2=> ?_⟩
  . exact Nat.le_trans (show _<=17 by have:=fm.le;simp;omega) (by decide)
  refine⟨a,_,rfl,.of (f2.mono t2).it,fun z3 G4 t3 h3=> ?_⟩
  rw [show(some ((n:Int)+1))=some ((n+1:Nat):Int)from rfl,Ph,<-List.map_drop]at h3
  refine⟨z2,z3,_,_,rfl,rfl,t3.tup h2,h3,?_,fun z4 G5 t4 h4=> ?_⟩
  . exact Nat.le_trans (show _<=17 by have:=fm.le;simp;omega) (by decide)
  have tt:=((sp.trans t2).trans t3).trans t4
  exact k _ _ m2 (((dd.same t1).trans d2).same tt) (Tg h4 fm.le (hv.mono tt) ((f2.mono ((t2.trans t3).trans t4)).tmin))
theorem Sx {H H1:Hp}{Q:VK}{E:XK}{a:Addr}{ns:List Int}{j:Int} (hS:SqL K H1 a (ns.map V.int)) (s1:Same H1 H) (h0:0<=j) (h:Q (.int (cell ns j)) H):Ci K [.ref a,.int j] H Q E:=⟨a,ns,j,rfl,s1.seq hS,h0,h⟩
theorem Fmd.fm {H:Hp}{a:Addr}{us:List Prt} (h:Fmd H a us):Fm K H (.ref a) true:=by
  have g:=Fm.good (K:=K) (.of h.it) (Nat.le_trans h.le (by decide)) h.tmin
  rw [Ou h.pw]at g
  exact g
theorem Dr.back {l:Addr}{H H1 H2:Hp}{ms:List Int} (d:Dr l H1 H2 ms) (n:H l=none) (s:Same H H1):Same H H2:=fun b u e=>d.sm b u (Ai e n) (s _ _ e)
theorem Sw {f:Addr}{fd:FuncData} (F:Df K mg "law" Hz ["_law_script"] f fd)   (c_q_draws:Cal P w K mg base 1 "_law_draws" ["_law_cell","_law_many"] (Fw K)) (c_q_next:Cal P w K mg base 1 "_law_next" ["_law_draws_here","_law_most"] (Bj K)) (c_q_sum:Cal P w K mg base 1 "_law_sum" ["_law_terms_here"] (Ju K)) (c_q_cell_at:Cal P w K mg base 1 "_law_cell_at" ["_law_script","_law_k"] (Ci K)) (c_q_terms:Cal P w K mg base 3 "_law_terms" ["_law_draws_here","_law_many","_law_most"] (Fv K)) (c_is_form:Cal P w K mg base 3 "is_form" ["thing"] (Fx K)) (c_q_spoiled:Cal P w K mg base 3 "_law_spoiled" ["_law_draws_here","_law_one"] (Dz K)):Hf P w K mg base CX0 4 f fd ["_law_script"] (Nv K):=by
  refine F.fn.ok Io (fun vs H Q E h=> ?_) (fun cdv A outer s H vs Q E hr h=> ?_)
  . obtain⟨a,ns,rfl,_⟩:=h
    rfl
  obtain⟨a,ns,rfl,hS,h63,k⟩:=h
  refine S.Bv ⟨_,(S.Ae (S.Eh PassesOwn.never rfl (S.Gd (S.Aj J1 (S.Br (S.Aa (S.Bc c_q_cell_at (hr.mono (by decide)) (S.Aa (S.pv 0) (S.Aa S.Ac S.Ab))) S.Ab)) (S.Bh K1 (S.pv 0) (S.Bk S.Ac) (S.Bk S.Ac)))) (S.Aq (i:=1) Io.nd rfl (Or.inl rfl)) (S.Ae (S.Ay (i:=2) Io.nd rfl (Or.inl rfl) (S.Bc c_q_draws (hr.mono (by decide)) (S.Aa (S.pv 1) (S.Aa S.Ac S.Ab))))
      (S.Ae (S.Ay (i:=3) Io.nd rfl (Or.inl rfl) (S.Bc c_q_next (hr.mono (by decide)) (S.Aa (S.pv 2) (S.Aa S.Ac S.Ab))))
      (S.Ae (S.Ay (i:=4) Io.nd rfl (Or.inl rfl) (S.Bc c_q_sum (hr.mono (by decide)) (S.Aa (S.Bc c_q_terms (hr.mono (by decide)) (S.Aa (S.pv 2) (S.Aa S.Ac (S.Aa S.Ac S.Ab)))) S.Ab)))
      (S.Ae (S.Dc (S.Am Mv (S.Bc c_is_form (hr.mono (by decide)) (S.Aa (S.pv 4) S.Ab)) S.Dd (Ax _)) (S.Ag (S.Aw S.Dd)) S.Bg)
      (S.Ag (S.Dc (S.Ji (S.Fy (S.Am Tw (S.pv 3) S.Ac (Ax _)) (S.Ef (S.Am Mv (S.Bc c_is_form (hr.mono (by decide)) (S.Aa (S.Bc c_q_spoiled (hr.mono (by decide)) (S.Aa (S.pv 2) (S.Aa (S.pv 4) S.Ab))) S.Ab)) S.Dd (Ax _))))) (S.Ag (S.Aw S.Dd)) S.Bg)))))))
      (S.Ag (S.Aw (S.Ij (S.Du Pg (S.Bc c_is_form (hr.mono (by decide)) (S.Aa (S.Ah S.Ab) S.Ab)) S.Dd (Ax _)) (S.Ia (S.Du Pg (S.Bc c_is_form (hr.mono (by decide)) (S.Aa (S.Ah (S.Aa (S.Ah (S.Aa (S.Ah (S.Aa S.Ac (S.Aa S.Ac (S.Aa S.Ac S.Ab)))) (S.Aa S.Ac S.Ab))) (S.Aa (S.Ah (S.Aa (S.Ah (S.Aa (S.Aj Dl S.Ac S.Ac) (S.Aa S.Ac (S.Aa S.Ac S.Ab)))) (S.Aa (S.Aj M6 S.Ac S.Ac) S.Ab))) S.Ab))) S.Ab)) S.Dd (Ax _))))))),?_⟩
  contradiction
  refine Sx hS (Same.refl _) (by decide) ?_
  try contradiction
  intro p hp
  have s1:=Same.upd hp (.lst [V.int (cell ns 0)])
  refine⟨a,_,rfl,s1.seq hS,fun p2 hp2=> ?_⟩
  obtain⟨qs,eq,lq⟩:=Jy ns (some 1) (some 8)
  rw [eq]
  have s2:=Same.upd hp2 (.lst (qs.map V.int))
  refine⟨p,p2,_,_,rfl,rfl,s2 _ _ Ad,Ad,?_,fun p3 hp3=>⟨p3,rfl,⟨_,.of Ad⟩,?_⟩⟩
  . rw [List.length_map]
    exact Nat.le_trans (show _<=64 by simp;omega) (by decide)
  have g3:upd (upd (upd H p (.lst [V.int (cell ns 0)])) p2 (.lst (qs.map V.int))) p3 (.lst ([V.int (cell ns 0)]++qs.map V.int)) p3=some (.lst ((cell ns 0::qs).map V.int)):=Ad
  generalize upd (upd (upd H p (.lst [V.int (cell ns 0)])) p2 (.lst (qs.map V.int))) p3 (.lst ([V.int (cell ns 0)]++qs.map V.int))=H3 at g3
  refine Rf (es:=cell ns 0::qs) (inj:=V.int) (fun _ σ' H'=>Same H3 H'/\∃o1 o2 o3 o4,σ'=[some (.ref a),o1,o2,o3,o4]) ⟨Same.refl _,_,_,_,_,rfl⟩ ?_ ?_ ?_
  . rintro _ σ' H' ⟨s4,_⟩
    exact Hv (.of (s4 _ _ g3))
  . rintro pre c post σ' H' _ ⟨s3,o1,o2,o3,o4,rfl⟩
    contradiction
    refine⟨c,rfl,fun l H4 ds nl s4 g4=> ?_⟩
    try contradiction
    refine Bw g4 (by decide) fun r H5 ms5 r0 r1 d5=> ?_
    try contradiction
    refine⟨l,ms5,rfl,d5.it,fun f H6 ms6 ts ti t8=> ?_⟩
    try contradiction
    refine⟨f,ts,rfl,ti.it,ti.al,t8,fun b H7 us s7 fm=> ?_⟩
    try contradiction
    refine⟨_,true,rfl,fm.fm,fun H8 s8=> ?_⟩
    try contradiction
    have b6:Same H' H6:=(d5.trans ti.dr).back nl s4
    have b8:=(b6.trans s7).trans s8
    refine⟨true,true,rfl,rfl,?_⟩
    rw [if_neg (by simp)]
    by_cases r2:0<r
    . rw [if_pos r2]
      refine⟨l,b,ms6,us,rfl,s8 _ _ (s7 _ _ ti.dr.it),fm.mono s8,fun v H9 ms9 d9 hv=>⟨_,false,rfl,hv,fun H10 s10=>⟨false,false,rfl,rfl,?_⟩⟩⟩
      rw [if_neg (by simp)]
      exact⟨(s3.trans (d9.back nl b8)).trans s10,_,_,_,_,rfl⟩
    . rw [if_neg r2]
      exact⟨s3.trans b8,_,_,_,_,rfl⟩
  . rintro σ' H' ⟨s4,o1,o2,o3,o4,rfl⟩
    contradiction
    refine⟨by decide,fun p hp=>⟨_,true,rfl,(show Fmd (upd H' p (.tup [])) p []from⟨Ad,by simp,.nil,by decide⟩).fm,fun H5 s5=>⟨true,true,rfl,rfl,?_⟩⟩⟩
    rw [if_pos (by decide)]
    refine⟨by decide,?_⟩
    (intro q1 hq1;generalize eq1:upd _ q1 _=Gq1;obtain⟨sq1,gq1⟩:=nw hq1 eq1;clear eq1 hq1)
    (intro q2 hq2;generalize eq2:upd _ q2 _=Gq2;obtain⟨sq2,gq2⟩:=nw hq2 eq2;clear eq2 hq2)
    refine⟨⟨by decide,by decide,by decide⟩,by decide,?_⟩
    (intro q3 hq3;generalize eq3:upd _ q3 _=Gq3;obtain⟨sq3,gq3⟩:=nw hq3 eq3;clear eq3 hq3)
    (intro q4 hq4;generalize eq4:upd _ q4 _=Gq4;obtain⟨sq4,gq4⟩:=nw hq4 eq4;clear eq4 hq4)
    (try refine⟨by decide,?_⟩)
    (intro q5 hq5;generalize eq5:upd _ q5 _=Gq5;obtain⟨sq5,gq5⟩:=nw hq5 eq5;clear eq5 hq5)
    have t4:=sq5
    have t3:=sq4.trans t4
    have t2:=sq3.trans t3
    have t1:=sq2.trans t2
    have fm:Fmd Gq5 q5 [(q2,q1,[0,0,41],.int 1),(q4,q3,[10^Int.toNat 30,0,0],.int (0-1))]:=by
      refine⟨gq5,fun t ht=> ?_,?_,by simp⟩
      . have ht':t=(q2,q1,[0,0,41],.int 1)\/t=(q4,q3,[10^Int.toNat 30,0,0],.int (0-1)):=by simpa using ht
        rcases ht' with rfl | rfl
        . exact⟨1,⟨t2 _ _ gq2,t1 _ _ gq1,rfl,by simp [Prt.ks],rfl⟩,by decide⟩
        . exact⟨0-1,⟨t4 _ _ gq4,t3 _ _ gq3,rfl,by simp [Prt.ks],rfl⟩,by decide⟩
      . refine .cons (fun t ht=> ?_) (.cons (by simp) .nil)
        have:t=(q4,q3,[10^Int.toNat 30,0,0],.int (0-1)):=by simpa using ht
        rw [this]
        show HT.lexLt [0,0,41] [10^Int.toNat 30,0,0]=true
        decide
    exact⟨_,true,rfl,fm.fm,fun H6 s6=>⟨true,true,rfl,rfl,k _⟩⟩
end
abbrev Fd (K:PySem.W.Frag) (x:Str) (st:Stmt):Prop:=∃(f:Addr) (od an:Option Addr) (sl:Array (Option Value)) (oc kV dc pm cd ct:Value),PySem.W.nsIn K mainGlobals x=some (some (.ref f))/\K.lookup f=some ⟨oc,od,.func (PySem.W.fnOf x x (Cu st) (Ca st) (Af st) .none kV dc pm an cd ct),sl⟩/\PySem.W.codeIn K cd x=true/\PySem.W.keepIn K (.ref f)=true
theorem Em {K:PySem.W.Frag}{h:Heap}{mg:Str->Option Value}{x:Str}{st:Stmt} (X:K.In h) (G:h.Ns mainGlobals mg) (d:Fd K x st) (ps:List Str) (hb:∀(kV doc pm:Value) (an:Option Addr) (cdv ct:Value) (us:List Value),us.length=ps.length->bindArgs (PySem.W.fnOf x x (Cu st) (Ca st) (Af st) .none kV doc pm an cdv ct) ⟨us,[]⟩=pure (ps.zip us)):∃f fd,Df K mg x st ps f fd:=by
  obtain⟨f,_,_,_,_,_,_,_,_,_,a,l,c,k⟩:=d
  have F:=Pn (st:=st) l c k
  exact⟨_,_,F,F.binds hb,PySem.W.mg_of X G a⟩
theorem all_mk {l:PySem.W.OpenLaw}{w:World}{K:PySem.W.Frag}{h:Heap}{mg:Str->Option Value}{fa:Addr} (X:K.In h) (G:h.Ns mainGlobals mg) (hfa:mg "law"=some (.ref fa))
    (d1:Fd K "_law_draws" Ey) (d2:Fd K "_law_next" G9) (d3:Fd K "_law_sum" Gm) (d4:Fd K "_law_cell_at" Cz) (d5:Fd K "_law_weight" Dt) (d6:Fd K "_law_terms" Et) (d7:Fd K "is_whole" Dq) (d8:Fd K "is_term" Dk) (d9:Fd K "is_form" Cj) (d10:Fd K "_law_odd" Jm) (d11:Fd K "_law_spoiled" Cw) (d12:Fd K "law" Hz)
    (zrange:PySem.W.nsIn K mainGlobals "range"=some none) (zlen:PySem.W.nsIn K mainGlobals "len"=some none) (ztuple:PySem.W.nsIn K mainGlobals "tuple"=some none) (zsorted:PySem.W.nsIn K mainGlobals "sorted"=some none) (zisinstance:PySem.W.nsIn K mainGlobals "isinstance"=some none) (zint:PySem.W.nsIn K mainGlobals "int"=some none) (zbool:PySem.W.nsIn K mainGlobals "bool"=some none) (zall:PySem.W.nsIn K mainGlobals "all"=some none) (zzip:PySem.W.nsIn K mainGlobals "zip"=some none) (zlist:PySem.W.nsIn K mainGlobals "list"=some none):
    ∃fd:FuncData,(∀(s:Shared) (v:Value),BindsTo s fd ⟨[v],[]⟩ [("_law_script",v)])/\∀base:Heap,K.In base->base.Ns mainGlobals mg->Hf l.prog w K mg base CX0 4 fa fd ["_law_script"] (Nv K):=by
  obtain⟨f12,_,an,sl,oc,kV,dc,pm,cd,ct,a12,l12,c12,k12⟩:=d12
  have e:=hfa.symm.trans (PySem.W.mg_of X G a12)
  cases e
  have z_range:=PySem.W.mg_none_of X G zrange
  have z_len:=PySem.W.mg_none_of X G zlen
  have z_tuple:=PySem.W.mg_none_of X G ztuple
  have z_sorted:=PySem.W.mg_none_of X G zsorted
  have z_isinstance:=PySem.W.mg_none_of X G zisinstance
  have z_int:=PySem.W.mg_none_of X G zint
  have z_bool:=PySem.W.mg_none_of X G zbool
  have z_all:=PySem.W.mg_none_of X G zall
  have z_zip:=PySem.W.mg_none_of X G zzip
  have z_list:=PySem.W.mg_none_of X G zlist
  obtain⟨_,_,D1⟩:=Em X G d1 ["_law_cell","_law_many"] fun _ _ _ _ _ _ us hl=>match us,hl with | [_,_],_=>rfl
  obtain⟨_,_,D2⟩:=Em X G d2 ["_law_draws_here","_law_most"] fun _ _ _ _ _ _ us hl=>match us,hl with | [_,_],_=>rfl
  obtain⟨_,_,D3⟩:=Em X G d3 ["_law_terms_here"] fun _ _ _ _ _ _ us hl=>match us,hl with | [_],_=>rfl
  obtain⟨_,_,D4⟩:=Em X G d4 ["_law_script","_law_k"] fun _ _ _ _ _ _ us hl=>match us,hl with | [_,_],_=>rfl
  obtain⟨_,_,D5⟩:=Em X G d5 ["_law_draws_here"] fun _ _ _ _ _ _ us hl=>match us,hl with | [_],_=>rfl
  obtain⟨_,_,D6⟩:=Em X G d6 ["_law_draws_here","_law_many","_law_most"] fun _ _ _ _ _ _ us hl=>match us,hl with | [_,_,_],_=>rfl
  obtain⟨_,_,D7⟩:=Em X G d7 ["thing"] fun _ _ _ _ _ _ us hl=>match us,hl with | [_],_=>rfl
  obtain⟨_,_,D8⟩:=Em X G d8 ["thing"] fun _ _ _ _ _ _ us hl=>match us,hl with | [_],_=>rfl
  obtain⟨_,_,D9⟩:=Em X G d9 ["thing"] fun _ _ _ _ _ _ us hl=>match us,hl with | [_],_=>rfl
  obtain⟨_,_,D10⟩:=Em X G d10 ["_law_draws_here","_law_term"] fun _ _ _ _ _ _ us hl=>match us,hl with | [_,_],_=>rfl
  obtain⟨_,_,D11⟩:=Em X G d11 ["_law_draws_here","_law_one"] fun _ _ _ _ _ _ us hl=>match us,hl with | [_,_],_=>rfl
  have F12:=Pn (st:=Hz) l12 c12 k12
  have D12:Df K mg "law" Hz ["_law_script"] _ _:=⟨F12,F12.binds (ps:=["_law_script"]) fun _ _ _ _ _ _ us hl=>match us,hl with | [_],_=>rfl,PySem.W.mg_of X G a12⟩
  refine⟨PySem.W.fnOf "law" "law" (Cu Hz) (Ca Hz) (Af Hz) .none kV dc pm an cd ct,fun s v=> .of_eq rfl,fun base _ _=> ?_⟩
  have C_q_draws:=Ke (P:=l.prog) (w:=w) (base:=base) D1 z_range z_len
  have C_q_next:=Mr (P:=l.prog) (w:=w) (base:=base) D2
  have C_q_sum:=Nf (P:=l.prog) (w:=w) (base:=base) D3 z_tuple z_sorted
  have C_q_cell_at:=Ho (P:=l.prog) (w:=w) (base:=base) D4 z_len
  have C_q_weight:=Iz (P:=l.prog) (w:=w) (base:=base) D5 C_q_next
  have C_q_terms:=Kd (P:=l.prog) (w:=w) (base:=base) D6 z_range C_q_next C_q_weight
  have C_is_whole:=Jj (P:=l.prog) (w:=w) (base:=base) D7 z_isinstance z_int z_bool
  have C_is_term:=J8 (P:=l.prog) (w:=w) (base:=base) D8 z_all z_isinstance z_tuple z_len C_is_whole
  have C_is_form:=Ko (P:=l.prog) (w:=w) (base:=base) D9 z_all z_isinstance z_tuple z_zip C_is_term
  have C_q_odd:=N7 (P:=l.prog) (w:=w) (base:=base) D10 z_len C_q_next
  have C_q_spoiled:=Hw (P:=l.prog) (w:=w) (base:=base) D11 z_len z_list C_q_next C_q_odd
  exact Sw (P:=l.prog) (w:=w) (base:=base) D12 C_q_draws C_q_next C_q_sum C_q_cell_at C_q_terms C_is_form C_q_spoiled
theorem walk {l:PySem.W.OpenLaw}{q:Program}{loose:List Str}{XP:(Str->Option Value)->Heap->Prop}{YP:World->Heap->Prop}{d:DefRec}{K:Params->PySem.W.Frag} (hn:l.most=some 63) (hdf:d.params.defaults=[])
    (hY:∀(w:World) (h:Heap),YP w h->(K w.params).In h)
    (F:∀(w:World) (mg:Str->Option Value) (fa:Addr) (h:Heap),(K w.params).In h->h.Ns mainGlobals mg->mg d.name=some (.ref fa)->
      ∃fd:FuncData,(∀(s:Shared) (u:Value),BindsTo s fd ⟨[u],[]⟩ [("_law_script",u)])/\∀base:Heap,(K w.params).In base->base.Ns mainGlobals mg->Hf l.prog w (K w.params) mg base CX0 4 fa fd ["_law_script"] (Nv (K w.params))):
    PySem.W.WalkO q loose XP YP l.row.toRowW d [] (fun f vs=>PySem.call f vs):=
  L2.Kz (n:=63) (k:=4) (x:="_law_script") (CX:=fun _=>CX0) (sp:=fun w=>Nv (K w.params)) hn (by decide) hdf ⟨rfl,by decide,by decide⟩ hY F (fun _ _ a ns hl _ hS=>⟨a,ns,rfl,hS,hl,fun _=>rfl⟩) fun _ _ _ _ _ z=>z
end Z
namespace PySem.W.Fast
def tw10000740294991780793:=()
def tw10066976997961944946:=()
def tw10117250120918902872:=()
def tw10268110885624418872:=()
def tw10336766110828465650:=()
def tw10355947516311802494:=()
def tw10409502731436435017:=()
def tw10440262156390560343:=()
def tw10589837634024434835:=()
def tw10915703296585283056:=()
def tw11174481667900601657:=()
def tw11396552004155987111:=()
def tw12060250900044694924:=()
def tw12514013269844747228:=()
def tw12643812281982347913:=()
def tw1267005751856543656:=()
def tw13026475890749279993:=()
def tw13030988861249779618:=()
def tw13122439393299837796:=()
def tw13122465228660771140:=()
def tw13629245184457789942:=()
def tw13715477961393027543:=()
def tw14236730363420510866:=()
def tw14426286777815905954:=()
def tw1444028210132574447:=()
def tw14759599634612313349:=()
def tw14785140409231513281:=()
def tw15042780017703964700:=()
def tw15249564335998997130:=()
def tw15583306342575628556:=()
def tw15586389448694656297:=()
def tw1566374188357353295:=()
def tw15892247093694428503:=()
def tw16139093918953122600:=()
def tw16158376498851721041:=()
def tw1628619956802471530:=()
def tw16463915249359238935:=()
def tw16577819732389209201:=()
def tw16646211146649127338:=()
def tw16667753791134406489:=()
def tw16700828557986732323:=()
def tw17094348031100700864:=()
def tw17235600772211000611:=()
def tw17812958509645316284:=()
def tw17911664293380317104:=()
def tw18038808482508134056:=()
def tw1807712371648133202:=()
def tw2150194337898190113:=()
def tw2346972892938341053:=()
def tw2783293668930695028:=()
def tw2916200757648548040:=()
def tw3211620385290567944:=()
def tw3293359772728487217:=()
def tw3295162104469230940:=()
def tw3388662276408287889:=()
def tw3394003562334249504:=()
def tw36105105442847624:=()
def tw3685923354304575690:=()
def tw3964834991069051920:=()
def tw4058767996910088985:=()
def tw4147883886488542774:=()
def tw434746347232733216:=()
def tw4573859717020004319:=()
def tw4680447621196955245:=()
def tw4708820135655293015:=()
def tw5534372616656574196:=()
def tw5582471581741933990:=()
def tw6175335041210103838:=()
def tw6185258141115712721:=()
def tw6356475151570195975:=()
def tw6600402700769102409:=()
def tw6693258406686385029:=()
def tw6725430569516898549:=()
def tw6818537608382708630:=()
def tw685383614703838452:=()
def tw7148305420488091165:=()
def tw7419375304720662164:=()
def tw784632176452778519:=()
def tw8140725667757492499:=()
def tw824438443385924384:=()
def tw8566676586276946839:=()
def tw8662176316924665098:=()
def tw9170475612861382316:=()
def tw9207568663163898238:=()
def tw9216210225469397068:=()
def tw965973856134989916:=()
def tw9764918072280105436:=()
end PySem.W.Fast
open PySem PySem.W PyProof.Rows
set_option maxRecDepth 100000 in
set_option maxHeartbeats 0 in
theorem PySem.Challenge.cw_rootcourt_k34_what_is_a_form_holds : PySem.Challenge.rw_rootcourt_k34_what_is_a_form.Holds := by
  w_on;o_law;k_head;(case hw=>w_witness2)
  k_fill
  refine Z.walk (l:=PySem.Challenge.rw_rootcourt_k34_what_is_a_form) rfl rfl (fun w h Y=>PySem.W.kIn_of Y) ?F
  case F=>
    intro w mg fa h KX G hmg
    refine' Z.all_mk KX G hmg ?d1 ?d2 ?d3 ?d4 ?d5 ?d6 ?d7 ?d8 ?d9 ?d10 ?d11 ?d12   ?zrange ?zlen ?ztuple ?zsorted ?zisinstance ?zint ?zbool ?zall ?zzip ?zlist
    all_goals first | k_is | exact⟨_,_,_,_,_,_,_,_,_,_,by k_is,by k_is,by k_is,by k_is⟩
